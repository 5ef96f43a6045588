import PyProof.Rows.All
import Wide.All
import OpenK.AllK
import Wide.FinOn
import HandS.ForMost
import HandS.Wide
import HandS.WideBits
import PyProof.ReprRoads
import HandS.Style
import PySem.Challenge.RW_tiedtables_k08_deeds_walked
import HandS.Strs
import PyProof.CallFns
import HandS.IsInst
import HandS.StrMore
import HandS.Walk
import PyProof.Rows.IntBool
import PyProof.Rows.StrDigitsNeg
import PyProof.Rows.StrJoinMade
import PyProof.Rows.StrCase
import HandS.Iter
import KE.GoesEnum
import PyProof.StrOps2
import HandS.TryOnly
import HandS.Exc
import HandS.ExcField
import KE.KExcIs
import HandS.ExcInit
import KE.KExcInit
import HandS.CallSlots
import HandS.WordsExc
import HandS.Lambda
import HandS.JoinGen
import HandS.SortKw
import KE.SortKeyHeap
import HandS.SetKeys
import PyProof.DictMoreH
import HandS.DictComp
import PyProof.DictFindH
import HandS.SetFor
import HandS.Call
import HandS.More
import HandS.Dict
import HandS.EndTab
import HandS.ExcIs
import KE.KNestM
import KE.KLam
set_option Elab.async false
set_option linter.all false
set_option maxRecDepth 100000
namespace TT
open PySem PySem.Spec PyProof.Rows L2

/-! ### an own def of the module, by its name -/
def Def (P : Program) (w : World) (K : PySem.W.Frag) (mg : Str → Option Value) (base : Heap) (k : Nat) (x : Str) (ps : List Str) (sp : Sp) : Prop :=
  ∃ f fd, mg x = some (.ref f) ∧ PySem.W.keepIn K (.ref f) = true ∧ Binds K fd ps [] ∧ FnOk P w K mg base CX0 k f fd ps sp
section
variable {X : Cx} {k j : Nat} {x : Str} {ps : List Str} {sp : Sp} {p pos : Pos} {e : Expr} {es : List Expr} {t : TA}
theorem pe_own (D : Def X.prog X.w X.K X.mg X.base k x ps sp) (hr : Room j X.A) (ha : PA X (e :: es) t) (hkj : k ≤ j := by decide) (hg : Gl X x := by rfl) (hdb : (x == ("__debug__" : Str)) = false := by decide)
    (he : starEach (e :: es) X.env = (false, eval e X.env) :: starEach es X.env := by rfl) (hpl : (backTo pos (starEach es X.env)).any (·.1) = false := by rfl) :
    PE X (.Call (.Name x p) (e :: es) [] pos) (tCall sp [] E0 t) := by
  obtain ⟨f, fd, hm, hk, hb, F⟩ := D
  exact pe_call F (hr.mono hkj) hg hm hk hb .nil pass0 ha hdb he hpl
theorem pe_gint {i : Int} (h : ∃ u, X.mg x = some (.int i u)) (hg : Gl X x := by rfl) (hdb : (x == ("__debug__" : Str)) = false := by decide) : PE X (.Name x p) (tC (.int i)) := by
  obtain ⟨u, hm⟩ := h
  exact pe_glob hg hm ⟨u, rfl⟩ hdb
end
theorem Def.mk {P : Program} {w : World} {K : PySem.W.Frag} {mg : Str → Option Value} {base : Heap} {k : Nat} {x : Str} {ps : List Str} {sp : Sp} {f : Addr} {fd : FuncData} (h1 : mg x = some (.ref f)) (h2 : PySem.W.keepIn K (.ref f) = true) (h3 : Binds K fd ps []) (h4 : FnOk P w K mg base CX0 k f fd ps sp) : Def P w K mg base k x ps sp := ⟨f, fd, h1, h2, h3, h4⟩

/-- the built-in names stand as they are -/
structure NB (mg : Str → Option Value) : Prop where
  b_list : mg "list" = none
  b_len : mg "len" = none
  b_divmod : mg "divmod" = none
  b_range : mg "range" = none
  b_min : mg "min" = none
  b_int : mg "int" = none
  b_bool : mg "bool" = none
  b_str : mg "str" = none
  b_tuple : mg "tuple" = none
  b_all : mg "all" = none
  b_any : mg "any" = none
  b_repr : mg "repr" = none
  b_isinstance : mg "isinstance" = none
  b_zip : mg "zip" = none
  b_enumerate : mg "enumerate" = none
  b_set : mg "set" = none
  b_sum : mg "sum" = none
  b_sorted : mg "sorted" = none
  b_max : mg "max" = none

/-! ### masks: what is not to be leant on -/
def msk (M : List Addr) (H : Hp) : Hp := fun p => if p ∈ M then none else H p
/-- all but what stands at M is as it was -/
def Kept (M : List Addr) (H H' : Hp) : Prop := ∀ p o, H p = some o → p ∉ M → H' p = some o
theorem Kept.refl (M : List Addr) (H : Hp) : Kept M H H := fun _ _ h _ => h
theorem Kept.trans {M : List Addr} {H H1 H2 : Hp} (a : Kept M H H1) (b : Kept M H1 H2) : Kept M H H2 := fun p o h n => b p o (a p o h n) n
theorem Kept.of_same {M : List Addr} {H H' : Hp} (h : Same H H') : Kept M H H' := fun p o e _ => h p o e
theorem Kept.upd_new {M : List Addr} {H : Hp} {p : Addr} {o : HO} (h : H p = none) : Kept M H (upd H p o) := fun b u e _ => by
  rw [upd_ne (ne_of_none e h)]; exact e
theorem Kept.upd_in {M : List Addr} {H : Hp} {p : Addr} {o : HO} (h : p ∈ M) : Kept M H (upd H p o) := fun b u e n => by
  rw [upd_ne (fun (z : b = p) => n (by rw [z]; exact h))]; exact e
theorem Kept.mono {M M' : List Addr} {H H' : Hp} (h : Kept M H H') (s : ∀ p ∈ M, p ∈ M') : Kept M' H H' := fun p o e n => h p o e fun z => n (s p z)
/-- less is masked: what is masked no more was not there -/
theorem Kept.new {M : List Addr} {p : Addr} {H H' : Hp} (h : Kept (p :: M) H H') (n : H p = none) : Kept M H H' := fun b o e nb => h b o e fun z => by
  rcases List.mem_cons.mp z with rfl | z
  · rw [n] at e; cases e
  · exact nb z
theorem Kept.at {M : List Addr} {H H' : Hp} (h : Kept M H H') {p : Addr} {o : HO} (e : H p = some o) (n : p ∉ M) : H' p = some o := h p o e n
theorem msk_same {M : List Addr} {H H' : Hp} (h : Kept M H H') : Same (msk M H) (msk M H') := fun p o e => by
  unfold msk at e ⊢
  by_cases hp : p ∈ M
  · rw [if_pos hp] at e; cases e
  · rw [if_neg hp] at e ⊢; exact h p o e hp
theorem msk_sub (M : List Addr) (H : Hp) : Same (msk M H) H := fun p o e => by
  unfold msk at e
  by_cases hp : p ∈ M
  · rw [if_pos hp] at e; cases e
  · rw [if_neg hp] at e; exact e
/-- a new address may be masked, too -/
theorem msk_new {M : List Addr} {H : Hp} {p : Addr} (n : H p = none) : Same (msk M H) (msk (p :: M) H) := fun b o e => by
  have e' := msk_sub M H b o e
  unfold msk at e ⊢
  by_cases hp : b ∈ M
  · rw [if_pos hp] at e; cases e
  · rw [if_neg hp] at e
    rw [if_neg (fun z => by
      rcases List.mem_cons.mp z with rfl | z
      · rw [n] at e; cases e
      · exact hp z)]
    exact e
theorem msk_less {M M' : List Addr} {H : Hp} (s : ∀ p ∈ M', p ∈ M) : Same (msk M H) (msk M' H) := fun p o e => by
  unfold msk at e ⊢
  by_cases hp : p ∈ M
  · rw [if_pos hp] at e; cases e
  · rw [if_neg hp] at e
    rw [if_neg (fun z => hp (s p z))]; exact e

/-! ### data -/
theorem sameT {K : PySem.W.Frag} {H H' : Hp} {a : Addr} {xs : List V} (e : Same H H') (h : SqT K H a xs) : SqT K H' a xs := by
  rcases h with (h | ⟨o, h⟩) | h
  · exact .inl (.inl (e _ _ h))
  · exact .inl (.inr ⟨o, e _ _ h⟩)
  · exact .inr h
mutual
theorem dp_same {K : PySem.W.Frag} {H H' : Hp} (e : Same H H') : ∀ {d : PyData} {v : V}, Dp K H v d → Dp K H' v d
  | _, _, .non => .non
  | _, _, .bl b => .bl b
  | _, _, .int i => .int i
  | _, _, .str x => .str x
  | _, _, .lst h a => .lst (e.seq h) (dpAll_same e a)
  | _, _, .tup h a => .tup (sameT e h) (dpAll_same e a)
theorem dpAll_same {K : PySem.W.Frag} {H H' : Hp} (e : Same H H') : ∀ {ds : List PyData} {vs : List V}, DpAll K H vs ds → DpAll K H' vs ds
  | _, _, .nil => .nil
  | _, _, .cons h t => .cons (dp_same e h) (dpAll_same e t)
end
theorem dpAll_len {K : PySem.W.Frag} {H : Hp} : ∀ {ds : List PyData} {vs : List V}, DpAll K H vs ds → vs.length = ds.length
  | _, _, .nil => rfl
  | _, _, .cons _ t => congrArg (· + 1) (dpAll_len t)
theorem dpAll_get {K : PySem.W.Frag} {H : Hp} : ∀ {ds : List PyData} {vs : List V} (i : Nat) {v : V}, DpAll K H vs ds → vs[i]? = some v → ∃ d, ds[i]? = some d ∧ Dp K H v d
  | _, _, _, _, .nil, e => by simp at e
  | _, _, 0, _, .cons h _, e => by simp at e; subst e; exact ⟨_, rfl, h⟩
  | _, _, i + 1, v, .cons _ t, e => by
    obtain ⟨d, h1, h2⟩ := dpAll_get i (v := v) t (by simpa using e)
    exact ⟨d, by simpa using h1, h2⟩
theorem dpAll_app {K : PySem.W.Frag} {H : Hp} : ∀ {ds es : List PyData} {vs us : List V}, DpAll K H vs ds → DpAll K H us es → DpAll K H (vs ++ us) (ds ++ es)
  | _, _, _, _, .nil, s => s
  | _, _, _, _, .cons h t, s => .cons h (dpAll_app t s)
theorem dpAll_snoc {K : PySem.W.Frag} {H : Hp} {ds : List PyData} {d : PyData} {vs : List V} {v : V} (a : DpAll K H vs ds) (h : Dp K H v d) : DpAll K H (vs ++ [v]) (ds ++ [d]) := dpAll_app a (.cons h .nil)

/-! ### the state of the draws -/
def kCells : Key := Sum.inr "cells"
def kTurn : Key := Sum.inr "turn"
theorem kne : ¬ (kCells = kTurn) := by decide +kernel
def stD (c : Addr) (t : Int) : List (Key × V) := [(kCells, .ref c), (kTurn, .int t)]
theorem stD_cells (c : Addr) (t : Int) : valV (stD c t) kCells = some (.ref c) := valV_pos rfl
theorem stD_turn (c : Addr) (t : Int) : valV (stD c t) kTurn = some (.int t) := by
  unfold stD
  rw [valV_neg kne, valV_pos rfl]
theorem stD_put (c : Addr) (t i : Int) : putK (stD c t) kTurn (.int i) = stD c i := by
  have h1 : (decide (kCells = kTurn)) = false := decide_eq_false kne
  have h2 : (decide (kTurn = kTurn)) = true := decide_eq_true rfl
  simp [stD, putK, h1, h2, kne]
/-- a state of draws at s, its cells at c, at most T turns -/
structure StAt (H : Hp) (s c : Addr) (T : Nat) : Prop where
  ex : ∃ t : Int, (0 ≤ t ∧ t ≤ (T : Int)) ∧ H s = some (.dK (stD c t))
  cs : ∃ ns : List Int, 0 < ns.length ∧ ns.length ≤ 63 ∧ H c = some (.lst (ns.map V.int))
theorem StAt.mono {H : Hp} {s c : Addr} {T T' : Nat} (h : StAt H s c T) (l : T ≤ T') : StAt H s c T' := ⟨let ⟨t, a, b⟩ := h.ex; ⟨t, ⟨a.1, by omega⟩, b⟩, h.cs⟩
theorem StAt.ne {H : Hp} {s c : Addr} {T : Nat} (h : StAt H s c T) : s ≠ c := by
  obtain ⟨t, _, e⟩ := h.ex
  obtain ⟨ns, _, _, e2⟩ := h.cs
  exact ne_of e e2 (by intro z; cases z)
theorem StAt.same {H H' : Hp} {s c : Addr} {T : Nat} (h : StAt H s c T) (e : Same H H') : StAt H' s c T :=
  ⟨let ⟨t, a, b⟩ := h.ex; ⟨t, a, e _ _ b⟩, let ⟨ns, a, b, q⟩ := h.cs; ⟨ns, a, b, e _ _ q⟩⟩
theorem StAt.nes {H : Hp} {s c p : Addr} {T : Nat} (h : StAt H s c T) (n : H p = none) : s ≠ p := let ⟨_, _, b⟩ := h.ex; ne_of_none b n
theorem StAt.nec {H : Hp} {s c p : Addr} {T : Nat} (h : StAt H s c T) (n : H p = none) : c ≠ p := let ⟨_, _, _, b⟩ := h.cs; ne_of_none b n
theorem StAt.upd {H : Hp} {s c p : Addr} {T : Nat} {o : HO} (h : StAt H s c T) (h1 : s ≠ p) (h2 : c ≠ p) : StAt (upd H p o) s c T :=
  ⟨let ⟨t, a, b⟩ := h.ex; ⟨t, a, by rw [upd_ne h1]; exact b⟩, let ⟨ns, a, b, q⟩ := h.cs; ⟨ns, a, b, by rw [upd_ne h2]; exact q⟩⟩
theorem StAt.upd_new {H : Hp} {s c p : Addr} {T : Nat} {o : HO} (h : StAt H s c T) (n : H p = none) : StAt (L2.upd H p o) s c T := h.upd (h.nes n) (h.nec n)

theorem Kept.seqL {M : List Addr} {H H' : Hp} (h : Kept M H H') {K : PySem.W.Frag} {p : Addr} {xs : List V} (n : p ∉ M) (q : SqL K H p xs) : SqL K H' p xs := by
  rcases q with (q | ⟨o, q⟩) | q
  · exact .inl (.inl (h _ _ q n))
  · exact .inl (.inr ⟨o, h _ _ q n⟩)
  · exact .inr q
theorem Kept.seqT {M : List Addr} {H H' : Hp} (h : Kept M H H') {K : PySem.W.Frag} {p : Addr} {xs : List V} (n : p ∉ M) (q : SqT K H p xs) : SqT K H' p xs := by
  rcases q with (q | ⟨o, q⟩) | q
  · exact .inl (.inl (h _ _ q n))
  · exact .inl (.inr ⟨o, h _ _ q n⟩)
  · exact .inr q
theorem same_upd {H : Hp} {p : Addr} {o : HO} (h : H p = none) : Same H (upd H p o) := fun b x e => by
  rw [upd_ne (ne_of_none e h)]
  exact e

/-! ### what the draws promise -/
def spBegin (K : PySem.W.Frag) : Sp := fun vs H Q _ => ∃ (a : Addr) (ns : List Int), vs = [.ref a] ∧ SqL K H a (ns.map V.int) ∧
  ∀ (s c : Addr) (H' : Hp), StAt H' s c 0 → H s = none → H c = none → Same H H' → Q (.ref s) H'
def spTake : Sp := fun vs H Q _ => ∃ (s c : Addr) (T : Nat) (m : Int), vs = [.ref s, .int m] ∧ StAt H s c T ∧ T ≤ 1000000 ∧ 0 < m ∧ m < 2 ^ 62 ∧
  ∀ (d : Int) (H' : Hp), 0 ≤ d → d < m → StAt H' s c (T + 1) → Kept [s, c] H H' → Q (.int d) H'
end TT

set_option Elab.async false
set_option linter.all false
set_option maxRecDepth 100000
namespace TT
open PySem PySem.Spec PyProof.Rows L2
def topS (i : Nat) : Stmt := PySem.Challenge.pw_tiedtables_k08_deeds_walked.main.body.getD i (.Pass ⟨0, 0, 0, 0⟩)
section
variable {P : Program} {w : World} {K : PySem.W.Frag} {mg : Str → Option Value} {base : Heap}
abbrev s_law_begin : Stmt := topS 40
abbrev N_law_begin : List Str := ["script", "cells"]
theorem sc_law_begin : FnScope N_law_begin ["script"] (defScope s_law_begin) := ⟨rfl, rfl, rfl, by decide +kernel, rfl, by decide +kernel, by decide +kernel⟩

theorem cut63 (ns : List Int) : cutV (ns.map V.int) none (some 63) = (ns.take 63).map V.int := by
  unfold cutV
  rw [show HT.sIx (ns.map V.int).length 0 none = 0 from HT.sIx_none .., show HT.sIx (ns.map V.int).length (ns.map V.int).length (some 63) = min 63 (ns.map V.int).length from HT.sIx_nat _ _ 63]
  rw [List.drop_zero, Nat.sub_zero, List.map_take]
  by_cases h : 63 ≤ (ns.map V.int).length
  · rw [Nat.min_eq_left h]
  · rw [Nat.min_eq_right (by omega), List.take_of_length_le (Nat.le_refl _), List.take_of_length_le (by omega)]
theorem dp_ints {K : PySem.W.Frag} {H : Hp} : ∀ ns : List Int, DpAll K H (ns.map V.int) (ns.map PyData.int)
  | [] => .nil
  | n :: ns => .cons (.int n) (dp_ints ns)
theorem canLay_ints : ∀ ns : List Int, PyData.canLayAll0 (ns.map PyData.int) = true
  | [] => rfl
  | _ :: ns => by
    show (PyData.canLay0 (.int _) && PyData.canLayAll0 (ns.map PyData.int)) = true
    rw [canLay_ints ns]
    rfl
theorem depth_ints : ∀ ns : List Int, PyData.depthAll (ns.map PyData.int) = 0
  | [] => rfl
  | _ :: ns => by
    show max 0 (PyData.depthAll (ns.map PyData.int)) = 0
    rw [depth_ints ns]
    rfl
theorem shaped_ints (ns : List Int) : SeqAt.shaped (.list (ns.map PyData.int)) = true := by
  show (PyData.canLayAll0 (ns.map PyData.int) && decide (PyData.depthAll (ns.map PyData.int) + 1 ≤ 64)) = true
  rw [canLay_ints, depth_ints]
  rfl
theorem mkSt (c : Addr) : mergeK [] [(kCells, V.ref c), (kTurn, V.int 0)] = stD c 0 := by
  have h1 : ¬ (kCells = kTurn) := kne
  unfold stD mergeK
  simp [putK, h1]
theorem ok_begin {f : Addr} {fd : FuncData} (F : Fun K "_law_begin" "_law_begin" s_law_begin f fd) (nb : NB mg) : FnOk P w K mg base CX0 1 f fd ["script"] (spBegin K) := by
  refine F.ok sc_law_begin (fun vs H Q E h => ?_) (fun cdv A outer s H vs Q E hr h => ?_)
  · obtain ⟨a, ns, rfl, _⟩ := h
    rfl
  · obtain ⟨a, ns, rfl, hS, q⟩ := h
    have nd := sc_law_begin.nd
    have hu := hu_of hr
    refine ⟨_, (pss_cons (ps_set (i := 1) nd rfl (Or.inl rfl) (pe_callTy call_list_of (by rfl) nb.b_list (by decide +kernel) (pa_cons (pe_slice sl_list (pv 0) po_none (po_some pe_int)) pa_nil)))
      (pss_cons (ps_if (pt_cmpR (op_eqD hr.units) (pv 1) (pe_lst pa_nil) (nomark _))
        (pss_one (ps_set (i := 1) nd rfl (Or.inl rfl) (pe_lst (pa_cons pe_int pa_nil))))
        pss_nil)
      (pss_one (ps_ret (pe_disp (pps_cons pe_str (pv 1) (pps_cons pe_str pe_int pps_nil)) (by rfl) (by rfl) (fun z => by cases z) (by decide)))))), ?_⟩
    -- cells = list(script[:63])
    refine ⟨.ref a, rfl, 63, rfl, a, _, rfl, hS, fun p np => ?_⟩
    rw [cut63]
    refine ⟨p, _, rfl, .inl (.inl (.inl upd_same)), fun c0 nc0 => ?_⟩
    have s1 : Same H (upd H p (.lst ((ns.take 63).map V.int))) := same_upd np
    have s2 : Same (upd H p (.lst ((ns.take 63).map V.int))) (upd (upd H p (.lst ((ns.take 63).map V.int))) c0 (.lst ((ns.take 63).map V.int))) := same_upd nc0
    -- if cells == []
    refine ⟨.ref c0, rfl, Nat.zero_le _, fun e0 ne0 => ?_⟩
    have s3 := same_upd (o := .lst []) ne0
    refine ⟨.list ((ns.take 63).map PyData.int), .list [], .lst (.inl (.inl (s3 _ _ upd_same))) (dp_ints _), .lst (.inl (.inl upd_same)) .nil, shaped_ints _, rfl, _, rfl, ?_⟩
    have fin : ∀ (c : Addr) (H1 : Hp) (ms : List Int), Same H H1 → H c = none → H1 c = some (.lst (ms.map V.int)) → 0 < ms.length → ms.length ≤ 63 →
        tRet (tDisp [(tC (V.str (Str.ofString "cells")), tVar 1), (tC (V.str (Str.ofString "turn")), tC (V.int 0))]) { nx := fun x H' => Q V.non H', rt := Q } [some (.ref a), some (.ref c)] H1 := by
      intro c H1 ms sm nc ec h1 h2 s ns'
      refine ⟨.ref c, rfl, ?_⟩
      refine ⟨upd_same, [(kCells, .ref c), (kTurn, .int 0)], rfl, (by show 2 ≤ 15; decide), ?_⟩
      rw [mkSt, upd_upd]
      have ncs : c ≠ s := ne_of_none ec ns'
      exact q s c _ ⟨⟨0, ⟨Int.le_refl _, Int.le_refl _⟩, upd_same⟩, ⟨ms, h1, h2, by rw [upd_ne ncs]; exact ec⟩⟩ (Same.free sm ns') nc (sm.trans (same_upd ns'))
    refine ite2 (fun h0 => ?_) (fun h0 => ?_)
    · -- cells = [17]
      refine ⟨by decide, fun c1 nc1 => ?_⟩
      exact fin c1 _ [17] (((s1.trans s2).trans s3).trans (same_upd nc1)) (Same.free ((s1.trans s2).trans s3) nc1) upd_same (by decide) (by decide)
    · refine fin c0 _ (ns.take 63) ((s1.trans s2).trans s3) (Same.free s1 nc0) (s3 _ _ upd_same) ?_ (by rw [List.length_take]; omega)
      cases e : ns.take 63 with
      | nil => rw [e] at h0; exact absurd rfl h0
      | cons x r => exact Nat.succ_pos _
abbrev s_law_take : Stmt := topS 41
abbrev N_law_take : List Str := ["state", "many", "turn", "place", "cell", "digit", "wide", "mixed"]
theorem sc_law_take : FnScope N_law_take ["state", "many"] (defScope s_law_take) := ⟨rfl, rfl, rfl, by decide +kernel, rfl, by decide +kernel, by decide +kernel⟩

theorem cdiv_of {i j : Int} (h : 0 < j) (h2 : j < 2 ^ 62) : CDivP i j := ⟨h, PyProof.noPylong_of_log2 (Nat.lt_of_lt_of_le (PySem.Flt.log2_lt_of (k := 62) (by decide) (by omega)) (by decide))⟩
theorem ixN_nat {n j : Nat} (h : j < n) : ixN n (j : Int) = some j := by
  unfold ixN
  rw [if_pos (Int.natCast_nonneg j), if_pos (by omega)]
  rfl
theorem ok_take {f : Addr} {fd : FuncData} (F : Fun K "_law_take" "_law_take" s_law_take f fd) (nb : NB mg) : FnOk P w K mg base CX0 1 f fd ["state", "many"] spTake := by
  refine F.ok sc_law_take (fun vs H Q E h => ?_) (fun cdv A outer sh H vs Q E hr h => ?_)
  · obtain ⟨s, c, T, m, rfl, _⟩ := h
    rfl
  · obtain ⟨s, c, T, m, rfl, S, hT, hm0, hm, q⟩ := h
    have nd := sc_law_take.nd
    have hu := hu_of hr
    obtain ⟨⟨t, ⟨ht0, ht⟩, es⟩, ⟨ns, l0, l63, ec⟩⟩ := id S
    have nsc : s ≠ c := S.ne
    refine ⟨_, (pss_cons (ps_set (i := 2) nd rfl (Or.inl rfl) (pe_op op_add (pe_dget hu (pv 0) pe_str (fun _ _ => rfl)) pe_int))
      (pss_cons (ps_dput hu (pv 0) pe_str (pv 2) rfl)
      (pss_cons (ps_set (i := 3) nd rfl (Or.inl rfl) (pe_op op_mod (pv 2) (pe_callB call_len_seq (by rfl) nb.b_len (by decide +kernel) (pa_cons (pe_dget hu (pv 0) pe_str (fun _ _ => rfl)) pa_nil))))
      (pss_cons (ps_set (i := 4) nd rfl (Or.inl rfl) (pe_ix ix_list (pe_dget hu (pv 0) pe_str (fun _ _ => rfl)) (pv 3) (fun _ _ => rfl)))
      (pss_cons (ps_if (pt_cmpR op_ge (pv 4) (pe_op op_pow pe_int pe_int) (nomark _))
        (pss_cons (ps_asg (pe_callB call_divmodW (by rfl) nb.b_divmod (by decide +kernel) (pa_cons (pv 4) (pa_cons (pv 1) pa_nil))) (pg_tup rfl (pgs_cons (pg_sub (pe_dget hu (pv 0) pe_str (fun _ _ => rfl)) (pv 3) set_list) (pgs_cons (pg_name (i := 5) nd rfl (Or.inl rfl)) pgs_nil))))
        (pss_one (ps_ret (pv 5))))
        pss_nil)
      (pss_cons (ps_set (i := 6) nd rfl (Or.inl rfl) (pe_op op_add (pe_op op_mod (pv 4) pe_int) (pe_op op_mul (pe_op op_mod (pe_op op_fdivW (pv 4) pe_int) pe_int) pe_int)))
      (pss_cons (ps_set (i := 7) nd rfl (Or.inl rfl) (pe_op op_mod (pe_op op_mul (pe_op op_add (pe_op op_add (pv 6) (pe_op op_mul (pe_op op_mul (pv 2) (pv 2)) pe_int)) pe_int) pe_int) pe_int))
      (pss_cons (ps_set (i := 7) nd rfl (Or.inl rfl) (pe_op op_mod (pe_op op_mul (pv 7) (pv 7)) pe_int))
      (pss_one (ps_ret (pe_op op_mod (pe_op op_fdivW (pe_op op_mod (pe_op op_mul (pe_op op_add (pv 7) (pe_op op_mul (pv 2) pe_int)) pe_int) pe_int) pe_int) (pv 1)))))))))))), ?_⟩
    -- turn = state['turn'] + 1; state['turn'] = turn
    refine ⟨.ref s, rfl, s, _, rfl, stD_turn c t ▸ DGet.k (k := kTurn) es, _, _, rfl, rfl, ?_⟩
    refine ⟨_, rfl, .ref s, rfl, s, _, rfl, DPut.k (k := kTurn) es (by show 2 < sizeLine; decide), ?_⟩
    rw [stD_put]
    have es1 : (upd H s (.dK (stD c (t + 1)))) s = some (.dK (stD c (t + 1))) := upd_same
    have ec1 : (upd H s (.dK (stD c (t + 1)))) c = some (.lst (ns.map V.int)) := by rw [upd_ne nsc.symm]; exact ec
    have S1 : StAt (upd H s (.dK (stD c (t + 1)))) s c (T + 1) := ⟨⟨t + 1, ⟨by omega, by omega⟩, es1⟩, ⟨ns, l0, l63, ec1⟩⟩
    have K1 : Kept [s, c] H (upd H s (.dK (stD c (t + 1)))) := Kept.upd_in (List.mem_cons_self ..)
    generalize hH1 : upd H s (.dK (stD c (t + 1))) = H1 at es1 ec1 S1 K1
    have gc1 : DGet H1 s (.str "cells") (some (.ref c)) := stD_cells c (t + 1) ▸ DGet.k (k := kCells) es1
    have lm : (ns.map V.int).length = ns.length := List.length_map ..
    -- place = turn % len(state['cells'])
    refine ⟨_, rfl, .ref s, rfl, s, _, rfl, gc1, c, _, rfl, .inl (.inl (.inl ec1)), _, _, rfl, rfl, (by rw [lm]; omega), ?_⟩
    rw [lm]
    dsimp only
    generalize hpl : (t + 1) % (ns.length : Int) = pl
    have hp0 : 0 ≤ pl := by rw [← hpl]; exact Int.emod_nonneg _ (by omega)
    have hp1 : pl < ns.length := by rw [← hpl]; exact Int.emod_lt_of_pos _ (by omega)
    -- cell = state['cells'][place]
    obtain ⟨j, rfl⟩ : ∃ j : Nat, pl = (j : Int) := ⟨pl.toNat, by omega⟩
    have hj : j < ns.length := by omega
    have gj : (ns.map V.int)[j]? = some (.int ns[j]) := by rw [List.getElem?_map, List.getElem?_eq_getElem hj]; rfl
    refine ⟨.ref s, rfl, s, _, rfl, gc1, _, rfl, c, _, _, .int ns[j], rfl, rfl, .inl (.inl ec1), atI_nat gj, ?_⟩
    generalize ns[j] = x
    -- if cell >= 10 ** 18
    refine ⟨.int x, rfl, 10, 18, rfl, rfl, ⟨by decide, by decide, by decide⟩, _, _, rfl, rfl, _, rfl, ite2 (fun hc => ?_) (fun _ => ?_)⟩
    · -- state['cells'][place], digit = divmod(cell, many)
      refine ⟨.int x, rfl, .int m, rfl, _, _, rfl, cdiv_of hm0 hm, fun p np => ?_⟩
      have nps : s ≠ p := ne_of_none es1 np
      have npc : c ≠ p := ne_of_none ec1 np
      have es2 : (upd H1 p (.tup [.int (x / m), .int (x % m)])) s = some (.dK (stD c (t + 1))) := by rw [upd_ne nps]; exact es1
      have ec2 : (upd H1 p (.tup [.int (x / m), .int (x % m)])) c = some (.lst (ns.map V.int)) := by rw [upd_ne npc]; exact ec1
      have gc2 : DGet (upd H1 p (.tup [.int (x / m), .int (x % m)])) s (.str "cells") (some (.ref c)) := stD_cells c (t + 1) ▸ DGet.k (k := kCells) es2
      refine ⟨p, _, rfl, .inl (.inl upd_same), rfl, .int (x / m), _, rfl, .ref s, rfl, s, _, rfl, gc2, _, rfl, c, _, _, j, rfl, rfl, ec2, by rw [lm]; exact ixN_nat hj, ?_⟩
      refine ⟨.int (x % m), [], rfl, rfl, .int (x % m), rfl, ?_⟩
      have em : ((ns.map V.int).set j (.int (x / m))) = (ns.set j (x / m)).map V.int := by rw [List.map_set]
      rw [em]
      refine q _ _ (Int.emod_nonneg _ (by omega)) (Int.emod_lt_of_pos _ hm0) ⟨⟨t + 1, ⟨by omega, by omega⟩, by rw [upd_ne nsc]; exact es2⟩, ⟨_, by rw [List.length_set]; exact l0, by rw [List.length_set]; exact l63, upd_same⟩⟩ ?_
      exact (K1.trans (Kept.upd_new np)).trans (Kept.upd_in (List.mem_cons_of_mem _ (List.mem_cons_self ..)))
    · have h1 : (0 : Int) ≤ x % 2147483629 ∧ x % 2147483629 < 2147483629 := ⟨Int.emod_nonneg _ (by decide), Int.emod_lt_of_pos _ (by decide)⟩
      have h2 : (0 : Int) ≤ x / 2147483629 % 40009 ∧ x / 2147483629 % 40009 < 40009 := ⟨Int.emod_nonneg _ (by decide), Int.emod_lt_of_pos _ (by decide)⟩
      have ht1 : t + 1 ≤ 1000001 := by omega
      have htt : (t + 1) * (t + 1) ≤ 1000001 * 1000001 := Int.mul_le_mul ht1 ht1 (by omega) (by omega)
      have htt0 : 0 ≤ (t + 1) * (t + 1) := Int.mul_nonneg (by omega) (by omega)
      -- wide
      refine ⟨.int x, rfl, _, _, rfl, rfl, (by decide : (0 : Int) < 2147483629), .int x, rfl, _, _, rfl, rfl, wide_div (b := 32) (by decide) (by decide) (by decide) (by decide), _, _, rfl, rfl, (by decide : (0 : Int) < 40009), _, _, rfl, rfl, .inr ⟨by decide, by decide⟩, _, _, rfl, rfl, ?_⟩
      dsimp only
      generalize hw : x % 2147483629 + x / 2147483629 % 40009 * 977 = wd
      have hw0 : 0 ≤ wd := by omega
      have hw1 : wd < 2 ^ 32 := by omega
      -- mixed
      refine ⟨.int wd, rfl, .int (t + 1), rfl, .int (t + 1), rfl, _, _, rfl, rfl, .inl ⟨by omega, by omega⟩, _, _, rfl, rfl, .inr ⟨by decide, by decide⟩, _, _, rfl, rfl, _, _, rfl, rfl, _, _, rfl, rfl, .inr ⟨by decide, by decide⟩, _, _, rfl, rfl, (by decide : (0 : Int) < 2147483647), ?_⟩
      dsimp only
      generalize hx1 : (wd + (t + 1) * (t + 1) * 6007 + 29) * 48271 % 2147483647 = x1
      have hx1a : 0 ≤ x1 ∧ x1 < 2147483647 := by rw [← hx1]; exact ⟨Int.emod_nonneg _ (by decide), Int.emod_lt_of_pos _ (by decide)⟩
      refine ⟨.int x1, rfl, .int x1, rfl, _, _, rfl, rfl, .inl ⟨by omega, by omega⟩, _, _, rfl, rfl, (by decide : (0 : Int) < 2147483579), ?_⟩
      dsimp only
      generalize hx2 : x1 * x1 % 2147483579 = x2
      have hx2a : 0 ≤ x2 ∧ x2 < 2147483579 := by rw [← hx2]; exact ⟨Int.emod_nonneg _ (by decide), Int.emod_lt_of_pos _ (by decide)⟩
      refine ⟨.int x2, rfl, .int (t + 1), rfl, _, _, rfl, rfl, .inr ⟨by decide, by decide⟩, _, _, rfl, rfl, _, _, rfl, rfl, .inr ⟨by decide, by decide⟩, _, _, rfl, rfl, (by decide : (0 : Int) < 2147483629), _, _, rfl, rfl, wide_div (b := 8) (by decide) (by decide) (by decide) (by decide), .int m, rfl, _, _, rfl, rfl, hm0, ?_⟩
      exact q _ _ (Int.emod_nonneg _ (by omega)) (Int.emod_lt_of_pos _ hm0) S1 K1
theorem take_at {H : Hp} {s c : Addr} {T : Nat} {m : Int} {Q : VK} {E : XK} (S : StAt H s c T) (hT : T ≤ 1000000) (h0 : 0 < m) (h1 : m < 2 ^ 62)
    (q : ∀ (d : Int) (H' : Hp), 0 ≤ d → d < m → StAt H' s c (T + 1) → Kept [s, c] H H' → Q (.int d) H') : spTake [.ref s, .int m] H Q E := ⟨s, c, T, m, rfl, S, hT, h0, h1, q⟩
def spSome (K : PySem.W.Frag) : Sp := fun vs H Q _ => ∃ (s c p : Addr) (T : Nat) (xs : List V), vs = [.ref s, .ref p] ∧ StAt H s c T ∧ T ≤ 1000000 ∧ p ∉ [s, c] ∧ (SqL K H p xs ∨ SqT K H p xs) ∧ 0 < xs.length ∧ xs.length < 2 ^ 62 ∧
  ∀ (j : Nat) (v : V) (H' : Hp), xs[j]? = some v → StAt H' s c (T + 1) → Kept [s, c] H H' → Q v H'
abbrev s_law_some : Stmt := topS 42
abbrev N_law_some : List Str := ["state", "things"]
theorem sc_law_some : FnScope N_law_some ["state", "things"] (defScope s_law_some) := ⟨rfl, rfl, rfl, by decide +kernel, rfl, by decide +kernel, by decide +kernel⟩

theorem ok_some {f : Addr} {fd : FuncData} (F : Fun K "_law_some" "_law_some" s_law_some f fd) (nb : NB mg) (D_law_take : Def P w K mg base 1 "_law_take" ["state", "many"] spTake) : FnOk P w K mg base CX0 2 f fd ["state", "things"] (spSome K) := by
  refine F.ok sc_law_some (fun vs H Q E h => ?_) (fun cdv A outer sh H vs Q E hr h => ?_)
  · obtain ⟨s, c, p, T, xs, rfl, _⟩ := h
    rfl
  · obtain ⟨s, c, p, T, xs, rfl, S, hT, hp, hx, l0, l1, q⟩ := h
    have nd := sc_law_some.nd
    have hu := hu_of hr
    refine ⟨_, (pss_one (ps_ret (pe_ix ix_seq (pv 1) (pe_own D_law_take hr (pa_cons (pv 0) (pa_cons (pe_callB call_len (by rfl) nb.b_len (by decide +kernel) (pa_cons (pv 1) pa_nil)) pa_nil))) (fun _ _ => rfl)))), ?_⟩
    refine ⟨.ref p, rfl, .ref s, rfl, .ref p, rfl, .ref p, xs.length, rfl, ?_, s, c, T, _, rfl, S, hT, by omega, by omega, fun d H1 h0 h1 S1 K1 => ?_⟩
    · rcases hx with hx | hx
      · exact .inl ⟨xs, hx, rfl⟩
      · exact .inr ⟨xs, hx, rfl⟩
    · obtain ⟨j, rfl⟩ : ∃ j : Nat, d = (j : Int) := ⟨d.toNat, by omega⟩
      have hj : j < xs.length := by omega
      have gj : xs[j]? = some xs[j] := List.getElem?_eq_getElem hj
      rcases hx with hx | hx
      · exact .inl ⟨p, xs, _, _, rfl, rfl, K1.seqL hp hx, atI_nat gj, q j _ H1 gj S1 K1⟩
      · exact .inr (.inl ⟨p, xs, _, _, rfl, rfl, K1.seqT hp hx, atI_nat gj, q j _ H1 gj S1 K1⟩)
end
end TT

set_option Elab.async false
set_option linter.all false
set_option maxRecDepth 100000
namespace TT
open PySem PySem.Spec PyProof.Rows L2
/-! ### names: the mathematics -/
def cl (z : Str) : List Nat := z.cps.toList
def ofL (l : List Nat) : Str := ⟨l.toArray⟩
theorem cl_ofL (l : List Nat) : cl (ofL l) = l := rfl
theorem cl_app (a b : Str) : cl (a ++ b) = cl a ++ cl b := by
  show (a.cps ++ b.cps).toList = _
  exact Array.toList_append
theorem cl_inj {a b : Str} (h : cl a = cl b) : a = b := by
  cases a; cases b
  exact congrArg Str.mk (Array.toList_inj.mp h)
theorem ofL_cl (z : Str) : ofL (cl z) = z := cl_inj rfl
theorem cl_len (z : Str) : z.length = (cl z).length := rfl
def low (c : Nat) : Prop := 97 ≤ c ∧ c ≤ 122
structure NameOk (z : Str) : Prop where
  pos : 0 < (cl z).length
  top : (cl z).length ≤ 8
  low : ∀ c ∈ cl z, low c
def abc : Str := "abcdefghijklmnopqrstuvwxyz"
theorem abc_cl : cl abc = (List.range 26).map (· + 97) := by decide +kernel
theorem abc_at {i : Nat} (h : i < 26) : (cl abc)[i]? = some (i + 97) := by
  rw [abc_cl, List.getElem?_map, List.getElem?_range h]
  rfl
def words13 : List Str := ["table", "row", "many", "store", "old", "new", "put", "none", "tie", "drop", "set", "do", "to"]
theorem words_ok : ∀ z ∈ words13, NameOk z := by
  have h : words13.all (fun z => decide (0 < (cl z).length) && decide ((cl z).length ≤ 8) && (cl z).all fun c => decide (97 ≤ c) && decide (c ≤ 122)) = true := by decide +kernel
  intro z hz
  have h1 := List.all_eq_true.mp h z hz
  simp only [Bool.and_eq_true, decide_eq_true_eq, List.all_eq_true] at h1
  exact ⟨h1.1.1, h1.1.2, h1.2⟩
theorem words_nd : words13.Nodup := by decide +kernel
theorem words_len : words13.length = 13 := rfl
/-- the k-th plain name -/
def letterOf (first step : Int) (k : Nat) : Nat := ((first + step * k) % 26).toNat + 97
def plainN (st : List Nat) (at' : Nat) (first step short : Int) (k : Nat) : Str :=
  ofL (st.take at' ++ [letterOf first step k] ++ (if short = 0 then st.drop at' else (st.drop at').take (k % 3)))
theorem letterOf_low (first step : Int) (k : Nat) : low (letterOf first step k) := by
  have h1 := Int.emod_nonneg (first + step * k) (show (26 : Int) ≠ 0 by decide)
  have h2 := Int.emod_lt_of_pos (first + step * k) (show (0 : Int) < 26 by decide)
  unfold low letterOf
  omega
theorem plain_ok {st : List Nat} {at' : Nat} {first step short : Int} {k : Nat} (hs : ∀ c ∈ st, low c) (hl : st.length ≤ 7) : NameOk (plainN st at' first step short k) := by
  have e : (cl (plainN st at' first step short k)) = st.take at' ++ [letterOf first step k] ++ (if short = 0 then st.drop at' else (st.drop at').take (k % 3)) := rfl
  refine ⟨?_, ?_, ?_⟩
  · rw [e]; simp; omega
  · rw [e, List.length_append, List.length_append, List.length_take, List.length_singleton]
    split
    · rw [List.length_drop]; omega
    · rw [List.length_take, List.length_drop]; omega
  · rw [e]
    intro c hc
    rw [List.mem_append, List.mem_append, List.mem_singleton] at hc
    rcases hc with (h | h) | h
    · exact hs c (List.mem_of_mem_take h)
    · rw [h]; exact letterOf_low ..
    · split at h
      · exact hs c (List.mem_of_mem_drop h)
      · exact hs c (List.mem_of_mem_drop (List.mem_of_mem_take h))
theorem plain_inj {st : List Nat} {at' : Nat} {first step short : Int} {i j : Nat} (ha : at' ≤ st.length) (hs : step = 3 ∨ step = 5 ∨ step = 25) (hi : i < 26) (hj : j < 26) (e : plainN st at' first step short i = plainN st at' first step short j) : i = j := by
  have e1 := congrArg cl e
  have e2 : (cl (plainN st at' first step short i))[at']? = (cl (plainN st at' first step short j))[at']? := by rw [e1]
  have key : ∀ k, (cl (plainN st at' first step short k))[at']? = some (letterOf first step k) := fun k => by
    show (st.take at' ++ [letterOf first step k] ++ (if short = 0 then st.drop at' else (st.drop at').take (k % 3)))[at']? = _
    rw [List.append_assoc, List.getElem?_append_right (by rw [List.length_take]; omega), List.length_take, Nat.min_eq_left ha, Nat.sub_self]
    rfl
  rw [key, key] at e2
  have e3 := Option.some.inj e2
  unfold letterOf at e3
  rcases hs with rfl | rfl | rfl <;> omega
theorem str_len_app (a b : Str) : (a ++ b).length = a.length + b.length := by rw [cl_len, cl_app, List.length_append]; rfl
theorem cut_cl (z : Str) (lo hi : Option Int) : cl (cutS z lo hi) = ((cl z).drop (HT.sIx z.length 0 lo)).take (HT.sIx z.length z.length hi - HT.sIx z.length 0 lo) := rfl
def wordAt (first : Int) (k : Nat) : Str := words13.getD ((first + k) % 13).toNat Str.empty
theorem wordAt_get (first : Int) (k : Nat) : words13[((first + k) % 13).toNat]? = some (wordAt first k) := by
  have g0 := Int.emod_nonneg (first + k) (show (13 : Int) ≠ 0 by decide)
  have g1 := Int.emod_lt_of_pos (first + k) (show (0 : Int) < 13 by decide)
  have h : ((first + k) % 13).toNat < words13.length := by rw [words_len]; omega
  unfold wordAt
  rw [List.getD_eq_getElem?_getD, List.getElem?_eq_getElem h]
  rfl
theorem wordAt_mem (first : Int) (k : Nat) : wordAt first k ∈ words13 := List.mem_of_getElem? (wordAt_get first k)
theorem wordAt_inj {first : Int} {i j : Nat} (hi : i < 13) (hj : j < 13) (e : wordAt first i = wordAt first j) : i = j := by
  have g0 := Int.emod_nonneg (first + i) (show (13 : Int) ≠ 0 by decide)
  have g1 := Int.emod_lt_of_pos (first + i) (show (0 : Int) < 13 by decide)
  have g2 := Int.emod_nonneg (first + j) (show (13 : Int) ≠ 0 by decide)
  have g3 := Int.emod_lt_of_pos (first + j) (show (0 : Int) < 13 by decide)
  have h1 := wordAt_get first i
  have h2 := wordAt_get first j
  rw [e] at h1
  have h3 := (List.getElem?_inj (by rw [words_len]; omega) words_nd).mp (h1.trans h2.symm)
  omega
/-- the names, some of them words: the k first ones have been gone through -/
structure Mixed (first : Int) (ps : List Str) (k : Nat) (fs : List Str) : Prop where
  len : fs.length = ps.length
  it : ∀ (i : Nat) (z : Str), fs[i]? = some z → ps[i]? = some z ∨ (i < k ∧ z = wordAt first i ∧ z ∉ ps)
theorem mixed_start (first : Int) {ps : List Str} (_ : ps.Nodup) (_ : ∀ z ∈ ps, NameOk z) : Mixed first ps 0 ps := ⟨rfl, fun _ _ h => .inl h⟩
theorem Mixed.skip {first : Int} {ps fs : List Str} {k : Nat} (h : Mixed first ps k fs) : Mixed first ps (k + 1) fs :=
  ⟨h.len, fun i z e => (h.it i z e).imp id fun q => ⟨by omega, q.2⟩⟩
theorem Mixed.put {first : Int} {ps fs : List Str} {k : Nat} (h : Mixed first ps k fs) (hn : wordAt first k ∉ ps) (_ : k < 13) : Mixed first ps (k + 1) (fs.set k (wordAt first k)) :=
  ⟨by rw [List.length_set]; exact h.len, fun i z e => by
    rw [List.getElem?_set] at e
    split at e
    · rename_i hk
      split at e
      · cases e; subst hk; exact .inr ⟨by omega, rfl, hn⟩
      · cases e
    · exact (h.it i z e).imp id fun q => ⟨by omega, q.2⟩⟩
theorem Mixed.ok {first : Int} {ps fs : List Str} {k : Nat} (h : Mixed first ps k fs) (ok : ∀ z ∈ ps, NameOk z) : ∀ z ∈ fs, NameOk z := by
  intro z hz
  obtain ⟨i, hi⟩ := List.getElem?_of_mem hz
  rcases h.it i z hi with q | ⟨_, rfl, _⟩
  · exact ok z (List.mem_of_getElem? q)
  · exact words_ok _ (wordAt_mem ..)
theorem Mixed.nodup {first : Int} {ps fs : List Str} {k : Nat} (h : Mixed first ps k fs) (nd : ps.Nodup) (hk : k ≤ 13) : fs.Nodup := by
  rw [List.nodup_iff_pairwise_ne, List.pairwise_iff_getElem]
  intro i j hi hj hij e3
  have e1 := List.getElem?_eq_getElem hi
  have e2 := List.getElem?_eq_getElem hj
  rcases h.it i _ e1 with q1 | ⟨k1, w1, n1⟩ <;> rcases h.it j _ e2 with q2 | ⟨k2, w2, n2⟩
  · rw [e3] at q1
    have := (List.getElem?_inj (by rw [← h.len]; exact hi) nd).mp (q1.trans q2.symm)
    omega
  · rw [← e3] at n2
    exact n2 (List.mem_of_getElem? q1)
  · rw [e3] at n1
    exact n1 (List.mem_of_getElem? q2)
  · have := wordAt_inj (by omega) (by omega) (w1.symm.trans (e3.trans w2))
    omega
theorem flat_strs : ∀ zs : List Str, (zs.map V.str).all flatV = true
  | [] => rfl
  | _ :: zs => flat_strs zs
theorem inV_strs (z : Str) (zs : List Str) : inV (.str z) (zs.map V.str) = decide (z ∈ zs) := by
  induction zs with
  | nil => rfl
  | cons y r ih =>
    show (eqV (.str y) (.str z) || inV (.str z) (r.map V.str)) = _
    rw [ih]
    show ((y == z) || decide (z ∈ r)) = _
    by_cases h : y = z
    · subst h; simp
    · have h' : ¬ z = y := fun e => h e.symm
      simp [h, h']
def one (c : Nat) : Str := ⟨#[c]⟩
theorem cl_one (c : Nat) : cl (one c) = [c] := rfl
theorem sum_ones : ∀ l : List Nat, (l.map ((fun x : Str => x.length) ∘ one)).sum = l.length
  | [] => rfl
  | _ :: l => by
    rw [List.map_cons, List.sum_cons, sum_ones l]
    show 1 + l.length = l.length + 1
    omega
theorem join_ones (l : List Nat) : cl (Txt.join (Str.ofString "") (l.map one)) = l := by
  rw [TL.join_eq]
  induction l with
  | nil => rfl
  | cons x r ih =>
    cases r with
    | nil => rfl
    | cons y r =>
      show cl (one x ++ Str.ofString "" ++ Str.join (Str.ofString "") ((y :: r).map one)) = _
      rw [cl_app, cl_app, ih]
      rfl
section
variable {P : Program} {w : World} {K : PySem.W.Frag} {mg : Str → Option Value} {base : Heap}
def spNames : Sp := fun vs H Q _ => ∃ (s c : Addr) (T m : Nat), vs = [.ref s, .int m] ∧ StAt H s c T ∧ T + 30 ≤ 1000000 ∧ m ≤ 26 ∧
  ∀ (p : Addr) (zs : List Str) (H' : Hp), zs.length = m → zs.Nodup → (∀ z ∈ zs, NameOk z) → H p = none → H' p = some (.lst (zs.map V.str)) → StAt H' s c (T + 30) → Kept [s, c] H H' → Q (.ref p) H'
theorem Kept.fresh {M : List Addr} {H H' : Hp} (h : Kept M H H') {p : Addr} (n : H' p = none) (hm : ∀ q ∈ M, q ≠ p) : H p = none := by
  cases e : H p with
  | none => rfl
  | some o =>
    have := h p o e fun z => hm p z rfl
    rw [n] at this
    cases this
abbrev s_law_names : Stmt := topS 43
abbrev N_law_names : List Str := ["state", "many", "letters", "first", "way", "stem", "at", "step", "short", "plain", "some", "k", "name", "found", "word", "turn"]
theorem sc_law_names : FnScope N_law_names ["state", "many"] (defScope s_law_names) := ⟨rfl, rfl, rfl, by decide +kernel, rfl, by decide +kernel, by decide +kernel⟩

theorem ok_names {f : Addr} {fd : FuncData} (F : Fun K "_law_names" "_law_names" s_law_names f fd) (nb : NB mg) (D_law_take : Def P w K mg base 1 "_law_take" ["state", "many"] spTake) : FnOk P w K mg base CX0 2 f fd ["state", "many"] spNames := by
  refine F.ok sc_law_names (fun vs H Q E h => ?_) (fun cdv A outer sh H vs Q E hr h => ?_)
  · obtain ⟨s, c, T, m, rfl, _⟩ := h
    rfl
  · obtain ⟨s, c, T, m, rfl, S, hT, hm, q⟩ := h
    have nd := sc_law_names.nd
    have hu := hu_of hr
    refine ⟨_, (pss_cons (ps_asg (pe_tup (pa_cons pe_str (pa_cons (pe_own D_law_take hr (pa_cons (pv 0) (pa_cons pe_int pa_nil))) (pa_cons (pe_own D_law_take hr (pa_cons (pv 0) (pa_cons pe_int pa_nil))) pa_nil)))) (pg_tup rfl (pgs_cons (pg_name (i := 2) nd rfl (Or.inr rfl)) (pgs_cons (pg_name (i := 3) nd rfl (Or.inl rfl)) (pgs_cons (pg_name (i := 4) nd rfl (Or.inl rfl)) pgs_nil)))))
      (pss_cons (ps_set (i := 5) nd rfl (Or.inl rfl) (pe_join pe_str (pe_lc (own := [("turn", 15)]) (g := (gName 15)) (tt := tYes) rfl nd (pi_range1 (by rfl) nb.b_range (pa_cons (pe_own D_law_take hr (pa_cons (pv 0) (pa_cons pe_int pa_nil))) pa_nil)) (blkOk_by (N := N_law_names) (sc := defScope s_law_names) (by decide +kernel)) (fun _ _ _ _ _ => (pg_name (i := 15) nd rfl (Or.inl rfl))) (fun _ _ _ _ _ => pts_nil) (fun _ _ _ _ _ => (pe_item_str (pv 2) (pe_own D_law_take hr (pa_cons (pv 0) (pa_cons pe_int pa_nil))) (fun _ _ => rfl))))))
      (pss_cons (ps_par3 (i := 6) (j := 7) (l := 8) (by rfl) nd rfl rfl rfl (by decide) (by decide) (by decide) rfl rfl rfl (pa_cons (pe_own D_law_take hr (pa_cons (pv 0) (pa_cons (pe_op op_add (pe_callB call_len_str (by rfl) nb.b_len (by decide +kernel) (pa_cons (pv 5) pa_nil)) pe_int) pa_nil))) (pa_cons (pe_ix ix_list (pe_lst (pa_cons pe_int (pa_cons pe_int (pa_cons pe_int pa_nil)))) (pe_own D_law_take hr (pa_cons (pv 0) (pa_cons pe_int pa_nil))) (fun _ _ => rfl)) (pa_cons (pe_own D_law_take hr (pa_cons (pv 0) (pa_cons pe_int pa_nil))) pa_nil))) (by rfl))
      (pss_cons (ps_par (i := 9) (j := 10) (by rfl) nd rfl rfl (by decide) rfl rfl (pa_cons (pe_lst pa_nil) (pa_cons (pe_lst (pa_cons pe_str (pa_cons pe_str (pa_cons pe_str (pa_cons pe_str (pa_cons pe_str (pa_cons pe_str (pa_cons pe_str (pa_cons pe_str (pa_cons pe_str (pa_cons pe_str (pa_cons pe_str (pa_cons pe_str (pa_cons pe_str pa_nil)))))))))))))) pa_nil)) (by rfl))
      (pss_cons (ps_for PassesOwn.never rfl (pi_range1 (by rfl) nb.b_range (pa_cons (pv 1) pa_nil)) (pg_name (i := 11) nd rfl (Or.inl rfl))
        (pss_cons (ps_set (i := 12) nd rfl (Or.inl rfl) (pe_op op_add_str (pe_slice sl_str (pv 5) po_none (po_some (pv 6))) (pe_item_str (pv 2) (pe_op op_mod (pe_op op_add (pv 3) (pe_op op_mul (pv 7) (pv 11))) pe_int) (fun _ _ => rfl))))
        (pss_one (ps_expr (pe_bm PySem.F.plainAttrs_list PySem.F.slot_list_append PySem.F.type_list_append mt_append (pv 9) (pa_cons (pe_op op_add_str (pv 12) (pe_ix ix_list (pe_lst (pa_cons (pe_slice sl_str (pv 5) (po_some (pv 6)) po_none) (pa_cons (pe_slice sl_str (pe_slice sl_str (pv 5) (po_some (pv 6)) po_none) po_none (po_some (pe_op op_mod (pv 11) pe_int))) pa_nil))) (pv 8) (fun _ _ => rfl))) pa_nil))))))
      (pss_cons (ps_set (i := 13) nd rfl (Or.inl rfl) (pe_callTy call_list_of (by rfl) nb.b_list (by decide +kernel) (pa_cons (pv 9) pa_nil)))
      (pss_cons (ps_for PassesOwn.never rfl (pi_range1 (by rfl) nb.b_range (pa_cons (pe_op op_mul (pe_callB (call_min2 rfl) (by rfl) nb.b_min (by decide +kernel) (pa_cons (pv 1) (pa_cons pe_int pa_nil))) (pe_callTy call_int1 (by rfl) nb.b_int (by decide +kernel) (pa_cons (pe_cmpR op_eq (pv 4) pe_int (nomark _)) pa_nil))) pa_nil)) (pg_name (i := 11) nd rfl (Or.inl rfl))
        (pss_cons (ps_set (i := 14) nd rfl (Or.inl rfl) (pe_ix ix_list (pv 10) (pe_op op_mod (pe_op op_add (pv 3) (pv 11)) pe_int) (fun _ _ => rfl)))
        (pss_one (ps_if (PW.pt (pw_and (pt_cmpR op_notIn_seq (pv 14) (pv 9) (by rfl)) (pw_and1 (pt_cmpR op_eq (pe_own D_law_take hr (pa_cons (pv 0) (pa_cons pe_int pa_nil))) pe_int (nomark _)))))
          (pss_one (ps_asg (pv 14) (pg_sub (pv 13) (pv 11) set_list)))
          pss_nil))))
      (pss_one (ps_ret (pv 13)))))))))), ?_⟩
    -- letters, first, way
    refine ⟨.ref s, rfl, s, c, T, _, rfl, S, by omega, by decide, by decide, fun first H1 f0 f1 S1 K1 => ?_⟩
    refine ⟨.ref s, rfl, s, c, T + 1, _, rfl, S1, by omega, by decide, by decide, fun way H2 w0 w1 S2 K2 => ?_⟩
    refine ⟨(by show 3 ≤ sizeLine; decide), fun p2 n2 => ?_⟩
    have S2' := S2.upd_new (o := .tup [.str abc, .int first, .int way]) n2
    have K2' : Kept [s, c] H (upd H2 p2 (.tup [.str abc, .int first, .int way])) := (K1.trans K2).trans (Kept.upd_new n2)
    refine ⟨p2, _, rfl, .inl (.inl upd_same), rfl, _, _, rfl, _, _, rfl, _, _, rfl, rfl, ?_⟩
    -- stem
    refine ⟨⟨_, rfl⟩, .ref s, rfl, s, c, T + 2, _, rfl, S2', by omega, by decide, by decide, fun n H4 n0 n1 S4 K4 => ⟨n, rfl, by omega, by omega, fun D nD => ?_⟩⟩
    have nsD : s ≠ D := S4.nes nD
    have ncD : c ≠ D := S4.nec nD
    refine lc_range (lo := 0) (n := n.toNat) (fun i H' => ∃ l : List Nat, l.length = i ∧ (∀ x ∈ l, low x) ∧ H' D = some (.lst ((l.map one).map V.str)) ∧ StAt H' s c (T + 3 + i) ∧ Kept [D, s, c] H4 H') ⟨[], rfl, fun _ h => absurd h List.not_mem_nil, upd_same, S4.upd_new nD, Kept.upd_in (List.mem_cons_self ..)⟩ (fun i H5 hi hP => ?_) (fun H5 hP => ?_)
    · obtain ⟨l, el, hl, eD, S5, K5⟩ := hP
      refine ⟨rfl, ?_⟩
      unfold tYes
      dsimp only
      refine iteT ?_
      refine ⟨.str abc, rfl, .ref s, rfl, s, c, _, _, rfl, S5, by omega, by decide, by decide, fun d H6 d0 d1 S6 K6 => ?_⟩
      obtain ⟨j, rfl⟩ : ∃ j : Nat, d = (j : Int) := ⟨d.toNat, by omega⟩
      have hj : j < 26 := by omega
      have eD6 : H6 D = some (.lst ((l.map one).map V.str)) := K6 D _ eD (by simp [nsD.symm, ncD.symm])
      refine ⟨abc, (j : Int), j + 97, rfl, rfl, by omega, by omega, ?_, ?_, _, eD6, ?_, l ++ [j + 97], ?_, ?_, ?_, ?_, ?_⟩
      · rw [cl_len, abc_cl]; simp; omega
      · show abc.cps[j]? = _
        rw [← Array.getElem?_toList]; exact abc_at hj
      · rw [List.length_map, List.length_map]; exact small1000 (by omega)
      · rw [List.length_append, el]; rfl
      · intro x hx
        rcases List.mem_append.mp hx with h | h
        · exact hl x h
        · rw [List.mem_singleton.mp h]; unfold low; omega
      · rw [upd_same, List.map_append, List.map_append]; rfl
      · exact S6.upd nsD ncD
      · exact (K5.trans (K6.mono (by intro p hp; exact List.mem_cons_of_mem _ hp))).trans (Kept.upd_in (List.mem_cons_self ..))
    obtain ⟨st, el, hlow, eD, S5, K5⟩ := hP
    refine ⟨_, D, st.map one, rfl, rfl, .inl (.inl (.inl eD)), ?_, ?_⟩
    · rw [List.map_map, sum_ones]
      show st.length + (st.map one).length * 0 ≤ _
      omega
    generalize hz5 : Txt.join (Str.ofString "") (st.map one) = z5
    have c5 : cl z5 = st := by rw [← hz5]; exact join_ones st
    have l5 : z5.length = st.length := by rw [cl_len, c5]
    have st7 : st.length ≤ 7 := by omega
    have S5 : StAt H5 s c (T + 10) := S5.mono (by omega)
    have K5 : Kept [s, c] H H5 := K2'.trans (K4.trans (K5.new nD))
    clear eD hz5 nsD ncD K4 S4 nD n1 n0 el
    -- at, step, short
    refine ⟨.ref s, rfl, .str z5, rfl, z5, rfl, (by rw [l5]; exact Nat.le_of_lt (small1000 (by omega))), _, _, rfl, rfl, s, c, _, _, rfl, S5, by omega, ?_, ?_, fun a H6 a0 a1 S6 K6 => ?_⟩
    · show (0 : Int) < z5.length + 1; omega
    · show (z5.length : Int) + 1 < 2 ^ 62; omega
    obtain ⟨a, rfl⟩ : ∃ j : Nat, a = (j : Int) := ⟨a.toNat, by omega⟩
    have ha : a ≤ st.length := by
      have a1' : (a : Int) < z5.length + 1 := a1
      omega
    refine ⟨(by show 3 ≤ sizeLine; decide), fun p7 n7 => ?_⟩
    refine ⟨.ref s, rfl, s, c, _, _, rfl, S6.upd_new n7, by omega, by decide, by decide, fun e7 H7 e0 e1 S7 K7 => ?_⟩
    have h7 : H7 p7 = some (.lst [.int 3, .int 5, .int 25]) := K7 p7 _ upd_same (by simp [(S6.nes n7).symm, (S6.nec n7).symm])
    obtain ⟨step, hst, hat⟩ : ∃ step : Int, (step = 3 ∨ step = 5 ∨ step = 25) ∧ atI [V.int 3, V.int 5, V.int 25] e7 = some (.int step) := by
      have : e7 = 0 ∨ e7 = 1 ∨ e7 = 2 := by omega
      rcases this with rfl | rfl | rfl
      · exact ⟨3, .inl rfl, rfl⟩
      · exact ⟨5, .inr (.inl rfl), rfl⟩
      · exact ⟨25, .inr (.inr rfl), rfl⟩
    refine ⟨p7, _, _, _, rfl, rfl, .inl (.inl h7), hat, .ref s, rfl, s, c, _, _, rfl, S7, by omega, by decide, by decide, fun sh8 H8 s0 s1 S8 K8 => ?_⟩
    have K8 : Kept [s, c] H H8 := K5.trans (K6.trans (((Kept.upd_new n7).trans K7).trans K8))
    refine ⟨_, _, _, rfl, ?_⟩
    clear K7 S7 h7 n7 hat e0 e1 K6 S6 K5 S5 S2' K2'
    -- plain, some
    refine ⟨Nat.zero_le _, fun P9 nP => ?_⟩
    have S9 := S8.upd_new (o := .lst []) nP
    refine ⟨(by show 13 ≤ sizeLine; decide), fun W9 nW => ?_⟩
    have S10 := S9.upd_new (o := .lst (words13.map V.str)) nW
    have nPW : P9 ≠ W9 := ne_of_none upd_same nW
    refine ⟨_, _, rfl, ?_⟩
    have nsP := S8.nes nP
    have ncP := S8.nec nP
    have nsW := S9.nes nW
    have ncW := S9.nec nW
    -- for k in range(many)
    refine ⟨.int m, rfl, (m : Int), rfl, by omega, by omega, ?_⟩
    generalize hN : plainN st a first step sh8 = nm
    refine for_range (lo := 0) (n := (m : Int).toNat) (fun k σ H' => (∃ y11 y12, σ = [some (.ref s), some (.int m), some (.str abc), some (.int first), some (.int way), some (.str z5), some (.int a), some (.int step), some (.int sh8), some (.ref P9), some (.ref W9), y11, y12, none, none, none]) ∧
      H' P9 = some (.lst (((List.range k).map nm).map V.str)) ∧ H' W9 = some (.lst (words13.map V.str)) ∧ StAt H' s c (T + 13) ∧ Kept [P9, W9, s, c] H8 H') ⟨⟨none, none, rfl⟩, by rw [upd_ne nPW]; exact upd_same, upd_same, S10, ?_⟩ (fun k σ H9 hk hP => ?_) (fun σ H9 hP => ?_)
    · exact (Kept.upd_in (List.mem_cons_self ..)).trans (Kept.upd_in (List.mem_cons_of_mem _ (List.mem_cons_self ..)))
    · obtain ⟨⟨y11, y12, rfl⟩, eP, eW, S11, K11⟩ := hP
      have hkm : k < 26 := by omega
      -- name = stem[:at] + letters[..]
      have hz : z5.length ≤ sizeLine := by rw [l5]; exact Nat.le_of_lt (small1000 (by omega))
      have hL := letterOf_low first step k
      have x0 := Int.emod_nonneg (first + step * k) (show (26 : Int) ≠ 0 by decide)
      have x1 := Int.emod_lt_of_pos (first + step * k) (show (0 : Int) < 26 by decide)
      refine ⟨.str z5, rfl, .int a, rfl, _, rfl, z5, rfl, hz, .str abc, rfl, .int first, rfl, .int step, rfl, .int (0 + (k : Int)), rfl, _, _, rfl, rfl, .inl ⟨by omega, by omega⟩, _, _, rfl, rfl, _, _, rfl, rfl, (by decide : (0 : Int) < 26), abc, (first + step * k) % 26, letterOf first step k, rfl, ?_, x0, by omega, ?_, ?_, ?_⟩
      · show V.int ((first + step * (0 + (k : Int))) % 26) = _
        rw [Int.zero_add]
      · rw [cl_len, abc_cl]; simp; omega
      · rw [← Array.getElem?_toList]
        have h := abc_at (i := ((first + step * k) % 26).toNat) (by omega)
        exact h
      have c1 : cl (cutS z5 none (some (a : Int))) = st.take a := by
        rw [cut_cl, c5, HT.sIx_none, HT.sIx_nat, l5, Nat.min_eq_left ha, Nat.sub_zero, List.drop_zero]
      refine ⟨_, _, rfl, rfl, ?_, ?_⟩
      · rw [cl_len, c1, List.length_take]
        exact Nat.le_of_lt (small1000 (by show min a st.length + 1 ≤ 1000; omega))
      generalize hnm : cutS z5 none (some (a : Int)) ++ (⟨#[letterOf first step k]⟩ : Str) = nam
      have cn : cl nam = st.take a ++ [letterOf first step k] := by rw [← hnm, cl_app, c1]; rfl
      -- plain.append(name + [.., ..][short])
      have c2 : cl (cutS z5 (some (a : Int)) none) = st.drop a := by
        rw [cut_cl, c5, HT.sIx_none, HT.sIx_nat, l5, Nat.min_eq_left ha, List.take_of_length_le]
        rw [List.length_drop]
        exact Nat.le_refl _
      have l2 : (cutS z5 (some (a : Int)) none).length = st.length - a := by rw [cl_len, c2, List.length_drop]
      refine ⟨.ref P9, rfl, .inl ⟨rfl, _, .inl (.inl eP)⟩, .str nam, rfl, .str z5, rfl, .int a, rfl, _, rfl, z5, rfl, hz, .str z5, rfl, .int a, rfl, _, rfl, z5, rfl, hz, .int (0 + (k : Int)), rfl, _, _, rfl, rfl, (by decide : (0 : Int) < 3), _, rfl, _, rfl, (by rw [l2]; exact Nat.le_of_lt (small1000 (by omega))), (by show 2 ≤ sizeLine; decide), fun p12 n12 => ?_⟩
      have neP : P9 ≠ p12 := ne_of_none eP n12
      have neW : W9 ≠ p12 := ne_of_none eW n12
      have c3 : cl (cutS (cutS z5 (some (a : Int)) none) none (some ((0 + (k : Int)) % 3))) = (st.drop a).take (k % 3) := by
        have ek : (0 + (k : Int)) % 3 = ((k % 3 : Nat) : Int) := by omega
        rw [ek, cut_cl, c2, HT.sIx_none, HT.sIx_nat, Nat.sub_zero, List.drop_zero, l2, List.take_eq_take_iff, List.length_drop]
        omega
      obtain ⟨tl8, htl, hat8⟩ : ∃ t8 : Str, cl t8 = (if sh8 = 0 then st.drop a else (st.drop a).take (k % 3)) ∧ atI [V.str (cutS z5 (some (a : Int)) none), V.str (cutS (cutS z5 (some (a : Int)) none) none (some ((0 + (k : Int)) % 3)))] sh8 = some (.str t8) := by
        have : sh8 = 0 ∨ sh8 = 1 := by omega
        rcases this with rfl | rfl
        · exact ⟨_, by rw [c2, if_pos rfl], rfl⟩
        · exact ⟨_, by rw [c3, if_neg (by decide)], rfl⟩
      refine ⟨.int sh8, rfl, p12, _, _, _, rfl, rfl, .inl (.inl upd_same), hat8, nam, tl8, rfl, rfl, ?_, P9, _, _, rfl, rfl, (by rw [upd_ne neP]; exact eP), ?_, ?_⟩
      · rw [cl_len, cl_len, cn, htl, List.length_append, List.length_take, List.length_singleton]
        refine Nat.le_of_lt (small1000 ?_)
        split
        · rw [List.length_drop]; omega
        · rw [List.length_take, List.length_drop]; omega
      · rw [List.length_map, List.length_map, List.length_range]; exact small1000 (by omega)
      · have en : nam ++ tl8 = nm k := by
          rw [← hN]
          refine cl_inj ?_
          rw [cl_app, cn, htl]
          rfl
        refine ⟨⟨some (.int (0 + (k : Int))), some (.str nam), rfl⟩, ?_, ?_, ?_, ?_⟩
        · rw [upd_same, List.range_succ, List.map_append, List.map_append, en]; rfl
        · rw [upd_ne nPW.symm, upd_ne neW]; exact eW
        · exact (S11.upd_new n12).upd nsP ncP
        · exact K11.trans ((Kept.upd_new n12).trans (Kept.upd_in (List.mem_cons_self ..)))
    · obtain ⟨⟨y11, y12, rfl⟩, eP, eW, S11, K11⟩ := hP
      have em : ((m : Int).toNat) = m := rfl
      rw [em] at eP
      have nodP : (((List.range m).map nm)).Nodup := by
        rw [List.nodup_iff_pairwise_ne, List.pairwise_map]
        refine List.Pairwise.imp_of_mem (fun {i j} hi hj hij => ?_) List.nodup_range
        intro z
        rw [← hN] at z
        exact hij (plain_inj ha hst (by have := List.mem_range.mp hi; omega) (by have := List.mem_range.mp hj; omega) z)
      have okP : ∀ z ∈ (List.range m).map nm, NameOk z := by
        intro z hz
        obtain ⟨k, _, rfl⟩ := List.mem_map.mp hz
        rw [← hN]
        exact plain_ok hlow st7
      have lenP : ((List.range m).map nm).length = m := by rw [List.length_map, List.length_range]
      generalize (List.range m).map nm = ps at eP nodP okP lenP
      clear hN nm S9 S10
      -- found = list(plain)
      refine ⟨.ref P9, rfl, P9, _, rfl, .inl (.inl (.inl eP)), fun F10 nF => ?_⟩
      have eF : (upd H9 F10 (.lst (ps.map V.str))) F10 = some (.lst (ps.map V.str)) := upd_same
      have nPF : P9 ≠ F10 := ne_of_none eP nF
      have nWF : W9 ≠ F10 := ne_of_none eW nF
      have nsF := S11.nes nF
      have ncF := S11.nec nF
      have eP1 : (upd H9 F10 (.lst (ps.map V.str))) P9 = some (.lst (ps.map V.str)) := by rw [upd_ne nPF]; exact eP
      have eW1 : (upd H9 F10 (.lst (ps.map V.str))) W9 = some (.lst (words13.map V.str)) := by rw [upd_ne nWF]; exact eW
      have S12 := S11.upd_new (o := .lst (ps.map V.str)) nF
      have K12 : Kept [P9, W9, s, c] H8 (upd H9 F10 (.lst (ps.map V.str))) := K11.trans (Kept.upd_new nF)
      have nF8 : H8 F10 = none := K11.fresh nF (by
        intro q hq
        simp only [List.mem_cons, List.not_mem_nil, or_false] at hq
        rcases hq with rfl | rfl | rfl | rfl
        · exact nPF
        · exact nWF
        · exact nsF
        · exact ncF)
      generalize upd H9 F10 (.lst (ps.map V.str)) = H10 at eF eP1 eW1 S12 K12 ⊢
      -- for k in range(min(many, 13) * int(way == 0))
      refine ⟨.int m, rfl, _, _, rfl, .int way, rfl, rfl, .inr ⟨_, rfl, _, _, rfl, rfl, .inl ⟨?_, ?_⟩, _, rfl, ?_, ?_, ?_⟩⟩
      · omega
      · omega
      · show -(2 ^ 62 : Int) ≤ (if (13 : Int) < (m : Int) then 13 else (m : Int)) * (if decide (V.int way = V.int 0) = true then 1 else 0)
        split <;> split <;> omega
      · show (if (13 : Int) < (m : Int) then 13 else (m : Int)) * (if decide (V.int way = V.int 0) = true then 1 else 0) < (2 ^ 62 : Int)
        split <;> split <;> omega
      · obtain ⟨N, hN, hN13, hNm⟩ : ∃ N : Nat, ((if (13 : Int) < (m : Int) then 13 else (m : Int)) * (if decide (V.int way = V.int 0) = true then 1 else 0) : Int).toNat = N ∧ N ≤ 13 ∧ N ≤ m := by
          refine ⟨_, rfl, ?_, ?_⟩ <;> (split <;> split <;> omega)
        rw [show ((if (13 : Int) < (m : Int) then 13 else (m : Int)) * (if decide (V.int way = V.int 0) = true then 1 else 0) : Int).toNat = N from hN]
        refine for_range (lo := 0) (n := N) (fun k σ H' => (∃ y11 y12 y14, σ = [some (.ref s), some (.int m), some (.str abc), some (.int first), some (.int way), some (.str z5), some (.int a), some (.int step), some (.int sh8), some (.ref P9), some (.ref W9), y11, y12, some (.ref F10), y14, none]) ∧
          (∃ fs : List Str, H' F10 = some (.lst (fs.map V.str)) ∧ Mixed first ps k fs) ∧ H' P9 = some (.lst (ps.map V.str)) ∧ H' W9 = some (.lst (words13.map V.str)) ∧ StAt H' s c (T + 13 + k) ∧ Kept [F10, P9, W9, s, c] H8 H') ⟨⟨y11, y12, none, rfl⟩, ⟨ps, eF, mixed_start first nodP okP⟩, eP1, eW1, S12, K12.mono (fun _ h => List.mem_cons_of_mem _ h)⟩ (fun k σ H11 hk hP => ?_) (fun σ H11 hP => ?_)
        · obtain ⟨⟨y11, y12, y14, rfl⟩, ⟨fs, eF, mx⟩, eP, eW, S13, K13⟩ := hP
          -- word = some[(first + k) % 13]
          have g0 := Int.emod_nonneg (first + k) (show (13 : Int) ≠ 0 by decide)
          have g1 := Int.emod_lt_of_pos (first + k) (show (0 : Int) < 13 by decide)
          have gw : (words13.map V.str)[((first + k) % 13).toNat]? = some (.str (wordAt first k)) := by
            rw [List.getElem?_map, wordAt_get first k]
            rfl
          refine ⟨.ref W9, rfl, .int first, rfl, .int (0 + (k : Int)), rfl, _, _, rfl, rfl, _, _, rfl, rfl, (by decide : (0 : Int) < 13), W9, _, _, .str (wordAt first k), rfl, rfl, .inl (.inl eW), ?_, ?_⟩
          · show atI (words13.map V.str) ((first + (0 + (k : Int))) % 13) = _
            rw [Int.zero_add, show (first + k) % 13 = ((((first + k) % 13).toNat : Nat) : Int) by omega]
            exact atI_nat gw
          -- if word not in plain and ..
          refine ⟨.str (wordAt first k), rfl, .ref P9, rfl, P9, _, rfl, .inl (.inl (.inl eP)), rfl, flat_strs ps, _, rfl, ?_⟩
          rw [if_pos rfl, inV_strs]
          refine ite2 (fun hn => ?_) (fun hn => ?_)
          · have hnot : wordAt first k ∉ ps := by simpa using hn
            refine ⟨.ref s, rfl, s, c, _, _, rfl, S13, by omega, by decide, by decide, fun d H12 d0 d1 S14 K14 => ?_⟩
            have out : ∀ q, q = P9 ∨ q = W9 ∨ q = F10 → q ∉ [s, c] := by
              intro q hq hm'
              simp only [List.mem_cons, List.not_mem_nil, or_false] at hm'
              rcases hq with rfl | rfl | rfl <;> rcases hm' with z | z
              · exact nsP z.symm
              · exact ncP z.symm
              · exact nsW z.symm
              · exact ncW z.symm
              · exact nsF z.symm
              · exact ncF z.symm
            have eF' := K14.at eF (out _ (.inr (.inr rfl)))
            have eP' := K14.at eP (out _ (.inl rfl))
            have eW' := K14.at eW (out _ (.inr (.inl rfl)))
            have K15 : Kept [F10, P9, W9, s, c] H8 H12 := K13.trans (K14.mono (by
              intro q hq
              exact List.mem_cons_of_mem _ (List.mem_cons_of_mem _ (List.mem_cons_of_mem _ hq))))
            refine ⟨rfl, _, rfl, ite2 (fun _ => ?_) (fun _ => ?_)⟩
            · -- found[k] = word
              refine ⟨.str (wordAt first k), rfl, .ref F10, rfl, .int (0 + (k : Int)), rfl, F10, _, _, k, rfl, rfl, eF', ?_, ?_⟩
              · rw [Int.zero_add, List.length_map, mx.len, lenP]
                exact ixN_nat (by omega)
              · refine ⟨⟨some (.int (0 + (k : Int))), y12, some (.str (wordAt first k)), rfl⟩, ⟨_, by rw [upd_same, ← List.map_set], mx.put hnot (by omega)⟩, by rw [upd_ne nPF]; exact eP', by rw [upd_ne nWF]; exact eW', (S14.upd nsF ncF).mono (by omega), K15.trans (Kept.upd_in (List.mem_cons_self ..))⟩
            · exact ⟨⟨some (.int (0 + (k : Int))), y12, some (.str (wordAt first k)), rfl⟩, ⟨fs, eF', mx.skip⟩, eP', eW', S14.mono (by omega), K15⟩
          · refine iteF ?_
            exact ⟨⟨some (.int (0 + (k : Int))), y12, some (.str (wordAt first k)), rfl⟩, ⟨fs, eF, mx.skip⟩, eP, eW, S13.mono (by omega), K13⟩
        · obtain ⟨⟨y11, y12, y14, rfl⟩, ⟨fs, eF, mx⟩, eP, eW, S13, K13⟩ := hP
          refine ⟨.ref F10, rfl, ?_⟩
          refine q F10 fs H11 (by rw [mx.len, lenP]) (mx.nodup nodP (by omega)) (mx.ok okP) (K8.fresh nF8 ?_) eF (S13.mono (by omega)) (K8.trans ?_)
          · intro z hz
            simp only [List.mem_cons, List.not_mem_nil, or_false] at hz
            rcases hz with rfl | rfl
            · exact nsF
            · exact ncF
          · intro p o e hp
            exact K13 p o e (by
              intro z
              simp only [List.mem_cons, List.not_mem_nil, or_false] at z hp
              rcases z with rfl | rfl | rfl | z
              · rw [nF8] at e; cases e
              · rw [nP] at e; cases e
              · rw [Same.free (same_upd nP) nW] at e; cases e
              · exact hp z)
end
end TT

set_option Elab.async false
set_option linter.all false
set_option maxRecDepth 100000
namespace TT
open PySem PySem.Spec PyProof.Rows L2
/-! ### worths -/
def wV : Option Int → V
  | none => .non
  | some i => .int i
def wD : Option Int → PyData
  | none => .none
  | some i => .int i
def WB (B : Int) : Option Int → Prop
  | none => True
  | some i => -B ≤ i ∧ i ≤ B
theorem WB.mono {B B' : Int} {o : Option Int} (h : WB B o) (l : B ≤ B') : WB B' o := by
  cases o with
  | none => trivial
  | some i => obtain ⟨h1, h2⟩ := h; exact ⟨by omega, by omega⟩
abbrev WOk : Option Int → Prop := WB 1000000000
theorem dp_w {K : PySem.W.Frag} {H : Hp} : ∀ o : Option Int, Dp K H (wV o) (wD o)
  | none => .non
  | some i => .int i
section
variable {P : Program} {w : World} {K : PySem.W.Frag} {mg : Str → Option Value} {base : Heap}
def spWorth : Sp := fun vs H Q _ => ∃ (s c : Addr) (T : Nat), vs = [.ref s] ∧ StAt H s c T ∧ T + 3 ≤ 1000000 ∧
  ∀ (o : Option Int) (H' : Hp), WOk o → StAt H' s c (T + 3) → Kept [s, c] H H' → Q (wV o) H'
abbrev s_law_worth : Stmt := topS 44
abbrev N_law_worth : List Str := ["state", "way"]
theorem sc_law_worth : FnScope N_law_worth ["state"] (defScope s_law_worth) := ⟨rfl, rfl, rfl, by decide +kernel, rfl, by decide +kernel, by decide +kernel⟩

theorem ok_worth {f : Addr} {fd : FuncData} (F : Fun K "_law_worth" "_law_worth" s_law_worth f fd) (D_law_take : Def P w K mg base 1 "_law_take" ["state", "many"] spTake) : FnOk P w K mg base CX0 2 f fd ["state"] spWorth := by
  refine F.ok sc_law_worth (fun vs H Q E h => ?_) (fun cdv A outer sh H vs Q E hr h => ?_)
  · obtain ⟨s, c, T, rfl, _⟩ := h
    rfl
  · obtain ⟨s, c, T, rfl, S, hT, q⟩ := h
    have nd := sc_law_worth.nd
    have hu := hu_of hr
    refine ⟨_, (pss_cons (ps_set (i := 1) nd rfl (Or.inl rfl) (pe_own D_law_take hr (pa_cons (pv 0) (pa_cons pe_int pa_nil))))
      (pss_cons (ps_if (pt_cmpR op_lt (pv 1) pe_int (nomark _))
        (pss_one (ps_ret (pe_ix ix_list (pe_lst (pa_cons pe_non (pa_cons pe_int pa_nil))) (pv 1) (fun _ _ => rfl))))
        pss_nil)
      (pss_cons (ps_if (pt_cmpR op_lt (pv 1) pe_int (nomark _))
        (pss_one (ps_ret (pe_op op_sub (pe_own D_law_take hr (pa_cons (pv 0) (pa_cons pe_int pa_nil))) pe_int)))
        pss_nil)
      (pss_one (ps_ret (pe_ix ix_list (pe_lst (pa_cons (pe_op op_sub (pe_own D_law_take hr (pa_cons (pv 0) (pa_cons (pe_op op_add (pe_op op_mul pe_int (pe_op op_pow pe_int pe_int)) pe_int) pa_nil))) (pe_op op_pow pe_int pe_int)) (pa_cons (pe_op op_sub (pe_op op_pow pe_int pe_int) (pe_op op_mul (pe_op op_mul pe_int (pe_op op_pow pe_int pe_int)) (pe_own D_law_take hr (pa_cons (pv 0) (pa_cons pe_int pa_nil))))) pa_nil))) (pe_op op_sub (pv 1) pe_int) (fun _ _ => rfl))))))), ?_⟩
    refine ⟨.ref s, rfl, s, c, T, _, rfl, S, by omega, by decide, by decide, fun way H1 w0 w1 S1 K1 => ?_⟩
    refine ⟨.int way, rfl, _, _, rfl, rfl, _, rfl, ite2 (fun h1 => ?_) (fun h1 => ?_)⟩
    · have h1 : way < 2 := of_decide_eq_true h1
      refine ⟨(by show 2 ≤ sizeLine; decide), fun p np => ?_⟩
      have : way = 0 ∨ way = 1 := by omega
      rcases this with rfl | rfl
      · exact ⟨.int 0, rfl, p, _, _, .non, rfl, rfl, .inl (.inl upd_same), rfl, q none _ trivial ((S1.upd_new np).mono (by omega)) (K1.trans (Kept.upd_new np))⟩
      · exact ⟨.int 1, rfl, p, _, _, .int 0, rfl, rfl, .inl (.inl upd_same), rfl, q (some 0) _ ⟨by decide, by decide⟩ ((S1.upd_new np).mono (by omega)) (K1.trans (Kept.upd_new np))⟩
    · have h1 : ¬ way < 2 := fun h => h1 (decide_eq_true h)
      refine ⟨.int way, rfl, _, _, rfl, rfl, _, rfl, ite2 (fun h2 => ?_) (fun h2 => ?_)⟩
      · refine ⟨.ref s, rfl, s, c, _, _, rfl, S1, by omega, by decide, by decide, fun d H2 d0 d1 S2 K2 => ⟨_, _, rfl, rfl, ?_⟩⟩
        exact q (some (d - 4)) _ ⟨by omega, by omega⟩ (S2.mono (by omega)) (K1.trans K2)
      · have h2 : ¬ way < 6 := fun h => h2 (decide_eq_true h)
        refine ⟨.ref s, rfl, 10, 9, rfl, rfl, ⟨by decide, by decide, by decide⟩, _, _, rfl, rfl, .inl ⟨by decide, by decide⟩, _, _, rfl, rfl, s, c, _, _, rfl, S1, by omega, by decide, by decide, fun d H2 d0 d1 S2 K2 => ?_⟩
        refine ⟨10, 9, rfl, rfl, ⟨by decide, by decide, by decide⟩, _, _, rfl, rfl, ?_⟩
        refine ⟨10, 9, rfl, rfl, ⟨by decide, by decide, by decide⟩, 10, 9, rfl, rfl, ⟨by decide, by decide, by decide⟩, _, _, rfl, rfl, .inl ⟨by decide, by decide⟩, .ref s, rfl, s, c, _, _, rfl, S2, by omega, by decide, by decide, fun e H3 e0 e1 S3 K3 => ?_⟩
        refine ⟨_, _, rfl, rfl, .inl ⟨by decide, by decide⟩, _, _, rfl, rfl, (by show 2 ≤ sizeLine; decide), fun p np => ?_⟩
        have e9 : (10 : Int) ^ (9 : Int).toNat = 1000000000 := by decide
        have d1' : d < 2 * 1000000000 + 1 := by rw [← e9]; exact d1
        have S4 := (S3.upd_new (o := .lst [.int (d - 10 ^ (9 : Int).toNat), .int (10 ^ (9 : Int).toNat - 2 * 10 ^ (9 : Int).toNat * e)]) np).mono (T' := T + 3) (by omega)
        have K4 : Kept [s, c] H (upd H3 p (.lst [.int (d - 10 ^ (9 : Int).toNat), .int (10 ^ (9 : Int).toNat - 2 * 10 ^ (9 : Int).toNat * e)])) := K1.trans (K2.trans (K3.trans (Kept.upd_new np)))
        have : way = 6 ∨ way = 7 := by omega
        rcases this with rfl | rfl
        · exact ⟨.int 6, rfl, _, _, rfl, rfl, p, _, _, .int (d - 10 ^ (9 : Int).toNat), rfl, rfl, .inl (.inl upd_same), rfl, q (some (d - 10 ^ (9 : Int).toNat)) _ ⟨by rw [e9]; omega, by rw [e9]; omega⟩ S4 K4⟩
        · exact ⟨.int 7, rfl, _, _, rfl, rfl, p, _, _, .int (10 ^ (9 : Int).toNat - 2 * 10 ^ (9 : Int).toNat * e), rfl, rfl, .inl (.inl upd_same), rfl, q (some (10 ^ (9 : Int).toNat - 2 * 10 ^ (9 : Int).toNat * e)) _ ⟨by rw [e9]; omega, by rw [e9]; omega⟩ S4 K4⟩
end
end TT

set_option Elab.async false
set_option linter.all false
set_option maxRecDepth 100000
namespace TT
open PySem PySem.Spec PyProof.Rows L2
/-! ### tables as plain data -/
abbrev Col := Str × Option Int
abbrev Tab := Str × List Col
def colD (x : Col) : PyData := .tuple [.str x.1, wD x.2]
def tabD (x : Tab) : PyData := .tuple [.str x.1, .tuple (x.2.map colD)]
structure ColsOk (n : Nat) (cs : List Col) : Prop where
  top : cs.length ≤ n
  nd : (cs.map (·.1)).Nodup
  nm : ∀ x ∈ cs, NameOk x.1
  w : ∀ x ∈ cs, WOk x.2
  key : ∀ x, cs[0]? = some x → x.2 = none
structure TabsOk (n : Nat) (ts : List Tab) : Prop where
  nd : (ts.map (·.1)).Nodup
  nm : ∀ x ∈ ts, NameOk x.1
  cs : ∀ x ∈ ts, ColsOk n x.2 ∧ 0 < x.2.length
theorem strOk_name {z : Str} (h : NameOk z) : PyData.strOk z = true := by
  unfold PyData.strOk
  rw [Array.all_eq_true']
  intro x hx
  have := h.low x (by unfold cl; exact Array.mem_toList_iff.mpr hx)
  unfold low at this
  simp; omega
theorem lay_w : ∀ o : Option Int, (wD o).canLay0 = true ∧ (wD o).depth = 0
  | none => ⟨rfl, rfl⟩
  | some _ => ⟨rfl, rfl⟩
theorem lay_cols : ∀ cs : List Col, (∀ x ∈ cs, NameOk x.1) → PyData.canLayAll0 (cs.map colD) = true ∧ PyData.depthAll (cs.map colD) ≤ 1
  | [], _ => ⟨rfl, Nat.zero_le _⟩
  | x :: cs, h => by
    obtain ⟨h1, h2⟩ := lay_cols cs fun y hy => h y (List.mem_cons_of_mem _ hy)
    have h3 := strOk_name (h x (List.mem_cons_self ..))
    obtain ⟨h4, h5⟩ := lay_w x.2
    constructor
    · show ((PyData.strOk x.1 && ((wD x.2).canLay0 && true)) && PyData.canLayAll0 (cs.map colD)) = true
      rw [h3, h4, h1]; rfl
    · show max (max 0 (max (wD x.2).depth 0) + 1) (PyData.depthAll (cs.map colD)) ≤ 1
      rw [h5]
      exact Nat.max_le.mpr ⟨Nat.le_refl _, h2⟩
theorem shaped_cols {cs : List Col} (h : ∀ x ∈ cs, NameOk x.1) : SeqAt.shaped (.list (cs.map colD)) = true := by
  obtain ⟨h1, h2⟩ := lay_cols cs h
  show (PyData.canLayAll0 (cs.map colD) && decide (PyData.depthAll (cs.map colD) + 1 ≤ 64)) = true
  rw [h1, decide_eq_true (by omega)]; rfl
theorem eqv_nil (ds : List PyData) : PyData.eqv (.list ds) (.list []) = ds.isEmpty := by
  cases ds <;> rfl
section
variable {P : Program} {w : World} {K : PySem.W.Frag} {mg : Str → Option Value} {base : Heap}
def spTables (K : PySem.W.Frag) : Sp := fun vs H Q _ => ∃ (s c : Addr) (T m n : Nat), vs = [.ref s, .int m, .int n] ∧ StAt H s c T ∧ T + 1000 ≤ 1000000 ∧ m ≤ 8 ∧ 0 < n ∧ n ≤ 8 ∧
  ∀ (p : Addr) (ts : List Tab) (H' : Hp), ts.length = m → TabsOk n ts → H p = none → Dp K (msk [s, c] H') (.ref p) (.tuple (ts.map tabD)) → StAt H' s c (T + 1000) → Kept [s, c] H H' → Q (.ref p) H'
abbrev s_law_tables : Stmt := topS 45
abbrev N_law_tables : List Str := ["state", "many", "wide", "found", "name", "columns", "column"]
theorem sc_law_tables : FnScope N_law_tables ["state", "many", "wide"] (defScope s_law_tables) := ⟨rfl, rfl, rfl, by decide +kernel, rfl, by decide +kernel, by decide +kernel⟩

theorem ok_tables {f : Addr} {fd : FuncData} (F : Fun K "_law_tables" "_law_tables" s_law_tables f fd) (nb : NB mg) (D_law_take : Def P w K mg base 1 "_law_take" ["state", "many"] spTake)
    (D_law_names : Def P w K mg base 2 "_law_names" ["state", "many"] spNames) (D_law_worth : Def P w K mg base 2 "_law_worth" ["state"] spWorth) : FnOk P w K mg base CX0 3 f fd ["state", "many", "wide"] (spTables K) := by
  refine F.ok sc_law_tables (fun vs H Q E h => ?_) (fun cdv A outer sh H vs Q E hr h => ?_)
  · obtain ⟨s, c, T, m, n, rfl, _⟩ := h
    rfl
  · obtain ⟨s, c, T, m, n, rfl, S, hT, hm, hn0, hn, q⟩ := h
    have nd := sc_law_tables.nd
    have hu := hu_of hr
    refine ⟨_, (pss_cons (ps_set (i := 3) nd rfl (Or.inl rfl) (pe_lst pa_nil))
      (pss_cons (ps_for PassesOwn.never rfl (pi_list (pe_own D_law_names hr (pa_cons (pv 0) (pa_cons (pv 1) pa_nil)))) (pg_name (i := 4) nd rfl (Or.inl rfl))
        (pss_cons (ps_set (i := 5) nd rfl (Or.inl rfl) (pe_lst pa_nil))
        (pss_cons (ps_for PassesOwn.never rfl (pi_list (pe_own D_law_names hr (pa_cons (pv 0) (pa_cons (pe_op op_add pe_int (pe_own D_law_take hr (pa_cons (pv 0) (pa_cons (pv 2) pa_nil)))) pa_nil)))) (pg_name (i := 6) nd rfl (Or.inl rfl))
          (pss_one (ps_expr (pe_bm PySem.F.plainAttrs_list PySem.F.slot_list_append PySem.F.type_list_append mt_append (pv 5) (pa_cons (pe_tup (pa_cons (pv 6) (pa_cons (pe_ifExp (pt_cmpR (op_neD hr.units) (pv 5) (pe_lst pa_nil) (nomark _)) (pe_own D_law_worth hr (pa_cons (pv 0) pa_nil)) pe_non) pa_nil))) pa_nil)))))
        (pss_one (ps_expr (pe_bm PySem.F.plainAttrs_list PySem.F.slot_list_append PySem.F.type_list_append mt_append (pv 3) (pa_cons (pe_tup (pa_cons (pv 4) (pa_cons (pe_callTy call_tuple_of (by rfl) nb.b_tuple (by decide +kernel) (pa_cons (pv 5) pa_nil)) pa_nil))) pa_nil)))))))
      (pss_one (ps_ret (pe_callTy call_tuple_of (by rfl) nb.b_tuple (by decide +kernel) (pa_cons (pv 3) pa_nil)))))), ?_⟩
    refine ⟨Nat.zero_le _, fun P3 n3 => ?_⟩
    have S1 := S.upd_new (o := .lst []) n3
    have ns3 := S.nes n3
    have nc3 := S.nec n3
    have out3 : P3 ∉ [s, c] := by
      intro z
      simp only [List.mem_cons, List.not_mem_nil, or_false] at z
      rcases z with z | z
      · exact ns3 z.symm
      · exact nc3 z.symm
    have e3 : (upd H P3 (.lst [])) P3 = some (.lst []) := upd_same
    have K01 : Kept [P3, s, c] H (upd H P3 (.lst [])) := Kept.upd_new n3
    -- for name in ..
    refine ⟨.ref s, rfl, .int m, rfl, s, c, _, m, rfl, S1, by omega, by omega, fun pn zs H2 lz ndz okz nfz ez S2 K2 => ⟨pn, rfl, ⟨_, .inl (.inl ez)⟩, ?_⟩⟩
    have e3' : H2 P3 = some (.lst []) := K2.at e3 out3
    have ncn : pn ≠ P3 := fun z => by
      rw [z, e3] at nfz
      cases nfz
    have nsn : s ≠ pn := S1.nes nfz
    have ncp : c ≠ pn := S1.nec nfz
    have outn : pn ∉ [P3, s, c] := by
      intro z
      simp only [List.mem_cons, List.not_mem_nil, or_false] at z
      rcases z with z | z | z
      · exact ncn z
      · exact nsn z.symm
      · exact ncp z.symm
    have K02 : Kept [P3, s, c] H H2 := K01.trans (K2.mono (by intro p hp; exact List.mem_cons_of_mem _ hp))
    refine for_list (K := K) (a := pn) (xs := zs.map V.str) (fun i σ H' => (∃ y5 y6 y7, σ = [some (.ref s), some (.int m), some (.int n), some (.ref P3), y5, y6, y7]) ∧
      (∃ (vs : List V) (ts : List Tab), H' P3 = some (.lst vs) ∧ DpAll K (msk [P3, s, c] H') vs (ts.map tabD) ∧ ts.map (·.1) = zs.take i ∧ ∀ x ∈ ts, ColsOk n x.2 ∧ 0 < x.2.length) ∧ H' pn = some (.lst (zs.map V.str)) ∧ StAt H' s c (T + 31 + i * 100) ∧ Kept [P3, s, c] H H')
      ⟨⟨none, none, none, rfl⟩, ⟨[], [], e3', .nil, rfl, fun _ h => absurd h List.not_mem_nil⟩, ez, S2.mono (by omega), K02⟩ (fun i σ H' _ hP => .inl (.inl hP.2.2.1)) (fun i x σ H3 hx hP => ?_) (fun σ H3 hP => ?_)
    · obtain ⟨⟨y5, y6, y7, rfl⟩, ⟨vs, ts, eP, dp, em, okc⟩, en, S3, K3⟩ := hP
      rw [List.getElem?_map] at hx
      obtain ⟨z, hz, rfl⟩ := Option.map_eq_some_iff.mp hx
      have hi : i < zs.length := (List.getElem?_eq_some_iff.mp hz).1
      -- columns = []
      refine ⟨Nat.zero_le _, fun P6 n6 => ?_⟩
      have ns6 := S3.nes n6
      have nc6 := S3.nec n6
      have n36 : P3 ≠ P6 := ne_of_none eP n6
      have nn6 : pn ≠ P6 := ne_of_none en n6
      have S4 := S3.upd_new (o := .lst []) n6
      have K4 : Kept [P6, P3, s, c] H3 (upd H3 P6 (.lst [])) := Kept.upd_new n6
      have e6 : (upd H3 P6 (.lst [])) P6 = some (.lst []) := upd_same
      have n6H : H P6 = none := K3.fresh n6 (by
        intro q hq
        simp only [List.mem_cons, List.not_mem_nil, or_false] at hq
        rcases hq with rfl | rfl | rfl
        · exact n36
        · exact ns6
        · exact nc6)
      -- for column in ..
      have im : i < 8 := by omega
      refine ⟨.ref s, rfl, ?_⟩
      refine ⟨.ref s, rfl, .int n, rfl, s, c, _, _, rfl, S4, by omega, by omega, by omega, fun e H7 g0 g1 S7 K7 => ⟨_, _, rfl, rfl, ?_⟩⟩
      obtain ⟨kk, hkk⟩ : ∃ kk : Nat, 1 + e = (kk : Int) := ⟨(1 + e).toNat, by omega⟩
      refine ⟨s, c, _, kk, congrArg (fun z => [V.ref s, V.int z]) hkk, S7, by omega, by omega, fun pq ys H5 ly ndy oky nfy ey S5 K5 => ⟨pq, rfl, ⟨_, .inl (.inl ey)⟩, ?_⟩⟩
      have ly2 : 0 < ys.length ∧ ys.length ≤ n := by omega
      have n5 : P6 ≠ pq := ne_of_none (K7.at e6 (by simp [ns6.symm, nc6.symm])) nfy
      have n35 : P3 ≠ pq := ne_of_none (K7.at (show (upd H3 P6 (.lst [])) P3 = some _ by rw [upd_ne n36]; exact eP) out3) nfy
      have nn5 : pn ≠ pq := ne_of_none (K7.at (show (upd H3 P6 (.lst [])) pn = some _ by rw [upd_ne nn6]; exact en) (by simp [nsn.symm, ncp.symm])) nfy
      have K6 : Kept [s, c] (upd H3 P6 (.lst [])) H5 := K7.trans K5
      have S6 : StAt H5 s c (T + 62 + i * 100) := S5.mono (by omega)
      have nsq : s ≠ pq := S7.nes nfy
      have ncq : c ≠ pq := S7.nec nfy
      · have out6 : P6 ∉ [s, c] := by simp [ns6.symm, nc6.symm]
        have eP5 : H5 P3 = some (.lst vs) := K6.at (show (upd H3 P6 (.lst [])) P3 = some _ by rw [upd_ne n36]; exact eP) out3
        have e65 : H5 P6 = some (.lst []) := K6.at e6 out6
        have en5 : H5 pn = some (.lst (zs.map V.str)) := K6.at (show (upd H3 P6 (.lst [])) pn = some _ by rw [upd_ne nn6]; exact en) (by simp [nsn.symm, ncp.symm])
        have K36 : Kept [P6, P3, s, c] H3 H5 := K4.trans (K6.mono (by intro p hp; exact List.mem_cons_of_mem _ (List.mem_cons_of_mem _ hp)))
        refine for_list (K := K) (a := pq) (xs := ys.map V.str) (fun j σ H' => (∃ y7, σ = [some (.ref s), some (.int m), some (.int n), some (.ref P3), some (.str z), some (.ref P6), y7]) ∧
          (∃ (us : List V) (cs : List Col), H' P6 = some (.lst us) ∧ DpAll K (msk [P6, P3, s, c] H') us (cs.map colD) ∧ cs.map (·.1) = ys.take j ∧ (∀ x ∈ cs, WOk x.2) ∧ ∀ x, cs[0]? = some x → x.2 = none) ∧ H' pq = some (.lst (ys.map V.str)) ∧ StAt H' s c (T + 62 + i * 100 + j * 3) ∧ Kept [P6, P3, s, c] H3 H' ∧ H' P3 = some (.lst vs))
          ⟨⟨y7, rfl⟩, ⟨[], [], e65, .nil, rfl, fun _ h => absurd h List.not_mem_nil, fun _ h => nomatch h⟩, ey, S6, K36, eP5⟩ (fun j σ H' _ hP => .inl (.inl hP.2.2.1)) (fun j x σ H8 hx8 hP => ?_) (fun σ H8 hP => ?_)
        · obtain ⟨⟨y7, rfl⟩, ⟨us, cs, e6, dpu, emu, okw, oky0⟩, eq, S8, K8, eP8⟩ := hP
          rw [List.getElem?_map] at hx8
          obtain ⟨y, hy, rfl⟩ := Option.map_eq_some_iff.mp hx8
          have hj : j < ys.length := (List.getElem?_eq_some_iff.mp hy).1
          have hcl : cs.length = j := by
            have := congrArg List.length emu
            rw [List.length_map, List.length_take] at this
            omega
          have okn : ∀ x ∈ cs, NameOk x.1 := fun x hx => oky x.1 (by
            have h : x.1 ∈ cs.map (·.1) := List.mem_map.mpr ⟨x, hx, rfl⟩
            rw [emu] at h
            exact List.mem_of_mem_take h)
          have uslen : us.length = j := by rw [dpAll_len dpu, List.length_map, hcl]
          -- columns.append((column, worth if columns != [] else None))
          refine ⟨.ref P6, rfl, .inl ⟨rfl, _, .inl (.inl e6)⟩, .str y, rfl, .ref P6, rfl, Nat.zero_le _, fun q9 n9 => ?_⟩
          have n69 : P6 ≠ q9 := ne_of_none e6 n9
          have n39 : P3 ≠ q9 := ne_of_none eP8 n9
          have nq9 : pq ≠ q9 := ne_of_none eq n9
          have S9 := S8.upd_new (o := .lst []) n9
          have K9 : Kept [P6, P3, s, c] H3 (upd H8 q9 (.lst [])) := K8.trans (Kept.upd_new n9)
          have sm9 : Same H8 (upd H8 q9 (.lst [])) := same_upd n9
          refine ⟨.list (cs.map colD), .list [], .lst (.inl (.inl (sm9 _ _ e6))) (dpAll_same sm9 (dpAll_same (msk_sub _ _) dpu)), .lst (.inl (.inl upd_same)) .nil, shaped_cols okn, rfl, _, rfl, ?_⟩
          rw [eqv_nil]
          cases hE : (cs.map colD).isEmpty
          case' false =>
            have hcs : ¬ cs = [] := fun z => by rw [z] at hE; cases hE
            refine iteT ?_
            refine ⟨.ref s, rfl, s, c, _, rfl, S9, by omega, fun o H10 wo S10 K10 => ?_⟩
            have hon : cs = [] → o = none := fun z => absurd z hcs
          case' true =>
            have hcs : cs = [] := by
              cases cs with
              | nil => rfl
              | cons a r => cases hE
            refine iteF ?_
            obtain ⟨o, ho, wo⟩ : ∃ o : Option Int, o = none ∧ WOk o := ⟨none, rfl, trivial⟩
            have hon : cs = [] → o = none := fun _ => ho
            obtain ⟨H10, hH10⟩ : ∃ H10, H10 = upd H8 q9 (.lst []) := ⟨_, rfl⟩
            have S10 : StAt H10 s c (T + 62 + i * 100 + j * 3 + 3) := by rw [hH10]; exact S9.mono (by omega)
            have K10 : Kept [s, c] (upd H8 q9 (.lst [])) H10 := by rw [hH10]; exact Kept.refl _ _
            rw [← hH10]
            have hv : (V.non) = wV o := by rw [ho]; rfl
            rw [hv]
          all_goals
            refine ⟨(by show 2 ≤ sizeLine; decide), fun t nt => ?_⟩
            have outq : pq ∉ [s, c] := by
              intro hz
              simp only [List.mem_cons, List.not_mem_nil, or_false] at hz
              rcases hz with hz | hz
              · exact nsq hz.symm
              · exact ncq hz.symm
            have e6b : H10 P6 = some (.lst us) := K10.at (sm9 _ _ e6) out6
            have eqb : H10 pq = some (.lst (ys.map V.str)) := K10.at (sm9 _ _ eq) outq
            have ePb : H10 P3 = some (.lst vs) := K10.at (sm9 _ _ eP8) out3
            have n6t : P6 ≠ t := ne_of_none e6b nt
            have nqt : pq ≠ t := ne_of_none eqb nt
            have n3t : P3 ≠ t := ne_of_none ePb nt
            have Kb : Kept [P6, P3, s, c] H8 H10 := (Kept.of_same sm9).trans (K10.mono (by intro p hp; exact List.mem_cons_of_mem _ (List.mem_cons_of_mem _ hp)))
            have Kc : Kept [P6, P3, s, c] H8 (upd (upd H10 t (.tup [.str y, wV o])) P6 (.lst (us ++ [.ref t]))) := Kb.trans ((Kept.upd_new nt).trans (Kept.upd_in (List.mem_cons_self ..)))
            refine ⟨P6, us, _, rfl, rfl, (by rw [upd_ne n6t]; exact e6b), by rw [uslen]; exact small1000 (by omega), ⟨some (.str y), rfl⟩, ⟨_, cs ++ [(y, o)], upd_same, ?_, ?_, ?_, ?_⟩, ?_, ((S10.upd_new nt).upd ns6 nc6).mono (by omega), K8.trans Kc, ?_⟩
            · rw [List.map_append]
              refine dpAll_snoc (dpAll_same (msk_same Kc) dpu) ?_
              refine .tup (xs := [.str y, wV o]) (.inl (.inl ?_)) (.cons (.str y) (.cons (dp_w o) .nil))
              unfold msk
              rw [if_neg (by
                intro hz
                simp only [List.mem_cons, List.not_mem_nil, or_false] at hz
                rcases hz with hz | hz | hz | hz
                · exact n6t hz.symm
                · exact n3t hz.symm
                · exact S10.nes nt hz.symm
                · exact S10.nec nt hz.symm), upd_ne n6t.symm, upd_same]
            · rw [List.map_append, emu, List.take_add_one, hy]; rfl
            · intro x hx
              rcases List.mem_append.mp hx with h | h
              · exact okw x h
              · rw [List.mem_singleton.mp h]; exact wo
            · intro x hx
              cases cs with
              | nil =>
                have : x = (y, o) := (Option.some.inj hx).symm
                rw [this]; exact hon rfl
              | cons a r => exact oky0 x hx
            · rw [upd_ne n5.symm, upd_ne nqt]; exact eqb
            · rw [upd_ne n36, upd_ne n3t]; exact ePb
        · obtain ⟨⟨y7, rfl⟩, ⟨us, cs, e6, dpu, emu, okw, oky0⟩, eq, S8, K8, eP8⟩ := hP
          have lyy : (ys.map V.str).length = ys.length := List.length_map ..
          rw [lyy] at emu S8
          rw [List.take_length] at emu
          have hcl : cs.length = ys.length := by rw [← emu, List.length_map]
          have uslen : us.length = cs.length := by rw [dpAll_len dpu, List.length_map]
          -- found.append((name, tuple(columns)))
          refine ⟨.ref P3, rfl, .inl ⟨rfl, _, .inl (.inl eP8)⟩, .str z, rfl, .ref P6, rfl, P6, us, rfl, .inl ⟨.inl (.inl e6), fun t nt => ?_⟩⟩
          have n6t : P6 ≠ t := ne_of_none e6 nt
          have n3t : P3 ≠ t := ne_of_none eP8 nt
          have nst := S8.nes nt
          have nct := S8.nec nt
          refine ⟨(by show 2 ≤ sizeLine; decide), fun t2 nt2 => ?_⟩
          have n3t2 : P3 ≠ t2 := ne_of_none (show (upd H8 t (.tup us)) P3 = some _ by rw [upd_ne n3t]; exact eP8) nt2
          have n6t2 : P6 ≠ t2 := ne_of_none (show (upd H8 t (.tup us)) P6 = some _ by rw [upd_ne n6t]; exact e6) nt2
          have ntt2 : t ≠ t2 := ne_of_none upd_same nt2
          have nst2 := (S8.upd_new (o := .tup us) nt).nes nt2
          have nct2 := (S8.upd_new (o := .tup us) nt).nec nt2
          have Kd : Kept [P6, P3, s, c] H8 (upd (upd (upd H8 t (.tup us)) t2 (.tup [.str z, .ref t])) P3 (.lst (vs ++ [.ref t2]))) := (Kept.upd_new nt).trans ((Kept.upd_new nt2).trans (Kept.upd_in (List.mem_cons_of_mem _ (List.mem_cons_self ..))))
          have Ke : Kept [P3, s, c] H3 (upd (upd (upd H8 t (.tup us)) t2 (.tup [.str z, .ref t])) P3 (.lst (vs ++ [.ref t2]))) := (K8.trans Kd).new n6
          have vlen : vs.length = i := by
            have h1 := congrArg List.length em
            rw [List.length_map, List.length_take] at h1
            rw [dpAll_len dp, List.length_map]; omega
          refine ⟨P3, vs, _, rfl, rfl, (by rw [upd_ne n3t2, upd_ne n3t]; exact eP8), by rw [vlen]; exact small1000 (by omega), ⟨_, _, _, rfl⟩, ⟨_, ts ++ [(z, cs)], upd_same, ?_, ?_, ?_⟩, Ke.at en outn, (((S8.upd_new nt).upd_new nt2).upd ns3 nc3).mono (by omega), K3.trans Ke⟩
          · rw [List.map_append]
            refine dpAll_snoc (dpAll_same (msk_same Ke) dp) ?_
            have at3 : ∀ b o, b ≠ P3 → b ≠ s → b ≠ c → (upd (upd (upd H8 t (.tup us)) t2 (.tup [.str z, .ref t])) P3 (.lst (vs ++ [.ref t2]))) b = some o → msk [P3, s, c] (upd (upd (upd H8 t (.tup us)) t2 (.tup [.str z, .ref t])) P3 (.lst (vs ++ [.ref t2]))) b = some o := by
              intro b o h1 h2 h3 h4
              unfold msk
              rw [if_neg (by simp [h1, h2, h3])]
              exact h4
            refine .tup (xs := [.str z, .ref t]) (.inl (.inl (at3 _ _ n3t2.symm nst2.symm nct2.symm ?_))) (.cons (.str z) (.cons ?_ .nil))
            · rw [upd_ne n3t2.symm, upd_same]
            · refine .tup (xs := us) (.inl (.inl (at3 _ _ n3t.symm nst.symm nct.symm ?_))) ?_
              · rw [upd_ne n3t.symm, upd_ne ntt2, upd_same]
              · exact dpAll_same (msk_less (M := [P6, P3, s, c]) (by intro p hp; exact List.mem_cons_of_mem _ hp)) (dpAll_same (msk_same Kd) dpu)
          · rw [List.map_append, em, List.take_add_one, hz]; rfl
          · intro x hx
            rcases List.mem_append.mp hx with h | h
            · exact okc x h
            · rw [List.mem_singleton.mp h]
              refine ⟨⟨?_, ?_, ?_, okw, oky0⟩, ?_⟩
              · show cs.length ≤ n; omega
              · show (cs.map (·.1)).Nodup; rw [emu]; exact ndy
              · intro x hx
                exact oky x.1 (by rw [← emu]; exact List.mem_map.mpr ⟨x, hx, rfl⟩)
              · show 0 < cs.length; omega
    · obtain ⟨⟨y5, y6, y7, rfl⟩, ⟨vs, ts, eP, dp, em, okc⟩, en, S3, K3⟩ := hP
      have lzz : (zs.map V.str).length = zs.length := List.length_map ..
      rw [lzz] at em S3
      rw [List.take_length] at em
      have tl : ts.length = zs.length := by rw [← em, List.length_map]
      refine ⟨.ref P3, rfl, P3, vs, rfl, .inl ⟨.inl (.inl eP), fun t nt => ?_⟩⟩
      have n3t : P3 ≠ t := ne_of_none eP nt
      have nst := S3.nes nt
      have nct := S3.nec nt
      have Kf : Kept [P3, s, c] H3 (upd H3 t (.tup vs)) := Kept.upd_new nt
      refine q t ts _ (by omega) ⟨by rw [em]; exact ndz, fun x hx => okz x.1 (by rw [← em]; exact List.mem_map.mpr ⟨x, hx, rfl⟩), okc⟩ (K3.fresh nt ?_) ?_ ((S3.upd_new nt).mono (by omega)) ((K3.trans Kf).new n3)
      · intro b hb
        simp only [List.mem_cons, List.not_mem_nil, or_false] at hb
        rcases hb with rfl | rfl | rfl
        · exact n3t
        · exact nst
        · exact nct
      · refine .tup (xs := vs) (.inl (.inl ?_)) ?_
        · unfold msk
          rw [if_neg (by simp [nst.symm, nct.symm]), upd_same]
        · exact dpAll_same (msk_less (M := [P3, s, c]) (by intro p hp; exact List.mem_cons_of_mem _ hp)) (dpAll_same (msk_same Kf) dp)
end
end TT

set_option Elab.async false
set_option linter.all false
set_option maxRecDepth 100000
namespace TT
open PySem PySem.Spec PyProof.Rows L2
/-! ### how many unlike texts a list has -/
def addNew (acc : List Str) (v : Str) : List Str := if v ∈ acc then acc else acc ++ [v]
def unlike (xs : List Str) : List Str := xs.foldl addNew []
theorem unlike_snoc (xs : List Str) (v : Str) : unlike (xs ++ [v]) = addNew (unlike xs) v := by
  unfold unlike
  rw [List.foldl_append]
  rfl
theorem addNew_mem (acc : List Str) (v k : Str) : k ∈ addNew acc v ↔ k ∈ acc ∨ k = v := by
  unfold addNew
  by_cases h : v ∈ acc
  · rw [if_pos h]
    exact ⟨.inl, fun q => q.elim id fun e => by rw [e]; exact h⟩
  · rw [if_neg h, List.mem_append, List.mem_singleton]
theorem addNew_len (acc : List Str) (v : Str) : (addNew acc v).length = if v ∈ acc then acc.length else acc.length + 1 := by
  unfold addNew
  split <;> simp
/-- the texts are unlike just where the set is as long as the list -/
theorem unlike_spec : ∀ (n : Nat) (xs : List Str), xs.length = n → (∀ k, k ∈ unlike xs ↔ k ∈ xs) ∧ (unlike xs).length ≤ n ∧ ((unlike xs).length = n ↔ xs.Nodup)
  | 0, xs, h => by
    have e : xs = [] := List.length_eq_zero_iff.mp h
    subst e
    exact ⟨fun _ => Iff.rfl, Nat.le_refl _, by simp [unlike]⟩
  | n + 1, xs, h => by
    have hne : xs ≠ [] := fun z => by rw [z] at h; cases h
    have e : xs = xs.dropLast ++ [xs.getLast hne] := (List.dropLast_concat_getLast hne).symm
    have hl : xs.dropLast.length = n := by rw [List.length_dropLast]; omega
    generalize xs.getLast hne = v at e
    generalize xs.dropLast = ys at e hl
    subst e
    obtain ⟨h1, h2, h3⟩ := unlike_spec n ys hl
    rw [unlike_snoc]
    refine ⟨fun k => ?_, ?_, ?_⟩
    · rw [addNew_mem, h1, List.mem_append, List.mem_singleton]
    · rw [addNew_len]; split <;> omega
    · rw [addNew_len, List.nodup_append]
      by_cases hv : v ∈ unlike ys
      · rw [if_pos hv]
        have hv' := (h1 v).mp hv
        constructor
        · intro z; omega
        · intro ⟨_, _, z⟩
          exact absurd rfl (z v hv' v (List.mem_singleton.mpr rfl))
      · rw [if_neg hv]
        have hv' : v ∉ ys := fun z => hv ((h1 v).mpr z)
        constructor
        · intro z
          refine ⟨h3.mp (by omega), by simp, fun a ha b hb e => hv' ?_⟩
          rw [List.mem_singleton.mp hb] at e
          rw [← e]; exact ha
        · intro ⟨z, _, _⟩
          rw [h3.mpr z]
theorem unlike_nodup (xs : List Str) : decide (((unlike xs).length : Int) = (xs.length : Int)) = decide (xs.Nodup) := by
  obtain ⟨_, _, h⟩ := unlike_spec _ xs rfl
  by_cases e : xs.Nodup
  · rw [decide_eq_true e, h.mpr e]; exact decide_eq_true rfl
  · rw [decide_eq_false e]
    exact decide_eq_false fun z => e (h.mp (by omega))

/-! ### the set's own loop, texts drawn from anything that is walked -/
section
variable {prog : Program} {w : World} {A : Around} {Rs : Result → Shared → Prop} {I : Addr} {fp wr : List Addr} {G : Array GenState → Array GenState → Prop} {n : Nat} {Y : Nat → Value → Prop} {St : Nat → Shared → Prop}
abbrev HasSet (prog : Program) (w : World) (h : Heap) (a : Addr) (xs : List Str) : Prop := h.SetOf (PySem.strKind prog w) a (fun k => decide (k ∈ unlike xs)) (unlike xs).length
theorem draw_texts (W : WalksS prog w A.in1 I fp wr G n Y St) (a : Addr) (ha : a ∉ fp) (xs : List Str) (hn : xs.length = n) (hb : n + 1 < scanBound) (hv : ∀ i v, Y i v → ∃ t x, xs[i]? = some x ∧ v = .str x t) :
    ∀ (m i : Nat) (s : Shared), i + m = n → St i s → HasSet prog w s.heap a (xs.take i) →
      (∀ s', Moved (a :: wr) G s s' → HasSet prog w s'.heap a xs → Rs (.ok (.ret .none)) s') → codeAny (model prog w) A (.builtin "set.update.loop" ⟨[.ref a, .ref I], []⟩) Rs s := by
  have haw : a ∉ wr := fun z => ha (W.sub _ z)
  have more : ∀ b ∈ wr, b ∈ a :: wr := fun b z => List.mem_cons_of_mem _ z
  intro m
  induction m with
  | zero =>
    intro i s him hst hS hR
    obtain rfl : i = n := by omega
    rw [← hn, List.take_length] at hS
    refine codeAny_builtin PyProof.Rows.F.entry_set_update_loop ?_
    rw [Around.under_plainId PyProof.Rows.F.plain_set_update_loop _]
    show wpAny _ A.in1 (pyNext (.ref I) >>= _) _ _ s
    refine wpAny_bind (W.done s _ _ hst fun s' mv => ?_)
    show wpAny _ A.in1 (ret Value.none) _ _ s'
    refine wpAny_pure (hR s' (mv.mono more) ?_)
    obtain ⟨o, es, ep, t, ho, r⟩ := hS
    exact ⟨o, es, ep, t, mv.heap a _ haw ho, r⟩
  | succ m ih =>
    intro i s him hst hS hR
    refine codeAny_builtin PyProof.Rows.F.entry_set_update_loop ?_
    rw [Around.under_plainId PyProof.Rows.F.plain_set_update_loop _]
    show wpAny _ A.in1 (pyNext (.ref I) >>= _) _ _ s
    refine wpAny_bind (W.item i s _ _ (by omega) hst fun v s' hy hst' mv => ?_)
    obtain ⟨t, x, hx, rfl⟩ := hv i v hy
    have hS' : HasSet prog w s'.heap a (xs.take i) := by
      obtain ⟨o, es, ep, tb, ho, r⟩ := hS
      exact ⟨o, es, ep, tb, mv.heap a _ haw ho, r⟩
    show wpAny _ A.in1 (holding [Value.str x t] (setAdd a (.str x t)) >>= _) _ _ s'
    refine wpAny_bind (wpAny_holding ?_)
    unfold setAdd
    refine wpAny_holding (wpAny_bind ((PySem.strKind prog w).pyHash (k := x) (strKind_is _ _ _ _) ?_))
    have len : (unlike (xs.take i)).length ≤ i := by
      have q := (unlike_spec _ (xs.take i) rfl).2.1
      rw [List.length_take] at q
      omega
    refine wpAny_setAddHashed_of (knd := PySem.strKind prog w) (s := { s' with toks := s'.toks + 1 }) (strKind_is _ _ _ _) rfl hS' (by omega) fun h' sb hS2 => ?_
    have et : xs.take (i + 1) = xs.take i ++ [x] := by rw [List.take_add_one, hx]; rfl
    have hS3 : HasSet prog w h' a (xs.take (i + 1)) := by
      refine PyProof.Rows.SetOf_congr hS2 (fun k => ?_) ?_
      · rw [et, unlike_snoc]
        by_cases h1 : k ∈ unlike (xs.take i)
        · simp [addNew_mem, h1]
        · simp [addNew_mem, h1]
      · rw [et, unlike_snoc, addNew_len]
        by_cases h1 : x ∈ unlike (xs.take i)
        · simp [h1]
        · simp [h1]
    refine wpAny_pure ⟨plainId_quiet PyProof.Rows.F.plain_set_update_loop _, ih (i + 1) _ (by omega) (W.frame _ s' _ _ hst' (Nat.le_succ _) fun b hb o e => ?_) hS3 fun s2 mv2 hS4 => ?_⟩
    · rw [sb.2 b fun z => ha (by rw [← z]; exact hb)]; exact e
    · refine hR s2 (Moved.trans W.gtrans ((mv.mono more).then_heap (Nat.le_succ _) fun b o hb e => ?_) mv2) hS4
      rw [sb.2 b fun z => hb (by rw [z]; exact List.mem_cons_self)]; exact e
end
section
variable {prog : Program} {w : World} {A : Around} {E : Value → Shared → Prop} {s : Shared}
/-- what a new set object is -/
abbrev bareSet (led : Bool) : Obj := { cls := .type "set", dict := none, data := .set #[] 0 (.fresh 0 0 led) }
theorem texts_at {us : List Value} {xs : List Str} (r : Vals (xs.map V.str) us) (i : Nat) (v : Value) (e : us[i]? = some v) : ∃ t x, xs[i]? = some x ∧ v = .str x t := by
  have hl : xs.length = us.length := by rw [← r.length, List.length_map]
  have hi : i < xs.length := by rw [hl]; exact (List.getElem?_eq_some_iff.mp e).1
  obtain ⟨u, h1, t, h2⟩ := r.get (i := i) (x := .str xs[i]) (by rw [List.getElem?_map, List.getElem?_eq_getElem hi]; rfl)
  rw [e] at h1
  cases h1
  exact ⟨t, xs[i], List.getElem?_eq_getElem hi, h2⟩
set_option maxHeartbeats 4000000 in
/-- set(xs), xs a list of texts -/
theorem call_set_texts {l : Addr} {items : Array Value} {xs : List Str} {Q : Value → Shared → Prop} (hh : A.handled = none) (hl : s.heap.IsList l items) (hi : Vals (xs.map V.str) items.toList) (hb : xs.length + 1 < scanBound)
    (q : ∀ (h' : Heap) (tk : Nat), HasSet prog w h' s.heap.objs.size xs → (∀ b o, b < s.heap.objs.size → s.heap.get? b = some o → h'.get? b = some o) → Q (.ref s.heap.objs.size) { s with heap := h', toks := tk }) :
    wpAny (model prog w) A (call (.type "set") [.ref l]) Q E s := by
  have size : xs.length = items.size := by rw [← Array.length_toList, ← hi.length, List.length_map]
  obtain ⟨c, tl, hmro⟩ := PySem.F.called_set.mro
  have g1 := PySem.F.called_set.made
  have g2 := PySem.F.called_set.sub
  have g3 := PySem.F.called_set.notType
  have g4 := PySem.F.called_set.canCreate
  have g5 := PySem.F.typeCall_set_1 (.ref l)
  refine wpAny_call (codeAny_of_tree ?_)
  show wpAny _ _ (callAny (.type "set") _) _ _ _
  refine wpAny_pure ⟨Code.quiet_builtin _ (by decide +kernel), codeAny_builtin PySem.F.entry_type_call ?_⟩
  rw [Around.under_plain (weight_type_call_type "set" [.ref l] []) rfl]
  repeat (any_goals (first | assumption | wp_step))
  -- the new object
  refine codeAny_mono (code_set_new_1 (.ref l) (E := E) (Q₁ := fun v s1 => ∃ led : Bool, v = .ref s.heap.objs.size ∧ s1 = { s with heap := s.heap.push (bareSet led) }) fun led => ⟨led, rfl, rfl⟩) fun r s1 hr => ?_
  rcases r with e | fl
  · exact hr
  cases fl with
  | next => exact hr.elim
  | brk => exact hr.elim
  | cont => exact hr.elim
  | ret v =>
    obtain ⟨led, rfl, rfl⟩ := hr
    have gN : (s.heap.push (bareSet led)).get? s.heap.objs.size = some (bareSet led) := Heap.get?_push_size _ rfl
    have gT : Shared.TypeIs { s with heap := s.heap.push (bareSet led) } (.ref s.heap.objs.size) "set" := ⟨_, gN, rfl⟩
    have g6 := PySem.F.called_set.init.lookup
    have g7 := PySem.F.called_set.init.bind (.ref s.heap.objs.size)
    repeat (any_goals (first | assumption | wp_step))
    -- its __init__
    refine codeAny_mono (codeAny_call_builtin (R := wants (fun r s2 => r = .none ∧ ∃ h' tk, s2 = { s with heap := h', toks := tk } ∧ HasSet prog w h' s.heap.objs.size xs ∧ (∀ b o, b < s.heap.objs.size → s.heap.get? b = some o → h'.get? b = some o)) E)
      PySem.F.called_set.init.plain PySem.F.entry_set_init (check_set_init_1 gT ?_)) fun r2 s2 hr2 => ?_
    · obtain ⟨⟨oc, od, oda, osl⟩, go, hc, nl, hd⟩ := hl
      simp only at hc hd
      subst hc
      subst hd
      have go' : (s.heap.push (bareSet led)).get? l = some { cls := .type "list", dict := od, data := .seq items nl, slots := osl } := Heap.get?_push_of_some _ go
      have g8 := PySem.F.sub_list_set
      have g9 := PySem.F.sub_list_frozenset
      have g10 : (Value.type "list" == Value.type "dict") = false := by decide
      have gl : (s.heap.push (bareSet led)).IsList l items := ⟨_, go', rfl, nl, rfl⟩
      unfold Builtin.«set.__init__» noKeywords Builtin.Frozenset.updateFrom
      generalize hPI : pyIter = PI
      wp_walk
      subst hPI
      refine wpAny_pyIter_list gl (wpAny_bind (wpAny_runValue ?_))
      have ll : l < s.heap.objs.size := Heap.lt_size go
      have sz1 : (s.heap.push (bareSet led)).objs.size = s.heap.objs.size + 1 := Heap.size_push ..
      have a1 : l ≠ (s.heap.push (bareSet led)).objs.size := by rw [sz1]; exact Nat.ne_of_lt (Nat.lt_succ_of_lt ll)
      have a2 : s.heap.objs.size ∉ [(s.heap.push (bareSet led)).objs.size, l] := by
        rw [sz1]
        intro z
        rcases List.mem_cons.mp z with z | z
        · exact Nat.ne_of_lt (Nat.lt_succ_self _) z
        · exact Nat.ne_of_gt ll (List.mem_singleton.mp z)
      have a3 : A.in1.in1.in1.handled = none := by simp [hh]
      refine draw_texts (xs := xs) ((Walks.list a3 _ l a1 items).toS) s.heap.objs.size a2 size (by rw [← size]; exact hb) (fun i v e => texts_at hi i v (by rw [Array.getElem?_toList]; exact e)) items.size 0 _ (by omega) ⟨⟨_, Heap.get?_push_size _ rfl, rfl, rfl⟩, gl.push _⟩ ?_ ?_
      · refine PyProof.Rows.SetOf_congr ((PyProof.Rows.setObjOf_fresh (knd := PySem.strKind prog w) led).setOf (Heap.get?_push_of_some _ gN) (by unfold scanBound; omega)) (fun k => ?_) rfl
        simp [unlike]
      · rintro ⟨h', g', d', tk', os'⟩ mv hS
        obtain rfl : g' = s.gens := mv.gens
        obtain rfl : d' = s.drawn := mv.drawn
        obtain rfl : os' = s.os := mv.os
        show wpAny _ _ _ _ _ _
        refine wpAny_pure ?_
        show wpAny _ _ (ret Value.none) _ _ _
        refine wpAny_pure ⟨rfl, h', tk', rfl, hS, fun b o lt e => mv.heap b o ?_ (Heap.get?_push_of_some _ (Heap.get?_push_of_some _ e))⟩
        rw [sz1]
        intro z
        rcases List.mem_cons.mp z with z | z
        · exact Nat.ne_of_lt lt z
        · exact Nat.ne_of_lt (Nat.lt_succ_of_lt lt) (List.mem_singleton.mp z)
    · rcases r2 with e | fl2
      · exact hr2
      cases fl2 with
      | next => exact hr2.elim
      | brk => exact hr2.elim
      | cont => exact hr2.elim
      | ret r =>
        obtain ⟨rfl, h', tk, rfl, hS, keep⟩ := hr2
        repeat (any_goals (first | assumption | wp_step))
        exact q _ _ hS keep
end
/-- len(set(xs)), xs a list of texts -/
def tLenUnlike (K : PySem.W.Frag) (ta : TE) : TE := fun σ H Q => ta σ H fun x H1 => ∃ (l : Addr) (xs : List Str), x = .ref l ∧ SqL K H1 l (xs.map V.str) ∧ xs.length ≤ 1000 ∧ Q (.int (unlike xs).length) H1
theorem pe_lenUnlike {X : Cx} {a : Expr} {ta : TE} {p p2 q pos : Pos} (hm : X.mg "len" = none) (hm2 : X.mg "set" = none) (ha : PE X a ta) (hg : Gl X "len" := by rfl) (hg2 : Gl X "set" := by rfl) (hc : X.calm = true := by rfl)
    (na : starEach [a] X.env = (false, eval a X.env) :: starEach [] X.env := by rfl) : PE X (.Call (.Name "len" p) [.Call (.Name "set" p2) [a] [] q] [] pos) (tLenUnlike X.K ta) := by
  refine ⟨fun pins s σ H Q I h => ?_⟩
  refine Call_ (ld_blt I hg hm boot_len (PyProof.Rows.callWith_builtin1 (PyProof.Rows.args_cons ?_ rfl) rfl rfl))
  refine Call_ (ld_blt I hg2 hm2 boot_set ?_)
  refine PyProof.Rows.callWith_type1 (PyProof.Rows.args_cons (thn (ha.run pins s σ H _ I h) fun v s1 ⟨x, H1, I1, r1, q1⟩ => PyProof.Rows.args_nil ?_) na) na rfl
  obtain ⟨l, xs, rfl, hq, hl, q1⟩ := q1
  cases r1
  obtain ⟨its, r, pl, hz⟩ := I1.list hq
  refine call_set_texts (I1.ok.hd hc) pl.isList (by simpa using r) (by unfold scanBound; omega) fun h' tk hS hk => PyProof.Rows.args_nil ?_
  obtain ⟨o, es, ep, t, ho, hex, hd, _, _, _, hf, hn⟩ := hS
  have I2 : Inv X pins σ H1 { s1 with heap := h', toks := tk } := I1.kept fun b o e => hk b o (Heap.lt_size e) e
  have lu := (unlike_spec _ xs rfl).2.1
  exact call_len_set ho hex hd hf (by rw [hn] <;> omega) ⟨.int (unlike xs).length, H1, I2.tok _, ⟨_, by rw [hn]⟩, q1⟩
end TT

set_option Elab.async false
set_option linter.all false
set_option maxRecDepth 100000
namespace TT
open PySem PySem.Spec PyProof.Rows L2
/-! ### repr of data -/
def rRepr (K : PySem.W.Frag) : List V → Hp → VK → Prop := fun xs H Q => ∃ (v : V) (d : PyData), xs = [v] ∧ Dp K H v d ∧ d.showable = true ∧ d.hasDict = false ∧ d.depth ≤ 60 ∧ d.shown.length ≤ sizeLine ∧ Q (.str d.shown) H
section
variable {X : Cx} {k : Nat}
theorem call_repr_d (hg : X.A.guards = some []) (hr : Room k X.A) : CallR X (.builtin "repr") (rRepr X.K) := by
  intro pins s σ H xs us Q I r h
  obtain ⟨v, d, rfl, hd, h1, h2, h3, h4, q⟩ := h
  obtain ⟨u, rfl, rv⟩ := vals1 r
  obtain ⟨as, rd⟩ := Dp.reads I d v u hd rv
  have hu := hr.units
  have big : ∀ a, u = .ref a → wpAny (model X.prog X.w) X.A (call (.builtin "repr") [u]) (EP X pins σ Q) X.xe s := by
    intro a e
    subst e
    refine repr_of_reads' rd h1 (PyData.noDict_hsm h2) hg (by omega) (fun _ _ e => e) (fun h' t tk hk => ?_) h4
    exact ⟨.str d.shown, H, I.kept (t' := tk) hk, ⟨t, rfl⟩, q⟩
  cases hd with
  | non => cases rv; exact P.repr_of_none ⟨.str _, H, I.tok _, ⟨_, rfl⟩, q⟩
  | bl b => cases rv; exact P.repr_of_bool ⟨.str _, H, I.tok _, ⟨_, by cases b <;> rfl⟩, q⟩
  | int i => obtain ⟨t, rfl⟩ := rv; exact P.repr_of_int (of_decide_eq_true h1) ⟨.str _, H, I.tok _, ⟨_, rfl⟩, q⟩
  | str x => obtain ⟨t, rfl⟩ := rv; exact P.repr_of_str ⟨.str _, H, I.tok _, ⟨_, rfl⟩, q⟩ h4
  | lst _ _ => cases rv; exact big _ rfl
  | tup _ _ => cases rv; exact big _ rfl
end
/-! ### a def's promise where nothing is being shown -/
structure FnG (P : Program) (w : World) (K : PySem.W.Frag) (mg : Str → Option Value) (base : Heap) (CX : CXT) (k : Nat) (f : Addr) (fd : FuncData) (ps : List Str) (sp : Sp) : Prop where
  len : ∀ vs H Q E, sp vs H Q E → vs.length = ps.length
  run : ∀ (A : Around) (outer : List Env) (s : Shared) (H : Hp) (args : Args) (us : List Value) (vs : List V) (Q : VK) (E : XK), Room k A → A.guards = some [] → Env0 P w K mg base A outer s H → BindsTo s fd args (ps.zip us) → Vals vs us → sp vs H Q E →
    codeAny (model P w) A (.call (.ref f) args) (CR CX outer P w H s Q E) s
section
variable {P : Program} {w : World} {K : PySem.W.Frag} {mg : Str → Option Value} {base : Heap} {CX : CXT} {k : Nat}
theorem FnG.of {f : Addr} {fd : FuncData} {ps : List Str} {sp : Sp} (F : FnOk P w K mg base CX k f fd ps sp) : FnG P w K mg base CX k f fd ps sp :=
  ⟨F.len, fun A outer s H args us vs Q E hr _ e0 hb r h => F.run A outer s H args us vs Q E hr e0 hb r h⟩
/-- a def by its body, where nothing is being shown -/
theorem okG {x qual : Str} {st : Stmt} {f : Addr} {fd : FuncData} {N ps : List Str} {sp : Sp} (F : Fun K x qual st f fd) (S : FnScope N ps (defScope st)) (len : ∀ vs H Q E, sp vs H Q E → vs.length = ps.length)
    (body : ∀ (cdv : Value) (A : Around) (outer : List Env) (s : Shared) (H : Hp) (vs : List V) (Q : VK) (E : XK), Room k (A.deeper (envOfC qual (defScope st) s.heap.objs.size f cdv)) → (A.deeper (envOfC qual (defScope st) s.heap.objs.size f cdv)).guards = some [] → sp vs H Q E →
      ∃ t, PSs (cxOf CX0 P w K mg base N qual (defScope st) f cdv A outer s H E).nox (defBody st) t ∧ t { nx := fun _ H' => Q .non H', rt := Q } (L2.start N vs) H) : FnG P w K mg base CX0 (k + 1) f fd ps sp := by
  obtain ⟨oc, od, kV, doc, pm, an, cdv, ct, osl, rfl, lk, hcd⟩ := F.ex
  refine ⟨len, fun A outer s H args us vs Q E hr hg e0 hb r hsp => ?_⟩
  have same : ∀ b o, base.get? b = some o → s.heap.get? b = some o := fun b o e => (e0.bs b o e).1
  have KX : K.In s.heap := e0.mod.kin.keeps same
  have lim : s.heap.NoLimit := e0.mod.nolimit.keeps same
  refine codeAny_call_function hr.depth (KX _ _ lk) rfl S.co S.gen rfl (PySem.W.codeRec_of KX hcd) (hb _ _ _ _ ?_)
  refine wpAny_newFunctionEnv_cells S.kind (fun y hy => ?_) fun env he s1 x => ?_
  · rcases S.par y.1 (List.of_mem_zip (show (y.1, y.2) ∈ ps.zip us from hy)).1 with q | q
    · exact .inl q
    · exact .inr ⟨q, PySem.W.cellsFrom_some _ _ _ (.inl q)⟩
  · subst he
    refine ⟨lim.keeps x.toInCall.keep, codeAny_func ?_⟩
    obtain ⟨t, ht, hq⟩ := body cdv A outer s H vs Q E (hr.deeper _) hg hsp
    have I := inv_start (CX := CX0) (E := E) S hr.hd e0 (len _ _ _ _ hsp) r x
    refine wpAny_mono (ht.nox.run [] s1 (L2.start N vs) H _ I hq) (fun fl s' hs => ?_) fun e s' hs => hs
    cases fl with
    | next => exact let ⟨_, H', J, q⟩ := hs; ⟨V.non, H', J.os, J.bare, J.base, J.hok, rfl, q⟩
    | ret u => exact let ⟨v, _, H', J, rv, q⟩ := hs; ⟨v, H', J.os, J.bare, J.base, J.hok, rv, q⟩
    | brk => exact let ⟨_, _, _, q⟩ := hs; False.elim q
    | cont => exact let ⟨_, _, _, q⟩ := hs; False.elim q
end
/-! ### its call -/
def DefG (P : Program) (w : World) (K : PySem.W.Frag) (mg : Str → Option Value) (base : Heap) (k : Nat) (x : Str) (ps : List Str) (sp : Sp) : Prop :=
  ∃ f fd, mg x = some (.ref f) ∧ PySem.W.keepIn K (.ref f) = true ∧ Binds K fd ps [] ∧ FnG P w K mg base CX0 k f fd ps sp
theorem DefG.mk {P : Program} {w : World} {K : PySem.W.Frag} {mg : Str → Option Value} {base : Heap} {k : Nat} {x : Str} {ps : List Str} {sp : Sp} {f : Addr} {fd : FuncData} (h1 : mg x = some (.ref f)) (h2 : PySem.W.keepIn K (.ref f) = true) (h3 : Binds K fd ps []) (h4 : FnG P w K mg base CX0 k f fd ps sp) : DefG P w K mg base k x ps sp := ⟨f, fd, h1, h2, h3, h4⟩
section
variable {X : Cx} {k j : Nat} {x : Str} {ps : List Str} {sp : Sp} {p pos : Pos} {e : Expr} {es : List Expr} {t : TA}
theorem pe_ownG (D : DefG X.prog X.w X.K X.mg X.base k x ps sp) (hA : X.A.guards = some []) (hr : Room j X.A) (ha : PA X (e :: es) t) (hkj : k ≤ j := by decide) (hg : Gl X x := by rfl) (hdb : (x == ("__debug__" : Str)) = false := by decide)
    (he : starEach (e :: es) X.env = (false, eval e X.env) :: starEach es X.env := by rfl) (hpl : (backTo pos (starEach es X.env)).any (·.1) = false := by rfl) :
    PE X (.Call (.Name x p) (e :: es) [] pos) (tCall sp [] E0 t) := by
  obtain ⟨f, fd, hm, hk, hb, F⟩ := D
  refine ⟨fun pins s σ H Q I h => wpAny_Call_Name_kw (ld_glob I hg hm ?_ hdb)⟩
  refine PySem.W.callWith_K (h₀ := X.base) I.ok.mod.kin hk (thn (ha.run pos pins s σ H _ I h) fun us s1 ⟨vs, H1, I1, r, q⟩ => ⟨I1.kIn, ?_⟩) he hpl
  have q' : sp vs H1 Q E0 := by rw [← List.append_nil vs]; exact q
  have hl : us.length = ps.length := by rw [← r.length]; exact F.len _ _ _ _ q'
  have hbd := hb s1 us I1.kIn (by rw [List.append_nil]; exact hl)
  rw [List.append_nil] at hbd
  refine wpAny_call (codeAny_mono (F.run X.A X.stack s1 H1 ⟨us, []⟩ us vs Q E0 (hr.mono hkj) hA I1.env0 hbd r q') fun rs s' hq => ?_)
  rcases rs with err | fl
  · exact False.elim hq
  · cases fl with
    | ret u => exact I1.after hq
    | next => exact False.elim hq
    | brk => exact False.elim hq
    | cont => exact False.elim hq
end
end TT

set_option Elab.async false
set_option linter.all false
set_option maxRecDepth 100000
namespace TT
open PySem PySem.Spec PyProof.Rows L2
/-! ### what is told of data -/
def tyN : PyData → String
  | .none => "NoneType"
  | .bool _ => "bool"
  | .int _ => "int"
  | .str _ => "str"
  | .list _ => "list"
  | .tuple _ => "tuple"
  | .dict _ => "dict"
theorem dp_ty {K : PySem.W.Frag} {H : Hp} {v : V} {d : PyData} (h : Dp K H v d) : TyX K H v (.type (tyN d)) := by
  cases h with
  | non => exact .base .non
  | bl b => exact .base (.bl b)
  | int i => exact .base (.int i)
  | str x => exact .base (.str x)
  | lst h _ =>
    rcases h with (h | ⟨o, h⟩) | ⟨o, _, _, h, c, _⟩
    · exact .base (.lst h)
    · exact .base (.frz h)
    · exact .kList h c
  | tup h _ =>
    rcases h with (h | ⟨o, h⟩) | ⟨o, _, _, h, c, _⟩
    · exact .base (.tup h)
    · exact .fTuple h
    · exact .kTuple h c
def isIB : PyData → Bool
  | .int _ | .bool _ => true
  | _ => false
def isBB : PyData → Bool
  | .bool _ => true
  | _ => false
def isSB : PyData → Bool
  | .str _ => true
  | _ => false
def isTB : PyData → Bool
  | .tuple _ => true
  | _ => false
def isLB : PyData → Bool
  | .list _ => true
  | _ => false
theorem kit_i {K : PySem.W.Frag} (d : PyData) : PySem.W.kitOne K (.type (tyN d)) (.type "int") = some (isIB d) := by
  cases d
  · exact kit_ty (show kitB "NoneType" "int" = some false by decide +kernel)
  · exact kit_ty (show kitB "bool" "int" = some true by decide +kernel)
  · exact kit_ty (show kitB "int" "int" = some true by decide +kernel)
  · exact kit_ty (show kitB "str" "int" = some false by decide +kernel)
  · exact kit_ty (show kitB "list" "int" = some false by decide +kernel)
  · exact kit_ty (show kitB "tuple" "int" = some false by decide +kernel)
  · exact kit_ty (show kitB "dict" "int" = some false by decide +kernel)
theorem kit_b {K : PySem.W.Frag} (d : PyData) : PySem.W.kitOne K (.type (tyN d)) (.type "bool") = some (isBB d) := by
  cases d
  · exact kit_ty (show kitB "NoneType" "bool" = some false by decide +kernel)
  · exact kit_ty (show kitB "bool" "bool" = some true by decide +kernel)
  · exact kit_ty (show kitB "int" "bool" = some false by decide +kernel)
  · exact kit_ty (show kitB "str" "bool" = some false by decide +kernel)
  · exact kit_ty (show kitB "list" "bool" = some false by decide +kernel)
  · exact kit_ty (show kitB "tuple" "bool" = some false by decide +kernel)
  · exact kit_ty (show kitB "dict" "bool" = some false by decide +kernel)
theorem kit_s {K : PySem.W.Frag} (d : PyData) : PySem.W.kitOne K (.type (tyN d)) (.type "str") = some (isSB d) := by
  cases d
  · exact kit_ty (show kitB "NoneType" "str" = some false by decide +kernel)
  · exact kit_ty (show kitB "bool" "str" = some false by decide +kernel)
  · exact kit_ty (show kitB "int" "str" = some false by decide +kernel)
  · exact kit_ty (show kitB "str" "str" = some true by decide +kernel)
  · exact kit_ty (show kitB "list" "str" = some false by decide +kernel)
  · exact kit_ty (show kitB "tuple" "str" = some false by decide +kernel)
  · exact kit_ty (show kitB "dict" "str" = some false by decide +kernel)
theorem kit_t {K : PySem.W.Frag} (d : PyData) : PySem.W.kitOne K (.type (tyN d)) (.type "tuple") = some (isTB d) := by
  cases d
  · exact kit_ty (show kitB "NoneType" "tuple" = some false by decide +kernel)
  · exact kit_ty (show kitB "bool" "tuple" = some false by decide +kernel)
  · exact kit_ty (show kitB "int" "tuple" = some false by decide +kernel)
  · exact kit_ty (show kitB "str" "tuple" = some false by decide +kernel)
  · exact kit_ty (show kitB "list" "tuple" = some false by decide +kernel)
  · exact kit_ty (show kitB "tuple" "tuple" = some true by decide +kernel)
  · exact kit_ty (show kitB "dict" "tuple" = some false by decide +kernel)
theorem kit_l {K : PySem.W.Frag} (d : PyData) : PySem.W.kitOne K (.type (tyN d)) (.type "list") = some (isLB d) := by
  cases d
  · exact kit_ty (show kitB "NoneType" "list" = some false by decide +kernel)
  · exact kit_ty (show kitB "bool" "list" = some false by decide +kernel)
  · exact kit_ty (show kitB "int" "list" = some false by decide +kernel)
  · exact kit_ty (show kitB "str" "list" = some false by decide +kernel)
  · exact kit_ty (show kitB "list" "list" = some true by decide +kernel)
  · exact kit_ty (show kitB "tuple" "list" = some false by decide +kernel)
  · exact kit_ty (show kitB "dict" "list" = some false by decide +kernel)
theorem kit_tl {K : PySem.W.Frag} (d : PyData) : PySem.W.kitAny K (.type (tyN d)) [.type "tuple", .type "list"] = some (isTB d || isLB d) :=
  kitAny_cons (b := isTB d) (kit_t d) (fun h => by
    rw [h]
    exact kitAny_cons (b := isLB d) (kit_l d) (fun h => by rw [h]; exact kitAny_nil) fun h => by rw [h]; rfl) fun h => by rw [h]; rfl
theorem kit_lt {K : PySem.W.Frag} (d : PyData) : PySem.W.kitAny K (.type (tyN d)) [.type "list", .type "tuple"] = some (isLB d || isTB d) :=
  kitAny_cons (b := isLB d) (kit_l d) (fun h => by
    rw [h]
    exact kitAny_cons (b := isTB d) (kit_t d) (fun h => by rw [h]; exact kitAny_nil) fun h => by rw [h]; rfl) fun h => by rw [h]; rfl
/-! sizes -/
mutual
def Fit : PyData → Prop
  | .str z => z.length ≤ 10000
  | .list ds | .tuple ds => ds.length ≤ 900 ∧ FitAll ds
  | _ => True
def FitAll : List PyData → Prop
  | [] => True
  | d :: ds => Fit d ∧ FitAll ds
end
theorem fit_mem : ∀ {ds : List PyData} {d : PyData}, FitAll ds → d ∈ ds → Fit d
  | d :: ds, e, h, m => by
    rcases List.mem_cons.mp m with rfl | m
    · exact h.1
    · exact fit_mem h.2 m
theorem fit_of : ∀ {ds : List PyData}, (∀ d ∈ ds, Fit d) → FitAll ds
  | [], _ => trivial
  | d :: ds, h => ⟨h d (List.mem_cons_self ..), fit_of fun e m => h e (List.mem_cons_of_mem _ m)⟩
theorem dpAll_at {K : PySem.W.Frag} {H : Hp} {ds : List PyData} {vs : List V} {i : Nat} {d : PyData} (a : DpAll K H vs ds) (h : ds[i]? = some d) : ∃ v, vs[i]? = some v ∧ Dp K H v d := by
  have l := dpAll_len a
  have hi : i < vs.length := by rw [l]; exact (List.getElem?_eq_some_iff.mp h).1
  obtain ⟨d', h1, h2⟩ := dpAll_get i a (List.getElem?_eq_getElem hi)
  rw [h] at h1
  cases h1
  exact ⟨_, List.getElem?_eq_getElem hi, h2⟩
/-- the promise of what looks at a thing and tells True or False: new objects alone are laid -/
def spB (R : PyData → Bool) (K : PySem.W.Frag) : Sp := fun vs H Q _ => ∃ (v : V) (d : PyData), vs = [v] ∧ Dp K H v d ∧ Fit d ∧ ∀ H', Same H H' → Q (.bl (R d)) H'
/-! ### the program's words, of data -/
def numB : PyData → Bool
  | .int _ => true
  | _ => false
def worthB : PyData → Bool
  | .none => true
  | .int i => decide (-1000000000 ≤ i) && decide (i ≤ 1000000000)
  | _ => false
def lowB (c : Nat) : Bool := decide (97 ≤ c) && decide (c ≤ 122)
def nameB : PyData → Bool
  | .str z => (decide (1 ≤ z.length) && decide (z.length ≤ 8)) && (cl z).all lowB
  | _ => false
def tupB (lo hi : Int) : PyData → Bool
  | .tuple ds => decide (lo ≤ (ds.length : Int)) && decide ((ds.length : Int) ≤ hi)
  | _ => false
def fstD : PyData → PyData
  | .tuple (a :: _) => a
  | _ => .none
def sndD : PyData → PyData
  | .tuple (_ :: b :: _) => b
  | _ => .none
def strOf : PyData → Str
  | .str z => z
  | _ => Str.empty
def isN : PyData → Bool
  | .none => true
  | _ => false
def colB (d : PyData) : Bool := tupB 2 2 d && (nameB (fstD d) && worthB (sndD d))
def namesOf (ds : List PyData) : List Str := ds.map fun d => strOf (fstD d)
def colsB : PyData → Bool
  | .tuple ds => (decide (1 ≤ ds.length) && decide (ds.length ≤ 5)) && (ds.all colB && (isN (sndD (ds.headD .none)) && decide (namesOf ds).Nodup))
  | _ => false
def tabB (d : PyData) : Bool := tupB 2 2 d && (nameB (fstD d) && colsB (sndD d))
def tabsB : PyData → Bool
  | .tuple ds => (decide (1 ≤ ds.length) && decide (ds.length ≤ 6)) && (ds.all tabB && decide (namesOf ds).Nodup)
  | _ => false
end TT

set_option Elab.async false
set_option linter.all false
set_option maxRecDepth 100000
namespace TT
open PySem PySem.Spec PyProof.Rows L2
/-! ### comprehensions that ask item by item -/
def PvM (H1 : Hp) (D : Addr) (f : Nat → V) (i : Nat) (H : Hp) : Prop := H D = some (.lst ((List.range i).map f)) ∧ Kept [D] H1 H
theorem pvm_start (H1 : Hp) (D : Addr) (f : Nat → V) : PvM H1 D f 0 (upd H1 D (.lst [])) := ⟨upd_same, Kept.upd_in (List.mem_cons_self ..)⟩
theorem pvm_step {H1 H H4 : Hp} {D : Addr} {f : Nat → V} {i : Nat} {y : V} (h : PvM H1 D f i H) (s : Same H H4) (e : y = f i) (l : i ≤ 1000) :
    ∃ acc, H4 D = some (.lst acc) ∧ acc.length < sizeLine ∧ PvM H1 D f (i + 1) (upd H4 D (.lst (acc ++ [y]))) := by
  refine ⟨_, s _ _ h.1, ?_, ?_, (h.2.trans (Kept.of_same s)).trans (Kept.upd_in (List.mem_cons_self ..))⟩
  · rw [List.length_map, List.length_range]; exact small1000 l
  · rw [upd_same, List.range_succ, List.map_append, e]; rfl
theorem pvm_same {H1 H : Hp} {D : Addr} {f : Nat → V} {i : Nat} (h : PvM H1 D f i H) (n : H1 D = none) : Same H1 H := fun b o e => h.2 b o e fun z => by
  rw [List.mem_singleton.mp z, n] at e
  cases e
theorem range_all {α : Type} (R : α → Bool) (d : α) : ∀ (l : List α), ((List.range l.length).map fun i => R (l.getD i d)).all id = l.all R := by
  intro l
  have e : (List.range l.length).map (fun i => R (l.getD i d)) = l.map R := by
    refine List.ext_getElem (by simp) fun i h1 h2 => ?_
    simp only [List.length_map, List.length_range] at h1
    simp [List.getD_eq_getElem?_getD, List.getElem?_eq_getElem h1]
  rw [e, List.all_map]
  rfl
theorem range_map {α β : Type} (f : α → β) (d : α) (l : List α) : (List.range l.length).map (fun i => f (l.getD i d)) = l.map f := by
  refine List.ext_getElem (by simp) fun i h1 h2 => ?_
  simp only [List.length_map, List.length_range] at h1
  simp [List.getD_eq_getElem?_getD, List.getElem?_eq_getElem h1]
theorem lt_one (c d : Nat) : decide (([c] : List Nat) < [d]) = decide (c < d) := by
  refine decide_eq_decide.mpr ?_
  rw [List.cons_lt_cons_iff]
  constructor
  · rintro (h | ⟨_, h⟩)
    · exact h
    · exact absurd h (List.not_lt_nil [])
  · intro h; exact .inl h
theorem two_of {α : Type} : ∀ {l : List α}, l.length = 2 → ∃ a b, l = [a, b]
  | [a, b], _ => ⟨a, b, rfl⟩
  | [], h => by cases h
  | [_], h => by cases h
  | _ :: _ :: _ :: _, h => by simp at h
theorem tup2 {K : PySem.W.Frag} {H : Hp} {v : V} {d : PyData} (hd : Dp K H v d) (h : tupB 2 2 d = true) : ∃ p x y a b, v = .ref p ∧ d = .tuple [a, b] ∧ SqT K H p [x, y] ∧ Dp K H x a ∧ Dp K H y b := by
  cases hd with
  | non => cases h
  | bl b => cases h
  | int i => cases h
  | str z => cases h
  | lst _ _ => cases h
  | tup hs a =>
    rename_i p xs ds
    have h' : (decide ((2 : Int) ≤ (ds.length : Int)) && decide ((ds.length : Int) ≤ 2)) = true := h
    rw [Bool.and_eq_true] at h'
    have g1 := of_decide_eq_true h'.1
    have g2 := of_decide_eq_true h'.2
    have hl : ds.length = 2 := by omega
    obtain ⟨a1, b1, rfl⟩ := two_of hl
    cases a with
    | cons h1 r =>
      cases r with
      | cons h2 r =>
        cases r
        exact ⟨p, _, _, a1, b1, rfl, rfl, hs, h1, h2⟩
theorem isT_of {K : PySem.W.Frag} {H : Hp} {v : V} {d : PyData} (hd : Dp K H v d) (h : isTB d = true) : ∃ p xs ds, v = .ref p ∧ d = .tuple ds ∧ SqT K H p xs ∧ DpAll K H xs ds := by
  cases hd with
  | non => cases h
  | bl b => cases h
  | int i => cases h
  | str z => cases h
  | lst _ _ => cases h
  | tup hs a => exact ⟨_, _, _, rfl, rfl, hs, a⟩
theorem tupB_isT {lo hi : Int} {d : PyData} (h : tupB lo hi d = true) : isTB d = true := by
  cases d <;> first | rfl | cases h
def strName (d : PyData) : Bool := tupB 2 2 d && isSB (fstD d)
theorem getD_of {α : Type} {l : List α} {i : Nat} {a d : α} (h : l[i]? = some a) : l.getD i d = a := by
  rw [List.getD_eq_getElem?_getD, h]; rfl
theorem all_imp {R S : PyData → Bool} {ds : List PyData} (h : ds.all R = true) (i : ∀ d, R d = true → S d = true) : ds.all S = true :=
  List.all_eq_true.mpr fun d hd => i d (List.all_eq_true.mp h d hd)
theorem takeWhile_full {α : Type} (p : α → Bool) : ∀ l : List α, l.all p = true → l.takeWhile p = l
  | [], _ => rfl
  | a :: r, h => by
    rw [List.all_cons, Bool.and_eq_true] at h
    rw [List.takeWhile_cons, if_pos h.1, takeWhile_full p r h.2]
theorem takeWhile_short {α : Type} (p : α → Bool) : ∀ l : List α, (l.takeWhile p).length = l.length → l.all p = true
  | [], _ => rfl
  | a :: r, h => by
    rw [List.takeWhile_cons] at h
    by_cases ha : p a = true
    · rw [if_pos ha, List.length_cons, List.length_cons] at h
      rw [List.all_cons, ha, takeWhile_short p r (by omega)]; rfl
    · rw [if_neg ha] at h
      simp at h
theorem takeWhile_le {α : Type} (p : α → Bool) : ∀ l : List α, (l.takeWhile p).length ≤ l.length
  | [] => Nat.le_refl 0
  | a :: r => by
    rw [List.takeWhile_cons]
    split
    · rw [List.length_cons, List.length_cons]
      exact Nat.succ_le_succ (takeWhile_le p r)
    · exact Nat.zero_le _
theorem takeWhile_next {α : Type} (p : α → Bool) : ∀ (l : List α), (l.takeWhile p).length < l.length → ∃ a r, l.drop (l.takeWhile p).length = a :: r ∧ p a = false
  | [], h => by simp at h
  | a :: r, h => by
    rw [List.takeWhile_cons] at h ⊢
    by_cases ha : p a = true
    · rw [if_pos ha, List.length_cons, List.length_cons] at h
      rw [if_pos ha, List.length_cons, List.drop_succ_cons]
      exact takeWhile_next p r (by omega)
    · rw [if_neg ha]
      exact ⟨a, r, rfl, by simpa using ha⟩
/-- nothing is left of a text just where all its signs are among those stripped -/
theorem strip_empty (z y : Str) : Txt.stripChars z y = Str.ofString "" ↔ (cl z).all y.cps.contains = true := by
  have e0 : cl (Str.ofString "") = [] := rfl
  unfold Txt.stripChars
  rw [stripBy_eq]
  generalize y.cps.contains = p
  have cs : ∀ i j, cl (Builtin.Str.strSub z i j) = ((cl z).drop i).take (j - i) := fun i j => StrLaws.strSub_toList ..
  have lo : stripLo p true z = ((cl z).takeWhile p).length := rfl
  constructor
  · intro h
    have h1 := congrArg cl h
    rw [cs, e0, lo] at h1
    have h2 := congrArg List.length h1
    rw [List.length_take, List.length_drop, List.length_nil] at h2
    by_cases hlt : ((cl z).takeWhile p).length < (cl z).length
    · exfalso
      obtain ⟨a, r, hd, hp⟩ := takeWhile_next p _ hlt
      have hi : stripHi p true z ((cl z).takeWhile p).length = z.length - (((cl z).drop ((cl z).takeWhile p).length).reverse.takeWhile p).length := rfl
      rw [hi] at h2
      have hle : (((cl z).drop ((cl z).takeWhile p).length).reverse.takeWhile p).length < ((cl z).drop ((cl z).takeWhile p).length).length := by
        have g := takeWhile_le p ((cl z).drop ((cl z).takeWhile p).length).reverse
        rw [List.length_reverse] at g
        refine Nat.lt_of_le_of_ne g fun e => ?_
        have g2 := takeWhile_short p ((cl z).drop ((cl z).takeWhile p).length).reverse (by rw [List.length_reverse]; exact e)
        rw [List.all_reverse, hd, List.all_cons, hp] at g2
        cases g2
      rw [List.length_drop] at hle
      have el : z.length = (cl z).length := rfl
      omega
    · exact takeWhile_short p _ (by have := takeWhile_le p (cl z); omega)
  · intro h
    refine cl_inj ?_
    rw [cs, e0, lo, takeWhile_full p _ h, List.drop_length, List.take_nil]
theorem abc_low (c : Nat) : abc.cps.contains c = lowB c := by
  rw [Array.contains_eq_mem]
  unfold lowB
  have h : (c ∈ abc.cps) ↔ (97 ≤ c ∧ c ≤ 122) := by
    rw [← Array.mem_toList_iff]
    show c ∈ cl abc ↔ _
    rw [abc_cl, List.mem_map]
    constructor
    · rintro ⟨a, ha, rfl⟩
      have := List.mem_range.mp ha
      omega
    · intro ⟨h1, h2⟩
      exact ⟨c - 97, List.mem_range.mpr (by omega), by omega⟩
  by_cases h1 : c ∈ abc.cps
  · have h2 := h.mp h1
    rw [decide_eq_true h1, decide_eq_true h2.1, decide_eq_true h2.2]; rfl
  · rw [decide_eq_false h1]
    by_cases h3 : 97 ≤ c
    · rw [decide_eq_true h3, decide_eq_false (fun h4 => h1 (h.mpr ⟨h3, h4⟩))]; rfl
    · rw [decide_eq_false h3]; rfl
theorem strip_name (z : Str) : decide (Txt.stripChars z abc = Str.ofString "") = (cl z).all lowB := by
  have e : abc.cps.contains = lowB := funext abc_low
  have h := strip_empty z abc
  rw [e] at h
  cases g : (cl z).all lowB with
  | true => exact decide_eq_true (h.mpr g)
  | false => exact decide_eq_false fun q => by rw [h.mp q] at g; cases g
theorem nameB_ok {z : Str} (h : nameB (.str z) = true) : NameOk z := by
  have h' : ((decide (1 ≤ z.length) && decide (z.length ≤ 8)) && (cl z).all lowB) = true := h
  simp only [Bool.and_eq_true, decide_eq_true_eq, List.all_eq_true] at h'
  refine ⟨h'.1.1, h'.1.2, fun c hc => ?_⟩
  have := h'.2 c hc
  unfold lowB at this
  simp only [Bool.and_eq_true, decide_eq_true_eq] at this
  exact this
theorem dp_strs {K : PySem.W.Frag} {H : Hp} : ∀ zs : List Str, DpAll K H (zs.map V.str) (zs.map PyData.str)
  | [] => .nil
  | z :: zs => .cons (.str z) (dp_strs zs)
theorem lay_strs : ∀ zs : List Str, (∀ z ∈ zs, NameOk z) → PyData.canLayAll0 (zs.map PyData.str) = true ∧ PyData.depthAll (zs.map PyData.str) = 0
  | [], _ => ⟨rfl, rfl⟩
  | z :: zs, h => by
    obtain ⟨h1, h2⟩ := lay_strs zs fun y hy => h y (List.mem_cons_of_mem _ hy)
    constructor
    · show (PyData.strOk z && PyData.canLayAll0 (zs.map PyData.str)) = true
      rw [strOk_name (h z (List.mem_cons_self ..)), h1]; rfl
    · show max 0 (PyData.depthAll (zs.map PyData.str)) = 0
      rw [h2]; rfl
theorem shaped_strs {zs : List Str} (h : ∀ z ∈ zs, NameOk z) : SeqAt.shaped (.list (zs.map PyData.str)) = true := by
  obtain ⟨h1, h2⟩ := lay_strs zs h
  show (PyData.canLayAll0 (zs.map PyData.str) && decide (PyData.depthAll (zs.map PyData.str) + 1 ≤ 64)) = true
  rw [h1, h2]; rfl
theorem name_at {K : PySem.W.Frag} {H : Hp} {x : V} {a : PyData} (h : Dp K H x a) (hn : nameB a = true) : ∃ z, a = .str z ∧ x = .str z ∧ NameOk z := by
  cases h with
  | str z => exact ⟨z, rfl, rfl, nameB_ok hn⟩
  | non => cases hn
  | bl b => cases hn
  | int i => cases hn
  | lst _ _ => cases hn
  | tup _ _ => cases hn
/-- what may be shown whole -/
structure Shows (d : PyData) : Prop where
  sh : d.showable = true
  nd : d.hasDict = false
  dp : d.depth ≤ 60
  sz : d.shown.length ≤ sizeLine
end TT

set_option Elab.async false
set_option linter.all false
set_option maxRecDepth 100000
namespace TT
open PySem PySem.Spec PyProof.Rows L2
/-! ### sizes of data: bounds of its ints, of its lists' lengths, of all its signs -/
mutual
def Nice (B L : Nat) : PyData → Prop
  | .none | .bool _ => True
  | .int i => i.natAbs ≤ B
  | .str z => ∀ c ∈ cl z, c < 128
  | .list ds | .tuple ds => ds.length ≤ L ∧ NiceAll B L ds
  | .dict _ => False
def NiceAll (B L : Nat) : List PyData → Prop
  | [] => True
  | d :: ds => Nice B L d ∧ NiceAll B L ds
end
mutual
def wt : PyData → Nat
  | .none => 4
  | .bool _ => 5
  | .int _ => 25
  | .str z => 10 * z.length + 12
  | .list ds | .tuple ds => 6 + wtAll ds
  | .dict _ => 0
def wtAll : List PyData → Nat
  | [] => 0
  | d :: ds => wt d + 3 + wtAll ds
end
theorem niceAll_iff {B L : Nat} : ∀ {ds : List PyData}, NiceAll B L ds ↔ ∀ d ∈ ds, Nice B L d
  | [] => ⟨fun _ _ h => absurd h List.not_mem_nil, fun _ => trivial⟩
  | d :: ds => by
    constructor
    · intro h e he
      rcases List.mem_cons.mp he with rfl | he
      · exact h.1
      · exact niceAll_iff.mp h.2 e he
    · intro h
      exact ⟨h d (List.mem_cons_self ..), niceAll_iff.mpr fun e he => h e (List.mem_cons_of_mem _ he)⟩
mutual
theorem Nice.mono {B B' L L' : Nat} (hB : B ≤ B') (hL : L ≤ L') : ∀ {d : PyData}, Nice B L d → Nice B' L' d
  | .none, _ => trivial
  | .bool _, _ => trivial
  | .int i, h => Nat.le_trans (show i.natAbs ≤ B from h) hB
  | .str _, h => h
  | .list ds, h => ⟨Nat.le_trans h.1 hL, NiceAll.mono hB hL h.2⟩
  | .tuple ds, h => ⟨Nat.le_trans h.1 hL, NiceAll.mono hB hL h.2⟩
  | .dict _, h => h
theorem NiceAll.mono {B B' L L' : Nat} (hB : B ≤ B') (hL : L ≤ L') : ∀ {ds : List PyData}, NiceAll B L ds → NiceAll B' L' ds
  | [], _ => trivial
  | d :: ds, h => ⟨Nice.mono hB hL h.1, NiceAll.mono hB hL h.2⟩
end
theorem wtAll_app : ∀ (ds es : List PyData), wtAll (ds ++ es) = wtAll ds + wtAll es
  | [], es => by simp [wtAll]
  | d :: ds, es => by
    show wt d + 3 + wtAll (ds ++ es) = wt d + 3 + wtAll ds + wtAll es
    rw [wtAll_app ds es]; omega
theorem wtAll_len : ∀ ds : List PyData, ds.length ≤ wtAll ds
  | [] => Nat.zero_le _
  | d :: ds => by
    have := wtAll_len ds
    show ds.length + 1 ≤ wt d + 3 + wtAll ds
    omega
theorem wt_mem : ∀ {ds : List PyData} {d : PyData}, d ∈ ds → wt d + 3 ≤ wtAll ds
  | e :: ds, d, h => by
    show wt d + 3 ≤ wt e + 3 + wtAll ds
    rcases List.mem_cons.mp h with rfl | h
    · omega
    · have := wt_mem h; omega
theorem depth_mem : ∀ {ds : List PyData} {d : PyData}, d ∈ ds → d.depth ≤ PyData.depthAll ds
  | e :: ds, d, h => by
    show d.depth ≤ max e.depth (PyData.depthAll ds)
    rcases List.mem_cons.mp h with rfl | h
    · exact Nat.le_max_left _ _
    · exact Nat.le_trans (depth_mem h) (Nat.le_max_right _ _)
theorem depthAll_le {n : Nat} : ∀ {ds : List PyData}, (∀ d ∈ ds, d.depth ≤ n) → PyData.depthAll ds ≤ n
  | [], _ => Nat.zero_le _
  | d :: ds, h => Nat.max_le.mpr ⟨h d (List.mem_cons_self ..), depthAll_le fun e he => h e (List.mem_cons_of_mem _ he)⟩
mutual
theorem fit_nice {B L : Nat} (hL : L ≤ 900) : ∀ {d : PyData}, Nice B L d → wt d ≤ 100000 → Fit d
  | .none, _, _ => trivial
  | .bool _, _, _ => trivial
  | .int _, _, _ => trivial
  | .str z, _, h => by
    show z.length ≤ 10000
    have h' : 10 * z.length + 12 ≤ 100000 := h
    omega
  | .list ds, h, hw => ⟨Nat.le_trans h.1 hL, fitAll_nice hL h.2 (by have : 6 + wtAll ds ≤ 100000 := hw; omega)⟩
  | .tuple ds, h, hw => ⟨Nat.le_trans h.1 hL, fitAll_nice hL h.2 (by have : 6 + wtAll ds ≤ 100000 := hw; omega)⟩
  | .dict _, h, _ => h.elim
theorem fitAll_nice {B L : Nat} (hL : L ≤ 900) : ∀ {ds : List PyData}, NiceAll B L ds → wtAll ds ≤ 100000 → FitAll ds
  | [], _, _ => trivial
  | d :: ds, h, hw => by
    have hw' : wt d + 3 + wtAll ds ≤ 100000 := hw
    exact ⟨fit_nice hL h.1 (by omega), fitAll_nice hL h.2 (by omega)⟩
end
theorem int_len {i : Int} (h : i.natAbs ≤ 10 ^ 20) : (Str.ofString (toString i)).length ≤ 22 := by
  by_cases h0 : 0 ≤ i
  · exact Nat.le_trans (toString_length_le (v := i) (k := 21) h0 (by decide) (by omega)) (by decide)
  · have g := len_text_negI (n := i) (by omega)
    have g2 := toString_length_le (v := 0 - i) (k := 21) (by omega) (by decide) (by omega)
    omega
theorem list_len (ts : List Str) : (listText ts).length ≤ piled ts + 4 := by
  unfold listText
  rw [str_len_app]
  cases ts with
  | nil => decide +kernel
  | cons t r =>
    have e : (textFrom 0 "[" (t :: r)).length ≤ piled (t :: r) + 3 := by
      show (textFrom 1 (_ ++ t) r).length ≤ _
      rw [textFrom_length_pos _ _ _ (by decide), str_len_app, piled_cons]
      have : (Str.ofString "[" ++ Str.ofString (if 0 > 0 then ", " else "")).length = 1 := by decide +kernel
      omega
    have : (Str.ofString "]").length = 1 := by decide +kernel
    omega
theorem tup_len (ts : List Str) : (tupleText ts).length ≤ piled ts + 4 := by
  have e1 : (Str.ofString "(").length = 1 := by decide +kernel
  have e3 : (Str.ofString (if ts.length == 1 then ",)" else ")" : String)).length ≤ 2 := by split <;> decide +kernel
  unfold tupleText
  rw [str_len_app, str_len_app]
  by_cases h : ts = []
  · subst h
    decide +kernel
  · have := join_length_add ts h
    omega
mutual
theorem shown_len {B L : Nat} (hB : B ≤ 10 ^ 20) : ∀ {d : PyData}, Nice B L d → d.shown.length ≤ wt d
  | .none, _ => by decide +kernel
  | .bool b, _ => by cases b <;> decide +kernel
  | .int i, h => Nat.le_trans (int_len (Nat.le_trans (show i.natAbs ≤ B from h) hB)) (by show 22 ≤ 25; decide)
  | .str z, h => by
    show (reprText z).length ≤ 10 * z.length + 12
    have := StrLaws.reprText_len z fun c hc => Nat.lt_of_lt_of_le (h c hc) (by decide)
    omega
  | .list ds, h => by
    show (listText (PyData.shownAll ds)).length ≤ 6 + wtAll ds
    have g1 := list_len (PyData.shownAll ds)
    have g2 := shownAll_len hB h.2
    omega
  | .tuple ds, h => by
    show (tupleText (PyData.shownAll ds)).length ≤ 6 + wtAll ds
    have g1 := tup_len (PyData.shownAll ds)
    have g2 := shownAll_len hB h.2
    omega
  | .dict _, h => h.elim
theorem shownAll_len {B L : Nat} (hB : B ≤ 10 ^ 20) : ∀ {ds : List PyData}, NiceAll B L ds → piled (PyData.shownAll ds) ≤ wtAll ds
  | [], _ => Nat.le_refl _
  | d :: ds, h => by
    show piled (d.shown :: PyData.shownAll ds) ≤ wt d + 3 + wtAll ds
    rw [piled_cons]
    have g1 := shown_len hB h.1
    have g2 := shownAll_len hB h.2
    omega
end
mutual
theorem showable_nice {B L : Nat} (hB : B ≤ 10 ^ 20) : ∀ {d : PyData}, Nice B L d → d.showable = true ∧ d.hasDict = false
  | .none, _ => ⟨rfl, rfl⟩
  | .bool _, _ => ⟨rfl, rfl⟩
  | .int i, h => ⟨decide_eq_true (Nat.lt_of_lt_of_le (PySem.Flt.log2_lt_of (k := 70) (by decide) (Nat.lt_of_le_of_lt (Nat.le_trans (show i.natAbs ≤ B from h) hB) (by decide))) (by decide)), rfl⟩
  | .str _, _ => ⟨rfl, rfl⟩
  | .list ds, h => showableAll_nice hB h.2
  | .tuple ds, h => showableAll_nice hB h.2
  | .dict _, h => h.elim
theorem showableAll_nice {B L : Nat} (hB : B ≤ 10 ^ 20) : ∀ {ds : List PyData}, NiceAll B L ds → PyData.showableAll ds = true ∧ PyData.hasDictAll ds = false
  | [], _ => ⟨rfl, rfl⟩
  | d :: ds, h => by
    obtain ⟨a1, a2⟩ := showable_nice hB h.1
    obtain ⟨b1, b2⟩ := showableAll_nice hB h.2
    constructor
    · show (d.showable && PyData.showableAll ds) = true
      rw [a1, b1]; rfl
    · show (d.hasDict || PyData.hasDictAll ds) = false
      rw [a2, b2]; rfl
end
theorem shows_nice {B L : Nat} {d : PyData} (h : Nice B L d) (hB : B ≤ 10 ^ 20) (hd : d.depth ≤ 60) (hw : wt d ≤ 100000) : Shows d :=
  ⟨(showable_nice hB h).1, (showable_nice hB h).2, hd, Nat.le_trans (shown_len hB h) (Nat.le_trans hw (by decide))⟩
/-! ### numbers that may be truths -/
inductive NumV : V → Int → Prop
  | int (i : Int) : NumV (.int i) i
  | bl (b : Bool) : NumV (.bl b) (if b = true then 1 else 0)
section
variable {X : Cx}
theorem op_addN : OpR X (binaryOp .Add) (fun x y H Q => ∃ i j, NumV x i ∧ y = .int j ∧ Q (.int (i + j)) H) := by
  intro pins s σ H x y v u Q I rx ry h
  obtain ⟨i, j, n, rfl, q⟩ := h
  obtain ⟨t, rfl⟩ := ry
  cases n with
  | int i => exact op_add pins s σ H (.int i) (.int j) v _ Q I rx ⟨t, rfl⟩ ⟨i, j, rfl, rfl, q⟩
  | bl b => cases rx; exact IntBool.add_bool_int ⟨.int _, H, I.tok _, ⟨_, rfl⟩, q⟩
theorem op_subN : OpR X (binaryOp .Sub) (fun x y H Q => ∃ i j, NumV x i ∧ y = .int j ∧ Q (.int (i - j)) H) := by
  intro pins s σ H x y v u Q I rx ry h
  obtain ⟨i, j, n, rfl, q⟩ := h
  obtain ⟨t, rfl⟩ := ry
  cases n with
  | int i => exact op_sub pins s σ H (.int i) (.int j) v _ Q I rx ⟨t, rfl⟩ ⟨i, j, rfl, rfl, q⟩
  | bl b => cases rx; exact IntBool.sub_bool_int ⟨.int _, H, I.tok _, ⟨_, rfl⟩, q⟩
theorem op_subIN : OpR X (binaryOp .Sub) (fun x y H Q => ∃ i j, x = .int i ∧ NumV y j ∧ Q (.int (i - j)) H) := by
  intro pins s σ H x y v u Q I rx ry h
  obtain ⟨i, j, rfl, n, q⟩ := h
  obtain ⟨t, rfl⟩ := rx
  cases n with
  | int j => exact op_sub pins s σ H (.int i) (.int j) _ u Q I ⟨t, rfl⟩ ry ⟨i, j, rfl, rfl, q⟩
  | bl b => cases ry; exact IntBool.sub_int_bool ⟨.int _, H, I.tok _, ⟨_, rfl⟩, q⟩
/-- str of such -/
def numText : V → Str
  | .int i => Str.ofString (toString i)
  | .bl b => if b = true then Str.ofString "True" else Str.ofString "False"
  | _ => Str.empty
theorem call_str_num : CallR X (.type "str") (fun xs H Q => ∃ x i, xs = [x] ∧ NumV x i ∧ i.natAbs.log2 < 1920 ∧ Q (.str (numText x)) H) := by
  intro pins s σ H xs us Q I r h
  obtain ⟨x, i, rfl, n, hi, q⟩ := h
  cases n with
  | int i => exact call_str_int pins s σ H _ us Q I r ⟨i, rfl, hi, q⟩
  | bl b =>
    obtain ⟨u, rfl, rx⟩ := vals1 r
    cases rx
    exact P.str_of_bool ⟨.str _, H, I.tok _, ⟨_, rfl⟩, q⟩
end
end TT

set_option Elab.async false
set_option linter.all false
set_option maxRecDepth 100000
namespace TT
open PySem PySem.Spec PyProof.Rows L2
/-! ### what may be put in another's place -/
structure Good (B W : Nat) (e : PyData) : Prop where
  nice : Nice B 1 e
  wt : wt e ≤ W
  dep : e.depth ≤ 1
theorem msk_at {M : List Addr} {H : Hp} {p : Addr} {o : HO} (h : H p = some o) (n : p ∉ M) : msk M H p = some o := by
  unfold msk
  rw [if_neg n]
  exact h
/-- a mask over the state of the draws and more, all of it there -/
structure Mask (M : List Addr) (H : Hp) (s c : Addr) : Prop where
  sc : ∀ p ∈ [s, c], p ∈ M
  tr : ∀ p ∈ M, H p ≠ none
theorem Mask.new {M : List Addr} {H : Hp} {s c p : Addr} (h : Mask M H s c) (n : H p = none) : p ∉ M := fun z => h.tr p z n
theorem Mask.up {M : List Addr} {H : Hp} {s c p : Addr} {o : HO} (h : Mask M H s c) : Mask M (upd H p o) s c := ⟨h.sc, fun b hb => by
  unfold upd
  split
  · exact fun z => nomatch z
  · exact h.tr b hb⟩
theorem Mask.kept {M : List Addr} {H H' : Hp} {s c : Addr} {T : Nat} (h : Mask M H s c) (k : Kept [s, c] H H') (S : StAt H' s c T) : Mask M H' s c := ⟨h.sc, fun b hb z => by
  by_cases hm : b ∈ [s, c]
  · simp only [List.mem_cons, List.not_mem_nil, or_false] at hm
    rcases hm with rfl | rfl
    · obtain ⟨t, _, e⟩ := S.ex
      rw [z] at e; cases e
    · obtain ⟨ns, _, _, e⟩ := S.cs
      rw [z] at e; cases e
  · cases e : H b with
    | none => exact h.tr b hb e
    | some o =>
      have := k b o e hm
      rw [z] at this; cases this⟩
theorem Mask.same {M : List Addr} {H H' : Hp} {s c : Addr} (h : Mask M H s c) (k : Kept [s, c] H H') : Same (msk M H) (msk M H') := msk_same (k.mono h.sc)
/-- a list of such, at an address of its own -/
structure Bag (K : PySem.W.Frag) (M : List Addr) (s c : Addr) (T B W : Nat) (H0 H : Hp) (L : Addr) (vs : List V) (ds : List PyData) : Prop where
  at' : H L = some (.lst vs)
  dp : DpAll K (msk M H) vs ds
  good : ∀ e ∈ ds, Good B W e
  kept : Kept [s, c] H0 H
  st : StAt H s c T
  out : L ∉ M
  mask : Mask M H s c
section
variable {K : PySem.W.Frag} {M : List Addr} {s c L L' p : Addr} {T B W : Nat} {H0 H : Hp} {vs us : List V} {ds es : List PyData} {o : HO}
theorem Bag.up (b : Bag K M s c T B W H0 H L vs ds) (n : H p = none) : Bag K M s c T B W H0 (upd H p o) L vs ds :=
  ⟨by rw [upd_ne (ne_of_none b.at' n)]; exact b.at', dpAll_same (msk_same (Kept.upd_new n)) b.dp, b.good, b.kept.trans (Kept.upd_new n), b.st.upd_new n, b.out, b.mask.up⟩
theorem Bag.mk' (dp : DpAll K (msk M H) vs ds) (good : ∀ e ∈ ds, Good B W e) (kept : Kept [s, c] H0 H) (S : StAt H s c T) (hM : Mask M H s c) (n : H L = none) : Bag K M s c T B W H0 (upd H L (.lst vs)) L vs ds :=
  ⟨upd_same, dpAll_same (msk_same (Kept.upd_new n)) dp, good, kept.trans (Kept.upd_new n), S.upd_new n, hM.new n, hM.up⟩
theorem Bag.cat (a : Bag K M s c T B W H0 H L vs ds) (b : Bag K M s c T B W H0 H L' us es) (n : H p = none) : Bag K M s c T B W H0 (upd H p (.lst (vs ++ us))) p (vs ++ us) (ds ++ es) :=
  Bag.mk' (dpAll_app a.dp b.dp) (fun e he => (List.mem_append.mp he).elim (a.good e) (b.good e)) a.kept a.st a.mask n
theorem dp_tup_new {v : List V} {d : List PyData} (hM : Mask M H s c) (n : H p = none) (h : DpAll K (msk M H) v d) : Dp K (msk M (upd H p (.tup v))) (.ref p) (.tuple d) :=
  .tup (.inl (.inl (msk_at upd_same (hM.new n)))) (dpAll_same (msk_same (Kept.upd_new n)) h)
theorem dp_lst_new {v : List V} {d : List PyData} (hM : Mask M H s c) (n : H p = none) (h : DpAll K (msk M H) v d) : Dp K (msk M (upd H p (.lst v))) (.ref p) (.list d) :=
  .lst (.inl (.inl (msk_at upd_same (hM.new n)))) (dpAll_same (msk_same (Kept.upd_new n)) h)
theorem dp_up {v : V} {d : PyData} (n : H p = none) (h : Dp K (msk M H) v d) : Dp K (msk M (upd H p o)) v d := dp_same (msk_same (Kept.upd_new n)) h
end
def ascB (z : Str) : Bool := (cl z).all (fun c => decide (c < 128)) && decide (z.length ≤ 10)
theorem asc_of {z : Str} (h : ascB z = true) {B W : Nat} (hW : 112 ≤ W) : Good B W (.str z) := by
  unfold ascB at h
  simp only [Bool.and_eq_true, List.all_eq_true, decide_eq_true_eq] at h
  exact ⟨h.1, by show 10 * z.length + 12 ≤ W; omega, Nat.zero_le _⟩
theorem int_of {i : Int} {B W : Nat} (h : i.natAbs ≤ B) (hW : 112 ≤ W) : Good B W (.int i) := ⟨h, by show 25 ≤ W; omega, Nat.zero_le _⟩
theorem good_one {B W : Nat} {e : PyData} (h : Nice B 1 e) (hd : e.depth = 0) (hw : wt e + 9 ≤ W) : Good B W (.tuple [e]) ∧ Good B W (.list [e]) := by
  have g : 6 + (wt e + 3 + 0) ≤ W := by omega
  have d1 : max e.depth 0 + 1 ≤ 1 := by rw [hd]; decide
  exact ⟨⟨⟨Nat.le_refl 1, h, trivial⟩, g, d1⟩, ⟨⟨Nat.le_refl 1, h, trivial⟩, g, d1⟩⟩
theorem name_asc {z : Str} (h : NameOk z) {B W : Nat} (hW : 112 ≤ W) : Good B W (.str z) := by
  have l : z.length ≤ 8 := h.top
  exact ⟨fun c hc => by have := h.low c hc; unfold low at this; omega, by show 10 * z.length + 12 ≤ W; omega, Nat.zero_le _⟩
/-- the first fifteen -/
def first15V (t1 l1 t2 : Addr) : List V := [.non, .bl true, .bl false, .str "", .str "a1", .str "Ab", .str "abcdefghi", .str "a b", .ref t1, .ref l1, .ref t2, .int 0, .int (-1), .int (10 ^ (9 : Int).toNat), .str "none"]
def first15D : List PyData := [.none, .bool true, .bool false, .str "", .str "a1", .str "Ab", .str "abcdefghi", .str "a b", .tuple [], .list [], .tuple [.int 0], .int 0, .int (-1), .int (10 ^ (9 : Int).toNat), .str "none"]
theorem first15_good {B W : Nat} (hB : 2000000000 ≤ B) (hW : 200 ≤ W) : ∀ e ∈ first15D, Good B W e := by
  have e9 : (10 : Int) ^ (9 : Int).toNat = 1000000000 := by decide
  intro e he
  unfold first15D at he
  simp only [List.mem_cons, List.not_mem_nil, or_false] at he
  rcases he with rfl | rfl | rfl | rfl | rfl | rfl | rfl | rfl | rfl | rfl | rfl | rfl | rfl | rfl | rfl
  · exact ⟨trivial, by show 4 ≤ W; omega, Nat.zero_le _⟩
  · exact ⟨trivial, by show 5 ≤ W; omega, Nat.zero_le _⟩
  · exact ⟨trivial, by show 5 ≤ W; omega, Nat.zero_le _⟩
  · exact asc_of (by decide +kernel) (by omega)
  · exact asc_of (by decide +kernel) (by omega)
  · exact asc_of (by decide +kernel) (by omega)
  · exact asc_of (by decide +kernel) (by omega)
  · exact asc_of (by decide +kernel) (by omega)
  · exact ⟨⟨Nat.zero_le _, trivial⟩, by show 6 ≤ W; omega, Nat.le_refl _⟩
  · exact ⟨⟨Nat.zero_le _, trivial⟩, by show 6 ≤ W; omega, Nat.le_refl _⟩
  · exact (good_one (e := .int 0) (Nat.zero_le _) rfl (by show 34 ≤ W; omega)).1
  · exact int_of (Nat.zero_le _) (by omega)
  · exact int_of (by show 1 ≤ B; omega) (by omega)
  · exact int_of (by rw [e9]; show 1000000000 ≤ B; omega) (by omega)
  · exact asc_of (by decide +kernel) (by omega)
theorem upper_asc {z : Str} (h : ∀ c ∈ cl z, c < 128) : (∀ c ∈ cl (Txt.upper z), c < 128) ∧ (Txt.upper z).length = z.length := by
  rw [upper_ascii h]
  constructor
  · intro c hc
    have hc' : c ∈ (cl z).map up1 := by
      have e : cl (⟨z.cps.map up1⟩ : Str) = (cl z).map up1 := by
        show (z.cps.map up1).toList = z.cps.toList.map up1
        exact Array.toList_map
      rw [e] at hc; exact hc
    obtain ⟨a, ha, rfl⟩ := List.mem_map.mp hc'
    have := h a ha
    unfold up1
    split <;> omega
  · show (z.cps.map up1).size = z.cps.size
    exact Array.size_map
theorem cut_asc {z : Str} (h : ∀ c ∈ cl z, c < 128) (lo hi : Option Int) : (∀ c ∈ cl (cutS z lo hi), c < 128) ∧ (cutS z lo hi).length ≤ z.length := by
  constructor
  · intro c hc
    rw [cut_cl] at hc
    exact h c (List.mem_of_mem_drop (List.mem_of_mem_take hc))
  · rw [cl_len, cut_cl, List.length_take, List.length_drop]
    have : (cl z).length = z.length := rfl
    omega
theorem num_asc {v : V} {i : Int} (h : NumV v i) (hi : i.natAbs ≤ 10 ^ 20) : (∀ c ∈ cl (numText v), c < 128) ∧ (numText v).length ≤ 22 := by
  cases h with
  | bl b => cases b <;> exact ⟨by decide +kernel, by decide +kernel⟩
  | int i =>
    refine ⟨?_, int_len hi⟩
    have all : ∀ m : Nat, ∀ ch ∈ (toString (Int.ofNat m)).toList, ch.toNat < 128 := fun m ch hch => by
      have e1 := text_ofNat m
      rw [Str.ofString_eq_toList] at e1
      have e2 : (toString (Int.ofNat m)).toList.map Char.toNat = (Nat.toDigits 10 m).map Char.toNat := congrArg (fun z : Str => z.cps.toList) e1
      have hm : ch.toNat ∈ (Nat.toDigits 10 m).map Char.toNat := by rw [← e2]; exact List.mem_map.mpr ⟨ch, hch, rfl⟩
      obtain ⟨c2, h2, e3⟩ := List.mem_map.mp hm
      rw [← e3]
      have h3 := Nat.isDigit_of_mem_toDigits (by decide) (by decide) h2
      simp only [Char.isDigit, Bool.and_eq_true, decide_eq_true_eq] at h3
      have h4 : c2.val.toNat ≤ 57 := h3.2
      show c2.val.toNat < 128
      omega
    intro c hc
    have hc' : c ∈ (toString i).toList.map Char.toNat := by
      have e : cl (Str.ofString (toString i)) = (toString i).toList.map Char.toNat := by
        unfold cl
        rw [Str.ofString_eq_toList]
      rw [← e]; exact hc
    obtain ⟨ch, hch, rfl⟩ := List.mem_map.mp hc'
    by_cases h0 : 0 ≤ i
    · obtain ⟨m, rfl⟩ : ∃ m : Nat, i = Int.ofNat m := ⟨i.toNat, by show i = ((i.toNat : Nat) : Int); omega⟩
      exact all m ch hch
    · rw [toString_neg (by omega), String.toList_append] at hch
      obtain ⟨m, hm⟩ : ∃ m : Nat, 0 - i = Int.ofNat m := ⟨(0 - i).toNat, by show 0 - i = (((0 - i).toNat : Nat) : Int); omega⟩
      rcases List.mem_append.mp hch with h | h
      · have e : ("-" : String).toList = ['-'] := by decide
        rw [e] at h
        rw [List.mem_singleton.mp h]
        decide
      · rw [hm] at h
        exact all m ch h
/-! ### pieces of data -/
theorem dpAll_take {K : PySem.W.Frag} {H : Hp} : ∀ {ds : List PyData} {vs : List V} (n : Nat), DpAll K H vs ds → DpAll K H (vs.take n) (ds.take n)
  | _, _, 0, _ => .nil
  | _, _, _ + 1, .nil => .nil
  | _, _, n + 1, .cons h t => .cons h (dpAll_take n t)
theorem dpAll_drop {K : PySem.W.Frag} {H : Hp} : ∀ {ds : List PyData} {vs : List V} (n : Nat), DpAll K H vs ds → DpAll K H (vs.drop n) (ds.drop n)
  | _, _, 0, h => h
  | _, _, _ + 1, .nil => .nil
  | _, _, n + 1, .cons _ t => dpAll_drop n t
theorem dpAll_rev {K : PySem.W.Frag} {H : Hp} : ∀ {ds : List PyData} {vs : List V}, DpAll K H vs ds → DpAll K H vs.reverse ds.reverse
  | _, _, .nil => .nil
  | _, _, .cons h t => by
    rw [List.reverse_cons, List.reverse_cons]
    exact dpAll_snoc (dpAll_rev t) h
theorem dpAll_set {K : PySem.W.Frag} {H : Hp} {v : V} {d : PyData} (h : Dp K H v d) : ∀ {ds : List PyData} {vs : List V} (n : Nat), DpAll K H vs ds → DpAll K H (vs.set n v) (ds.set n d)
  | _, _, _, .nil => .nil
  | _, _, 0, .cons _ t => .cons h t
  | _, _, n + 1, .cons g t => .cons g (dpAll_set h n t)
theorem wtAll_rev : ∀ ds : List PyData, wtAll ds.reverse = wtAll ds
  | [] => rfl
  | d :: ds => by
    rw [List.reverse_cons, wtAll_app, wtAll_rev ds]
    show wtAll ds + (wt d + 3 + 0) = wt d + 3 + wtAll ds
    omega
theorem wtAll_cut (ds : List PyData) (n : Nat) : wtAll (ds.take n) + wtAll (ds.drop n) = wtAll ds := by
  rw [← wtAll_app, List.take_append_drop]
/-- what has become of a list's items -/
structure Pc (B L : Nat) (ds es : List PyData) : Prop where
  len : es.length ≤ L + 1
  mem : ∀ e ∈ es, Nice B (L + 1) e ∧ e.depth ≤ PyData.depthAll ds + 1
  wt : wtAll es ≤ 3 * wtAll ds + 2000
theorem pc_mem {B L : Nat} {ds : List PyData} (h : NiceAll B L ds) : ∀ e ∈ ds, Nice (B + 2000000000) (L + 1) e ∧ e.depth ≤ PyData.depthAll ds + 1 := fun e he =>
  ⟨(niceAll_iff.mp h e he).mono (by omega) (by omega), Nat.le_trans (depth_mem he) (Nat.le_succ _)⟩
/-- the things that are made of a container -/
structure Bt (B L : Nat) (d e : PyData) : Prop where
  nice : Nice (B + 2000000000) (L + 1) e
  wt : wt e ≤ 3 * wt d + 2000
  dep : e.depth ≤ d.depth + 1
theorem bt_good {B L : Nat} {d e : PyData} (h : Good (B + 2000000000) (wt d + 300) e) : Bt B L d e := ⟨h.nice.mono (Nat.le_refl _) (by omega), by have := h.wt; omega, by have := h.dep; omega⟩
theorem cutV_lo (xs : List V) (a : Nat) : cutV xs none (some (a : Int)) = xs.take a := by
  unfold cutV
  rw [HT.sIx_none, HT.sIx_nat, List.drop_zero, Nat.sub_zero]
  by_cases h : a ≤ xs.length
  · rw [Nat.min_eq_left h]
  · rw [Nat.min_eq_right (by omega), List.take_of_length_le (Nat.le_refl _), List.take_of_length_le (by omega)]
theorem cutV_hi (xs : List V) (a : Nat) : cutV xs (some (a : Int)) none = xs.drop a := by
  unfold cutV
  rw [HT.sIx_none, HT.sIx_nat]
  by_cases h : a ≤ xs.length
  · rw [Nat.min_eq_left h, List.take_of_length_le]
    rw [List.length_drop]; exact Nat.le_refl _
  · rw [Nat.min_eq_right (by omega), List.drop_length, List.drop_of_length_le (by omega)]
    simp
theorem cutV_mid (xs : List V) (a b : Nat) (h : a ≤ xs.length) : cutV xs (some (a : Int)) (some ((a : Int) + b)) = (xs.drop a).take b := by
  unfold cutV
  rw [show ((a : Int) + b) = ((a + b : Nat) : Int) by omega, HT.sIx_nat, HT.sIx_nat, Nat.min_eq_left h, List.take_eq_take_iff, List.length_drop]
  omega
/-- a container: a tuple or a list -/
theorem cont_of {K : PySem.W.Frag} {H : Hp} {v : V} {d : PyData} (hd : Dp K H v d) (h : (isTB d || isLB d) = true) : ∃ p xs ds, v = .ref p ∧ DpAll K H xs ds ∧ ((d = .tuple ds ∧ SqT K H p xs) ∨ (d = .list ds ∧ SqL K H p xs)) := by
  cases hd with
  | non => cases h
  | bl b => cases h
  | int i => cases h
  | str z => cases h
  | lst hs a => exact ⟨_, _, _, rfl, a, .inr ⟨rfl, hs⟩⟩
  | tup hs a => exact ⟨_, _, _, rfl, a, .inl ⟨rfl, hs⟩⟩
end TT

set_option Elab.async false
set_option linter.all false
set_option maxRecDepth 100000
namespace TT
open PySem PySem.Spec PyProof.Rows L2
/-! ### is some data among names -/
def inS (zs : List Str) : PyData → Bool
  | .str z => decide (z ∈ zs)
  | _ => false
theorem any_eqv (zs : List Str) (d : PyData) : (zs.map PyData.str).any (fun z => PyData.eqv z d) = inS zs d := by
  rw [List.any_map]
  cases d with
  | str z =>
    show zs.any (fun y => y == z) = decide (z ∈ zs)
    rw [Bool.eq_iff_iff]
    simp
  | none => exact List.any_eq_false.mpr fun x _ => by simp [Function.comp, PyData.eqv]
  | bool b => exact List.any_eq_false.mpr fun x _ => by simp [Function.comp, PyData.eqv]
  | int i => exact List.any_eq_false.mpr fun x _ => by simp [Function.comp, PyData.eqv]
  | list ds => exact List.any_eq_false.mpr fun x _ => by simp [Function.comp, PyData.eqv]
  | tuple ds => exact List.any_eq_false.mpr fun x _ => by simp [Function.comp, PyData.eqv]
  | dict ds => exact List.any_eq_false.mpr fun x _ => by simp [Function.comp, PyData.eqv]
def rInN (K : PySem.W.Frag) : R2 := fun x y H Q => ∃ (d : PyData) (zs : List Str) (p : Addr), y = .ref p ∧ Dp K H x d ∧ SeqAt.shaped d = true ∧ (SqL K H p (zs.map V.str) ∨ SqT K H p (zs.map V.str)) ∧ SeqAt.shaped (.list (zs.map PyData.str)) = true ∧ Q (.bl (inS zs d)) H
def rNinN (K : PySem.W.Frag) : R2 := fun x y H Q => ∃ (d : PyData) (zs : List Str) (p : Addr), y = .ref p ∧ Dp K H x d ∧ SeqAt.shaped d = true ∧ (SqL K H p (zs.map V.str) ∨ SqT K H p (zs.map V.str)) ∧ SeqAt.shaped (.list (zs.map PyData.str)) = true ∧ Q (.bl (!inS zs d)) H
section
variable {X : Cx}
theorem op_inN (hu : X.A.units + 65 < cLine) : OpR X (compareOp .In) (rInN X.K) := by
  intro pins s σ H x y v u Q I rx ry h
  obtain ⟨d, zs, p, rfl, hd, sd, he, se, q⟩ := h
  rw [← any_eqv] at q
  obtain ⟨as, r1⟩ := Dp.reads I d x v hd rx
  rcases he with he | he
  · obtain ⟨bs, r2⟩ := Dp.reads I (.list (zs.map PyData.str)) (.ref p) u (.lst he (dp_strs zs)) ry
    exact SeqAt.in_list_reads r2 r1 (SeqAt.canLay_of_shaped se) (SeqAt.canLay_of_shaped sd) (room_in_shaped sd hu) ⟨.bl _, H, I, rfl, q⟩
  · obtain ⟨bs, r2⟩ := Dp.reads I (.tuple (zs.map PyData.str)) (.ref p) u (.tup he (dp_strs zs)) ry
    exact SeqAt.in_tuple_reads r2 r1 (SeqAt.canLay_of_shaped se) (SeqAt.canLay_of_shaped sd) (room_in_shaped sd hu) ⟨.bl _, H, I, rfl, q⟩
theorem op_ninN (hu : X.A.units + 65 < cLine) : OpR X (compareOp .NotIn) (rNinN X.K) := by
  intro pins s σ H x y v u Q I rx ry h
  obtain ⟨d, zs, p, rfl, hd, sd, he, se, q⟩ := h
  rw [← any_eqv] at q
  obtain ⟨as, r1⟩ := Dp.reads I d x v hd rx
  rcases he with he | he
  · obtain ⟨bs, r2⟩ := Dp.reads I (.list (zs.map PyData.str)) (.ref p) u (.lst he (dp_strs zs)) ry
    exact SeqAt.notIn_list_reads r2 r1 (SeqAt.canLay_of_shaped se) (SeqAt.canLay_of_shaped sd) (room_in_shaped sd hu) ⟨.bl _, H, I, rfl, q⟩
  · obtain ⟨bs, r2⟩ := Dp.reads I (.tuple (zs.map PyData.str)) (.ref p) u (.tup he (dp_strs zs)) ry
    exact SeqAt.notIn_tuple_reads r2 r1 (SeqAt.canLay_of_shaped se) (SeqAt.canLay_of_shaped sd) (room_in_shaped sd hu) ⟨.bl _, H, I, rfl, q⟩
/-- a statement that is never come to -/
theorem ps_nv {st : Stmt} : PS X st (fun _ _ _ => False) := ⟨fun _ _ _ _ _ _ h => h.elim⟩
end
/-! ### sizes -/
mutual
theorem lay_nice {B L : Nat} : ∀ {d : PyData}, Nice B L d → d.canLay0 = true
  | .none, _ => rfl
  | .bool _, _ => rfl
  | .int _, _ => rfl
  | .str z, h => by
    show PyData.strOk z = true
    unfold PyData.strOk
    rw [Array.all_eq_true']
    intro x hx
    have := h x (by unfold cl; exact Array.mem_toList_iff.mpr hx)
    simp; omega
  | .list ds, h => layAll_nice h.2
  | .tuple ds, h => layAll_nice h.2
  | .dict _, h => h.elim
theorem layAll_nice {B L : Nat} : ∀ {ds : List PyData}, NiceAll B L ds → PyData.canLayAll0 ds = true
  | [], _ => rfl
  | d :: ds, h => by
    show (d.canLay0 && PyData.canLayAll0 ds) = true
    rw [lay_nice h.1, layAll_nice h.2]; rfl
end
theorem shaped_nice {B L : Nat} {d : PyData} (h : Nice B L d) (hd : d.depth ≤ 60) : SeqAt.shaped d = true := by
  unfold SeqAt.shaped
  rw [lay_nice h, decide_eq_true (show d.depth ≤ 64 by omega)]; rfl
theorem shaped_str {z : Str} (h : NameOk z) : SeqAt.shaped (.str z) = true := by
  show (PyData.strOk z && decide (0 ≤ 64)) = true
  rw [strOk_name h]; rfl
theorem shaped_mem {ds : List PyData} {d : PyData} (h : SeqAt.shaped (.tuple ds) = true) (m : d ∈ ds) : SeqAt.shaped d = true := by
  have h' : (PyData.canLayAll0 ds && decide (PyData.depthAll ds + 1 ≤ 64)) = true := h
  rw [Bool.and_eq_true, decide_eq_true_eq] at h'
  have hd := depth_mem m
  unfold SeqAt.shaped
  rw [decide_eq_true (show d.depth ≤ 64 by omega), Bool.and_true]
  have g : ∀ {l : List PyData}, PyData.canLayAll0 l = true → d ∈ l → d.canLay0 = true := by
    intro l
    induction l with
    | nil => intro _ m; cases m
    | cons e l ih =>
      intro h m
      have h2 : (e.canLay0 && PyData.canLayAll0 l) = true := h
      rw [Bool.and_eq_true] at h2
      rcases List.mem_cons.mp m with rfl | m
      · exact h2.1
      · exact ih h2.2 m
  exact g h'.1 m
/-! ### the tables handed along -/
structure Tabs (K : PySem.W.Frag) (H : Hp) (tp : Addr) (ts : List Tab) : Prop where
  dp : Dp K H (.ref tp) (.tuple (ts.map tabD))
  ok : TabsOk 5 ts
  l0 : 0 < ts.length
  l8 : ts.length ≤ 8
theorem Tabs.same {K : PySem.W.Frag} {H H' : Hp} {tp : Addr} {ts : List Tab} (h : Tabs K H tp ts) (s : Same H H') : Tabs K H' tp ts := ⟨dp_same s h.dp, h.ok, h.l0, h.l8⟩
theorem Tabs.parts {K : PySem.W.Frag} {H : Hp} {tp : Addr} {ts : List Tab} (h : Tabs K H tp ts) : ∃ xs, SqT K H tp xs ∧ DpAll K H xs (ts.map tabD) ∧ xs.length = ts.length := by
  cases h.dp with
  | tup h1 h2 => exact ⟨_, h1, h2, by rw [dpAll_len h2, List.length_map]⟩
/-- one of the tables, taken apart -/
theorem tab_at {K : PySem.W.Frag} {H : Hp} {xs : List V} {ts : List Tab} {i : Nat} {x : V} (h : DpAll K H xs (ts.map tabD)) (hx : xs[i]? = some x) : ∃ (t : Tab) (q pc : Addr) (ys : List V), ts[i]? = some t ∧ x = .ref q ∧ SqT K H q [.str t.1, .ref pc] ∧ SqT K H pc ys ∧ DpAll K H ys (t.2.map colD) := by
  obtain ⟨dd, h1, h2⟩ := dpAll_get i h hx
  rw [List.getElem?_map] at h1
  obtain ⟨t, ht, rfl⟩ := Option.map_eq_some_iff.mp h1
  cases h2 with
  | tup g1 g2 =>
    cases g2 with
    | cons g3 g4 =>
      cases g4 with
      | cons g5 g6 =>
        cases g6
        cases g3
        cases g5 with
        | tup k1 k2 => exact ⟨t, _, _, _, ht, rfl, g1, k1, k2⟩
theorem col_at {K : PySem.W.Frag} {H : Hp} {ys : List V} {cs : List Col} {i : Nat} {x : V} (h : DpAll K H ys (cs.map colD)) (hx : ys[i]? = some x) : ∃ (co : Col) (q : Addr) (y : V), cs[i]? = some co ∧ x = .ref q ∧ SqT K H q [.str co.1, y] := by
  obtain ⟨dd, h1, h2⟩ := dpAll_get i h hx
  rw [List.getElem?_map] at h1
  obtain ⟨co, hco, rfl⟩ := Option.map_eq_some_iff.mp h1
  cases h2 with
  | tup g1 g2 =>
    cases g2 with
    | cons g3 g4 =>
      cases g4 with
      | cons g5 g6 =>
        cases g6
        cases g3
        exact ⟨co, _, _, hco, rfl, g1⟩
abbrev tns (ts : List Tab) : List Str := ts.map (·.1)
def colsOf (ts : List Tab) (t : Str) : List Col := match ts.find? (fun x => x.1 == t) with
  | some x => x.2
  | none => []
abbrev cns (ts : List Tab) (t : Str) : List Str := (colsOf ts t).map (·.1)
theorem colsOf_mem {ts : List Tab} (nd : (ts.map (·.1)).Nodup) {x : Tab} (hx : x ∈ ts) : colsOf ts x.1 = x.2 := by
  unfold colsOf
  induction ts with
  | nil => cases hx
  | cons a r ih =>
    rw [List.map_cons, List.nodup_cons] at nd
    rw [List.find?_cons]
    by_cases e : a.1 = x.1
    · rw [show (a.1 == x.1) = true by simp [e]]
      rcases List.mem_cons.mp hx with h | h
      · rw [h]
      · exact absurd (List.mem_map.mpr ⟨x, h, e.symm⟩) nd.1
    · rw [show (a.1 == x.1) = false by simp [e]]
      rcases List.mem_cons.mp hx with h | h
      · exact absurd (by rw [h]) e
      · exact ih nd.2 h
theorem tns_len {ts : List Tab} : (tns ts).length = ts.length := List.length_map ..
theorem tab_of {ts : List Tab} (nd : (ts.map (·.1)).Nodup) {t : Str} (h : t ∈ tns ts) : ∃ x ∈ ts, x.1 = t ∧ colsOf ts t = x.2 := by
  obtain ⟨x, hx, rfl⟩ := List.mem_map.mp h
  exact ⟨x, hx, rfl, colsOf_mem nd hx⟩
end TT

set_option Elab.async false
set_option linter.all false
set_option maxRecDepth 100000
namespace TT
open PySem PySem.Spec PyProof.Rows L2
/-- len of a list or a tuple, named -/
def rLenQ (K : PySem.W.Frag) : List V → Hp → VK → Prop := fun xs H Q => ∃ p ys, xs = [V.ref p] ∧ (SqL K H p ys ∨ SqT K H p ys) ∧ Q (.int (ys.length : Int)) H
/-! ### a list that grows, its items beside what is masked -/
structure Grow (K : PySem.W.Frag) (M : List Addr) (H : Hp) (P : Addr) (vs : List V) (ds : List PyData) : Prop where
  at' : H P = some (.lst vs)
  dp : DpAll K (msk (P :: M) H) vs ds
section
variable {K : PySem.W.Frag} {M : List Addr} {H H' : Hp} {P : Addr} {vs : List V} {ds : List PyData} {v : V} {d : PyData} {o : HO} {s c : Addr}
theorem Grow.start : Grow K M (upd H P (.lst [])) P [] [] := ⟨upd_same, .nil⟩
theorem sub_push : ∀ p ∈ M, p ∈ P :: M := fun _ h => List.mem_cons_of_mem _ h
theorem Grow.kept (g : Grow K M H P vs ds) (k : Kept M H H') (n : P ∉ M) : Grow K M H' P vs ds := ⟨k.at g.at' n, dpAll_same (msk_same (k.mono sub_push)) g.dp⟩
theorem Grow.put (g : Grow K M H P vs ds) (h : Dp K (msk (P :: M) H) v d) : Grow K M (upd H P (.lst (vs ++ [v]))) P (vs ++ [v]) (ds ++ [d]) :=
  ⟨upd_same, dpAll_same (msk_same (Kept.upd_in (List.mem_cons_self ..))) (dpAll_snoc g.dp h)⟩
theorem Grow.done (g : Grow K M H P vs ds) (n : P ∉ M) : Dp K (msk M H) (.ref P) (.list ds) := .lst (.inl (.inl (msk_at g.at' n))) (dpAll_same (msk_less sub_push) g.dp)
theorem Grow.len (g : Grow K M H P vs ds) : vs.length = ds.length := dpAll_len g.dp
theorem Mask.push (h : Mask M H s c) : Mask (P :: M) (upd H P o) s c := ⟨fun p hp => List.mem_cons_of_mem _ (h.sc p hp), fun b hb => by
  rcases List.mem_cons.mp hb with rfl | hb
  · rw [upd_same]; exact fun z => nomatch z
  · exact h.up.tr b hb⟩
theorem Mask.pop (h : Mask (P :: M) H s c) (sc : ∀ p ∈ [s, c], p ∈ M) : Mask M H s c := ⟨sc, fun b hb => h.tr b (List.mem_cons_of_mem _ hb)⟩
theorem mask0 {T : Nat} (S : StAt H s c T) : Mask [s, c] H s c := ⟨fun _ h => h, fun b hb z => by
  simp only [List.mem_cons, List.not_mem_nil, or_false] at hb
  rcases hb with rfl | rfl
  · obtain ⟨t, _, e⟩ := S.ex
    rw [z] at e; cases e
  · obtain ⟨ns, _, _, e⟩ := S.cs
    rw [z] at e; cases e⟩
end
theorem dp_ws {K : PySem.W.Frag} {H : Hp} : ∀ r : List (Option Int), DpAll K H (r.map wV) (r.map wD)
  | [] => .nil
  | w :: r => .cons (dp_w w) (dp_ws r)
/-! ### contents as plain data -/
abbrev Rw := List (Option Int)
def rowD (r : Rw) : PyData := .tuple (r.map wD)
def rowsD (rs : List Rw) : PyData := .list (rs.map rowD)
def contD (ct : List (List Rw)) : PyData := .list (ct.map rowsD)
def keyW : Rw → Int
  | some k :: _ => k
  | _ => 0
/-- a row of so many columns -/
structure RwOk (n : Nat) (r : Rw) : Prop where
  len : r.length = n
  key : ∃ k t, r = some k :: t
structure RwsOk (n : Nat) (rs : List Rw) : Prop where
  row : ∀ r ∈ rs, RwOk n r
  up : (rs.map keyW).Pairwise (· < ·)
structure ContOk (L : Nat) (ts : List Tab) (ct : List (List Rw)) : Prop where
  len : ct.length = ts.length
  rows : ∀ (i : Nat) (t : Tab) (rs : List Rw), ts[i]? = some t → ct[i]? = some rs → RwsOk t.2.length rs
  few : ∀ rs ∈ ct, rs.length ≤ L
theorem RwsOk.snoc {n : Nat} {rs : List Rw} {r : Rw} (h : RwsOk n rs) (hr : RwOk n r) (hk : ∀ x ∈ rs, keyW x < keyW r) : RwsOk n (rs ++ [r]) where
  row := fun x hx => by
    rcases List.mem_append.mp hx with h1 | h1
    · exact h.row x h1
    · rw [List.mem_singleton.mp h1]; exact hr
  up := by
    rw [List.map_append, List.pairwise_append]
    refine ⟨h.up, by simp, fun a ha b hb => ?_⟩
    obtain ⟨x, hx, rfl⟩ := List.mem_map.mp ha
    rw [List.map_singleton] at hb
    rw [List.mem_singleton.mp hb]
    exact hk x hx
section
variable {P : Program} {w : World} {K : PySem.W.Frag} {mg : Str → Option Value} {base : Heap}
def spNear : Sp := fun vs H Q _ => ∃ (s c : Addr) (T m : Nat) (low B : Int), vs = [.ref s, .int low, .int m] ∧ StAt H s c T ∧ T + 5 ≤ 1000000 ∧ 0 < m ∧ m ≤ 1000 ∧ 1000000000 ≤ B ∧ -B ≤ low ∧ low + 2 * m ≤ B ∧
  ∀ (o : Option Int) (H' : Hp), WB B o → StAt H' s c (T + 5) → Kept [s, c] H H' → Q (wV o) H'
abbrev s_law_near : Stmt := topS 47
abbrev N_law_near : List Str := ["state", "low", "many", "way"]
theorem sc_law_near : FnScope N_law_near ["state", "low", "many"] (defScope s_law_near) := ⟨rfl, rfl, rfl, by decide +kernel, rfl, by decide +kernel, by decide +kernel⟩

theorem ok_near {f : Addr} {fd : FuncData} (F : Fun K "_law_near" "_law_near" s_law_near f fd) (nb : NB mg) (D_law_take : Def P w K mg base 1 "_law_take" ["state", "many"] spTake) (D_law_worth : Def P w K mg base 2 "_law_worth" ["state"] spWorth) : FnOk P w K mg base CX0 3 f fd ["state", "low", "many"] spNear := by
  refine F.ok sc_law_near (fun vs H Q E h => ?_) (fun cdv A outer sh H vs Q E hr h => ?_)
  · obtain ⟨s, c, T, m, low, B, rfl, _⟩ := h
    rfl
  · obtain ⟨s, c, T, m, low, B, rfl, S, hT, hm0, hm, hB, hl0, hl1, q⟩ := h
    have nd := sc_law_near.nd
    refine ⟨_, (pss_cons (ps_set (i := 3) nd rfl (Or.inl rfl) (pe_own D_law_take hr (pa_cons (pv 0) (pa_cons pe_int pa_nil))))
      (pss_one (ps_ret (pe_ifExp (pt_cmpR op_eq (pv 3) pe_int (nomark _)) (pe_own D_law_worth hr (pa_cons (pv 0) pa_nil)) (pe_ix ix_list (pe_lst (pa_cons (pe_op op_add (pv 1) (pe_own D_law_take hr (pa_cons (pv 0) (pa_cons (pe_op op_mul pe_int (pv 2)) pa_nil)))) (pa_cons pe_non pa_nil))) (pe_callTy call_int1 (by rfl) nb.b_int (by decide +kernel) (pa_cons (pe_cmpR op_eq (pv 3) pe_int (nomark _)) pa_nil)) (fun _ _ => rfl)))))), ?_⟩
    refine ⟨.ref s, rfl, s, c, T, _, rfl, S, by omega, by decide, by decide, fun way H1 w0 w1 S1 K1 => ?_⟩
    refine ⟨.int way, rfl, rfl, _, rfl, ite2 (fun h1 => ?_) (fun h1 => ?_)⟩
    · refine ⟨.ref s, rfl, s, c, _, rfl, S1, by omega, fun o H2 wo S2 K2 => ?_⟩
      exact q o H2 (wo.mono hB) (S2.mono (by omega)) (K1.trans K2)
    · refine ⟨.int low, rfl, .ref s, rfl, .int m, rfl, _, _, rfl, rfl, .inl ⟨by decide, by decide⟩, s, c, _, _, rfl, S1, by omega, by omega, by omega, fun d H2 d0 d1 S2 K2 => ?_⟩
      refine ⟨_, _, rfl, rfl, (by show 2 ≤ sizeLine; decide), fun p np => ?_⟩
      refine ⟨.int way, rfl, rfl, .inr ⟨_, rfl, ?_⟩⟩
      have S3 := (S2.upd_new (o := .lst [.int (low + d), .non]) np).mono (T' := T + 5) (by omega)
      have K3 : Kept [s, c] H (upd H2 p (.lst [.int (low + d), .non])) := K1.trans (K2.trans (Kept.upd_new np))
      have d1' : d < 2 * (m : Int) := d1
      cases h2 : decide (V.int way = V.int 1) with
      | true => exact ⟨p, _, 1, .non, rfl, rfl, .inl (.inl upd_same), rfl, q none _ trivial S3 K3⟩
      | false => exact ⟨p, _, 0, .int (low + d), rfl, rfl, .inl (.inl upd_same), rfl, q (some (low + d)) _ ⟨by omega, by omega⟩ S3 K3⟩
end
end TT

set_option Elab.async false
set_option linter.all false
set_option maxRecDepth 100000
namespace TT
open PySem PySem.Spec PyProof.Rows L2
structure TabX (K : PySem.W.Frag) (H : Hp) (tp : Addr) (ts : List Tab) (xs : List V) : Prop where
  sq : SqT K H tp xs
  dp : DpAll K H xs (ts.map tabD)
theorem TabX.same {K : PySem.W.Frag} {H H' : Hp} {tp : Addr} {ts : List Tab} {xs : List V} (h : TabX K H tp ts xs) (s : Same H H') : TabX K H' tp ts xs := ⟨sameT s h.sq, dpAll_same s h.dp⟩
theorem TabX.len {K : PySem.W.Frag} {H : Hp} {tp : Addr} {ts : List Tab} {xs : List V} (h : TabX K H tp ts xs) : xs.length = ts.length := by rw [dpAll_len h.dp, List.length_map]
section
variable {P : Program} {w : World} {K : PySem.W.Frag} {mg : Str → Option Value} {base : Heap}
def spContent (K : PySem.W.Frag) : Sp := fun vs H Q _ => ∃ (s c tp : Addr) (T m : Nat) (ts : List Tab), vs = [.ref s, .ref tp, .int m] ∧ StAt H s c T ∧ T + 6000 ≤ 1000000 ∧ 0 < m ∧ m ≤ 10 ∧ Tabs K (msk [s, c] H) tp ts ∧
  ∀ (p : Addr) (ct : List (List Rw)) (H' : Hp), ContOk m ts ct → (∀ rs ∈ ct, ∀ r ∈ rs, -3 ≤ keyW r ∧ keyW r < 1000030) → (∀ rs ∈ ct, ∀ r ∈ rs, ∀ o ∈ r, WOk o) → H p = none → Dp K (msk [s, c] H') (.ref p) (contD ct) → StAt H' s c (T + 6000) → Kept [s, c] H H' → Q (.ref p) H'
abbrev s_law_content : Stmt := topS 46
abbrev N_law_content : List Str := ["state", "tables", "many", "content", "low", "table", "columns", "rows", "key", "others", "column"]
theorem sc_law_content : FnScope N_law_content ["state", "tables", "many"] (defScope s_law_content) := ⟨rfl, rfl, rfl, by decide +kernel, rfl, by decide +kernel, by decide +kernel⟩

set_option maxHeartbeats 4000000 in
theorem ok_content {f : Addr} {fd : FuncData} (F : Fun K "_law_content" "_law_content" s_law_content f fd) (nb : NB mg) (D_law_take : Def P w K mg base 1 "_law_take" ["state", "many"] spTake)
    (D_law_near : Def P w K mg base 3 "_law_near" ["state", "low", "many"] spNear) : FnOk P w K mg base CX0 4 f fd ["state", "tables", "many"] (spContent K) := by
  refine F.ok sc_law_content (fun vs H Q E h => ?_) (fun cdv A outer sh H vs Q E hr h => ?_)
  · obtain ⟨s, c, tp, T, m, ts, rfl, _⟩ := h
    rfl
  · obtain ⟨s, c, tp, T, m, ts, rfl, S, hT, hm0, hm, hTt, q⟩ := h
    have nd := sc_law_content.nd
    have hu := hu_of hr
    refine ⟨_, (pss_cons (ps_asg (pe_tup (pa_cons (pe_lst pa_nil) (pa_cons (pe_ix ix_list (pe_lst (pa_cons pe_int (pa_cons pe_int (pa_cons (pe_un un_neg pe_int) (pa_cons (pe_op op_pow pe_int pe_int) pa_nil))))) (pe_own D_law_take hr (pa_cons (pv 0) (pa_cons pe_int pa_nil))) (fun _ _ => rfl)) pa_nil))) (pg_tup rfl (pgs_cons (pg_name (i := 3) nd rfl (Or.inl rfl)) (pgs_cons (pg_name (i := 4) nd rfl (Or.inr rfl)) pgs_nil))))
      (pss_cons (ps_for PassesOwn.never rfl (pi_tup (pv 1)) (pg_tup rfl (pgs_cons (pg_name (i := 5) nd rfl (Or.inl rfl)) (pgs_cons (pg_name (i := 6) nd rfl (Or.inl rfl)) pgs_nil)))
        (pss_cons (ps_set (i := 7) nd rfl (Or.inl rfl) (pe_lst pa_nil))
        (pss_cons (ps_for PassesOwn.never rfl (pi_range2 (by rfl) nb.b_range (pa_cons (pv 4) (pa_cons (pe_op op_add (pv 4) (pe_op op_mul pe_int (pv 2))) pa_nil))) (pg_name (i := 8) nd rfl (Or.inl rfl))
          (pss_one (ps_if (PW.pt (pw_and (pt_cmpR op_lt (pe_callB call_len_seq (by rfl) nb.b_len (by decide +kernel) (pa_cons (pv 7) pa_nil)) (pv 2) (nomark _)) (pw_and1 (pt_cmpR op_eq (pe_own D_law_take hr (pa_cons (pv 0) (pa_cons pe_int pa_nil))) pe_int (nomark _)))))
            (pss_cons (ps_setLc (i := 9) (own := [("column", 10)]) (g := (gName 10)) (tt := tYes) rfl nd rfl rfl (sw_true rfl rfl rfl (by decide +kernel)) (pi_tup (pe_slice sl_tup (pv 6) (po_some pe_int) po_none)) (blkOk_by (N := N_law_content) (sc := defScope s_law_content) (by decide +kernel)) (fun _ _ _ _ _ => (pg_name (i := 10) nd rfl (Or.inl rfl))) (fun _ _ _ _ _ => pts_nil) (fun _ _ _ _ _ => (pe_own D_law_near hr (pa_cons (pv 0) (pa_cons (pv 4) (pa_cons (pv 2) pa_nil))))))
            (pss_one (ps_expr (pe_bm PySem.F.plainAttrs_list PySem.F.slot_list_append PySem.F.type_list_append mt_append (pv 7) (pa_cons (pe_callTy call_tuple_of (by rfl) nb.b_tuple (by decide +kernel) (pa_cons (pe_op op_cat (pe_lst (pa_cons (pv 8) pa_nil)) (pv 9)) pa_nil)) pa_nil)))))
            pss_nil)))
        (pss_one (ps_expr (pe_bm PySem.F.plainAttrs_list PySem.F.slot_list_append PySem.F.type_list_append mt_append (pv 3) (pa_cons (pv 7) pa_nil)))))))
      (pss_one (ps_ret (pv 3))))), ?_⟩
    have M0 := mask0 S
    obtain ⟨xs, hX⟩ : ∃ xs, TabX K (msk [s, c] H) tp ts xs := by
      obtain ⟨xs, h1, h2, _⟩ := hTt.parts
      exact ⟨xs, h1, h2⟩
    have okt := hTt.ok
    have l0 := hTt.l0
    have l8 := hTt.l8
    -- content, low = ..
    refine ⟨Nat.zero_le _, fun P3 n3 => ?_⟩
    have S1 := S.upd_new (o := .lst []) n3
    have g1 : Grow K [s, c] (upd H P3 (.lst [])) P3 [] [] := .start
    have M1 : Mask [P3, s, c] (upd H P3 (.lst [])) s c := M0.push
    have X1 : TabX K (msk [P3, s, c] (upd H P3 (.lst []))) tp ts xs := hX.same ((msk_new n3).trans (msk_same (Kept.upd_new n3)))
    have o3 : P3 ∉ [s, c] := M0.new n3
    have k1 : Kept [P3, s, c] H (upd H P3 (.lst [])) := Kept.upd_new n3
    generalize upd H P3 (.lst []) = H1 at S1 g1 M1 X1 k1 ⊢
    refine ⟨3, rfl, 10, 6, rfl, rfl, ⟨by decide, by decide, by decide⟩, (by show 4 ≤ sizeLine; decide), fun p1 n1 => ?_⟩
    have e6 : (10 : Int) ^ (6 : Int).toNat = 1000000 := by decide
    have e1 : (upd H1 p1 (.lst [.int 0, .int 1, .int (-3), .int (10 ^ (6 : Int).toNat)])) p1 = some (.lst [.int 0, .int 1, .int (-3), .int (10 ^ (6 : Int).toNat)]) := upd_same
    have S2 := S1.upd_new (o := .lst [.int 0, .int 1, .int (-3), .int (10 ^ (6 : Int).toNat)]) n1
    have k2 : Kept [s, c] H1 (upd H1 p1 (.lst [.int 0, .int 1, .int (-3), .int (10 ^ (6 : Int).toNat)])) := Kept.upd_new n1
    have op1 : p1 ∉ [s, c] := by simp [(S1.nes n1).symm, (S1.nec n1).symm]
    refine ⟨.ref s, rfl, s, c, T, _, rfl, S2, by omega, by decide, by decide, fun d H3 d0 d1 S3 K3 => ?_⟩
    obtain ⟨low, hl0, hl1, hat⟩ : ∃ low : Int, -3 ≤ low ∧ low ≤ 1000000 ∧ atI [V.int 0, V.int 1, V.int (-3), V.int (10 ^ (6 : Int).toNat)] d = some (.int low) := by
      have : d = 0 ∨ d = 1 ∨ d = 2 ∨ d = 3 := by omega
      rcases this with rfl | rfl | rfl | rfl
      · exact ⟨0, by decide, by decide, rfl⟩
      · exact ⟨1, by decide, by decide, rfl⟩
      · exact ⟨-3, by decide, by decide, rfl⟩
      · exact ⟨10 ^ (6 : Int).toNat, by decide, by decide, rfl⟩
    refine ⟨p1, _, _, _, rfl, rfl, .inl (.inl (K3.at e1 op1)), hat, (by show 2 ≤ sizeLine; decide), fun pt nt => ⟨pt, _, rfl, .inl (.inl upd_same), rfl, .ref P3, _, rfl, .int low, _, rfl, rfl, ?_⟩⟩
    have k4 : Kept [s, c] H1 (upd H3 pt (.tup [.ref P3, .int low])) := k2.trans (K3.trans (Kept.upd_new nt))
    have S4 := S3.upd_new (o := .tup [.ref P3, .int low]) nt
    have g4 := g1.kept k4 o3
    have k4' : Kept [P3, s, c] H1 (upd H3 pt (.tup [.ref P3, .int low])) := k4.mono sub_push
    have M4 := M1.kept k4 S4
    have X4 := X1.same (msk_same k4')
    have kk4 := k1.trans k4'
    generalize upd H3 pt (.tup [.ref P3, .int low]) = H4 at k4 S4 g4 k4' M4 X4 kk4 ⊢
    clear k2 K3 S3 S2 e1 g1 k1 k4 k4' X1 M1 S1 hat op1
    -- for table, columns in tables
    refine ⟨.ref tp, rfl, tp, rfl, ⟨_, sameT (msk_sub _ _) X4.sq⟩, ?_⟩
    refine for_tup (K := K) (a := tp) (xs := xs) (fun i σ H' => (∃ y5 y6 y7 y8 y9, σ = [some (.ref s), some (.ref tp), some (.int m), some (.ref P3), some (.int low), y5, y6, y7, y8, y9, none]) ∧
      (∃ (vs : List V) (ct : List (List Rw)), Grow K [s, c] H' P3 vs (ct.map rowsD) ∧ ct.length = i ∧ (∀ (j : Nat) (t : Tab) (rs : List Rw), ts[j]? = some t → ct[j]? = some rs → RwsOk t.2.length rs) ∧ ∀ rs ∈ ct, rs.length ≤ m ∧ ∀ r ∈ rs, (-3 ≤ keyW r ∧ keyW r < 1000030) ∧ ∀ o ∈ r, WOk o) ∧
      StAt H' s c (T + 1 + i * 600) ∧ TabX K (msk [P3, s, c] H') tp ts xs ∧ Mask [P3, s, c] H' s c ∧ Kept [P3, s, c] H H')
      ⟨⟨none, none, none, none, none, rfl⟩, ⟨[], [], g4, rfl, fun j t rs _ h => by simp at h, fun _ h => absurd h List.not_mem_nil⟩, S4.mono (by omega), X4, M4, kk4⟩ (fun i σ H' _ hP => sameT (msk_sub _ _) hP.2.2.2.1.sq) (fun i x σ H5 hx hP => ?_) (fun σ H5 hP => ?_)
    · obtain ⟨⟨y5, y6, y7, y8, y9, rfl⟩, ⟨vs, ct, g5, lct, okc, few⟩, S5, X5, M5, k5⟩ := hP
      obtain ⟨tb, qq, pc, ys, htb, rfl, h1, h2, h3⟩ := tab_at X5.dp hx
      have hi : i < xs.length := (List.getElem?_eq_some_iff.mp hx).1
      have hi8 : i < 8 := by have := X5.len; omega
      obtain ⟨okcol, lcol⟩ := okt.cs tb (List.mem_of_getElem? htb)
      have lc5 := okcol.top
      have ly : ys.length = tb.2.length := by rw [dpAll_len h3, List.length_map]
      refine ⟨qq, _, rfl, sameT (msk_sub _ _) h1, rfl, .str tb.1, _, rfl, .ref pc, _, rfl, rfl, ?_⟩
      -- rows = []
      refine ⟨Nat.zero_le _, fun P7 n7 => ?_⟩
      have S6 := S5.upd_new (o := .lst []) n7
      have o7 : P7 ∉ [P3, s, c] := M5.new n7
      have M6 : Mask [P7, P3, s, c] (upd H5 P7 (.lst [])) s c := M5.push
      have g6 : Grow K [P3, s, c] (upd H5 P7 (.lst [])) P7 [] [] := .start
      have sm6 : Same (msk [P3, s, c] H5) (msk [P7, P3, s, c] (upd H5 P7 (.lst []))) := (msk_new n7).trans (msk_same (Kept.upd_new n7))
      have X6 := X5.same sm6
      have hc6 := sameT sm6 h2
      have k6 : Kept [P7, P3, s, c] H5 (upd H5 P7 (.lst [])) := Kept.upd_new n7
      have e36 : (upd H5 P7 (.lst [])) P3 = some (.lst vs) := by rw [upd_ne (ne_of_none g5.at' n7)]; exact g5.at'
      generalize upd H5 P7 (.lst []) = H6 at S6 M6 g6 sm6 X6 hc6 k6 e36 ⊢
      -- for key in range(low, low + 2 * many)
      refine ⟨.int low, rfl, .int low, rfl, .int m, rfl, _, _, rfl, rfl, .inl ⟨by decide, by decide⟩, _, _, rfl, rfl, low, _, rfl, ⟨by omega, by omega, by show _ ≤ low + 2 * (m : Int); omega, by show low + 2 * (m : Int) < _; omega⟩, ?_⟩
      have en : (low + 2 * (m : Int) - low).toNat = 2 * m := by omega
      show ∃ W : Nat → Nat → L2.St → Hp → Prop, _
      rw [en]
      refine for_range (lo := low) (n := 2 * m) (fun k σ H' => (∃ y8 y9, σ = [some (.ref s), some (.ref tp), some (.int m), some (.ref P3), some (.int low), some (.str tb.1), some (.ref pc), some (.ref P7), y8, y9, none]) ∧
        (∃ (us : List V) (rs : List Rw), Grow K [P3, s, c] H' P7 us (rs.map rowD) ∧ RwsOk tb.2.length rs ∧ rs.length ≤ m ∧ ∀ r ∈ rs, (low ≤ keyW r ∧ keyW r < low + k) ∧ ∀ o ∈ r, WOk o) ∧
        StAt H' s c (T + 1 + i * 600 + k * 26) ∧ TabX K (msk [P7, P3, s, c] H') tp ts xs ∧ SqT K (msk [P7, P3, s, c] H') pc ys ∧ Mask [P7, P3, s, c] H' s c ∧ H' P3 = some (.lst vs) ∧ Kept [P7, P3, s, c] H5 H')
        ⟨⟨y8, y9, rfl⟩, ⟨[], [], g6, ⟨fun _ h => absurd h List.not_mem_nil, .nil⟩, Nat.zero_le _, fun _ h => absurd h List.not_mem_nil⟩, S6.mono (by omega), X6, hc6, M6, e36, k6⟩ (fun k σ H7 hk hP => ?_) (fun σ H7 hP => ?_)
      · obtain ⟨⟨y8, y9, rfl⟩, ⟨us, rs, g7, okr, lrs, kup⟩, S7, X7, hc7, M7, e37, k7⟩ := hP
        have lus : us.length = rs.length := by rw [g7.len, List.length_map]
        -- len(rows) < many
        refine ⟨.ref P7, rfl, P7, us, rfl, .inl (.inl (.inl g7.at')), .int m, rfl, _, _, rfl, rfl, _, rfl, ite2 (fun hb1 => ?_) (fun hb1 => ?_)⟩
        · have hb1 : (us.length : Int) < (m : Int) := of_decide_eq_true hb1
          refine ⟨.ref s, rfl, s, c, _, _, rfl, S7, by omega, by decide, by decide, fun d H8 d0 d1 S8 K8 => ?_⟩
          have M8 := M7.kept K8 S8
          have K8' : Kept [P7, P3, s, c] H7 H8 := K8.mono M7.sc
          have g8 := g7.kept (K8.mono M5.sc) o7
          have X8 := X7.same (msk_same K8')
          have hc8 := sameT (msk_same K8') hc7
          have e38 := K8.at e37 o3
          have k8 := k7.trans K8'
          refine ⟨rfl, _, rfl, ite2 (fun hb2 => ?_) (fun hb2 => ?_)⟩
          · -- others = [near(..) for column in columns[1:]]
            refine ⟨.ref pc, rfl, 1, rfl, pc, ys, rfl, sameT (msk_sub _ _) hc8, ?_, fun p9 n9 => ?_⟩
            · intro z
              have z1 := z.1
              rw [show ((1 : Int)) = ((1 : Nat) : Int) from rfl, HT.sIx_nat] at z1
              omega
            rw [show cutV ys (some 1) none = ys.drop 1 from cutV_hi ys 1]
            have S9 := S8.upd_new (o := .tup (ys.drop 1)) n9
            have e9 : (upd H8 p9 (.tup (ys.drop 1))) p9 = some (.tup (ys.drop 1)) := upd_same
            have k9 : Kept [s, c] H8 (upd H8 p9 (.tup (ys.drop 1))) := Kept.upd_new n9
            generalize upd H8 p9 (.tup (ys.drop 1)) = H9 at S9 e9 k9 ⊢
            refine ⟨p9, rfl, ⟨_, .inl (.inl e9)⟩, fun D nD => ?_⟩
            have o9 : p9 ∉ [D, s, c] := by
              intro z
              simp only [List.mem_cons, List.not_mem_nil, or_false] at z
              rcases z with rfl | rfl | rfl
              · rw [nD] at e9; cases e9
              · obtain ⟨t, _, e⟩ := S9.ex
                rw [e9] at e; cases e
              · obtain ⟨ns, _, _, e⟩ := S9.cs
                rw [e9] at e; cases e
            have ld : (ys.drop 1).length = tb.2.length - 1 := by rw [List.length_drop, ly]
            have oD : D ∉ [s, c] := by simp [(S9.nes nD).symm, (S9.nec nD).symm]
            refine lc_it (walk_tup (xs := ys.drop 1)) (fun j H' => (∃ ws : Rw, H' D = some (.lst (ws.map wV)) ∧ ws.length = j ∧ ∀ o ∈ ws, WOk o) ∧ StAt H' s c (T + 1 + i * 600 + k * 26 + 1 + j * 5) ∧ Kept [D, s, c] H9 H')
              ⟨⟨[], upd_same, rfl, fun _ h => absurd h List.not_mem_nil⟩, S9.upd_new nD, Kept.upd_new nD⟩ (fun j H' _ hP => .inl (.inl (hP.2.2.at e9 o9))) (fun j x H' H'' hj hP hY => ?_) (fun H10 hP => ?_)
            · obtain ⟨rfl, hx⟩ := hY
              obtain ⟨⟨ws, eD, lws, okw⟩, SS, kk⟩ := hP
              refine ⟨rfl, ?_⟩
              unfold tYes
              dsimp only
              refine iteT ?_
              refine ⟨.ref s, rfl, .int low, rfl, .int m, rfl, s, c, _, m, low, 1000000000, rfl, SS, by omega, hm0, by omega, by decide, by omega, by omega, fun o H12 wo S12 K12 => ?_⟩
              have eD2 := K12.at eD oD
              refine ⟨_, eD2, by rw [List.length_map, lws]; exact small1000 (by omega), ⟨ws ++ [o], by rw [upd_same, List.map_append]; rfl, by rw [List.length_append, lws]; rfl, fun z hz => ?_⟩, (S12.upd ?_ ?_).mono (by omega), kk.trans ((K12.mono sub_push).trans (Kept.upd_in (List.mem_cons_self ..)))⟩
              · rcases List.mem_append.mp hz with h | h
                · exact okw z h
                · rw [List.mem_singleton.mp h]; exact wo
              · exact S9.nes nD
              · exact S9.nec nD
            · obtain ⟨⟨ws, eD, lws, okw⟩, SS, kk⟩ := hP
              have kD : Kept [s, c] H9 H10 := kk.new nD
              have k10 : Kept [s, c] H8 H10 := k9.trans kD
              have M10 := M8.kept k10 SS
              have k10' : Kept [P7, P3, s, c] H8 H10 := k10.mono M7.sc
              have g10 := g8.kept (k10.mono M5.sc) o7
              have X10 := X8.same (msk_same k10')
              have hc10 := sameT (msk_same k10') hc8
              have e310 := k10.at e38 o3
              have kk10 := k8.trans k10'
              have n7D : P7 ≠ D := fun z => by
                have h1 := k9.at g8.at' (fun h => o7 (M5.sc _ h))
                rw [z, nD] at h1; cases h1
              clear k9 S9 e9 o9 kk n9 g8 X8 hc8 k8 k10 k10' kD K8 K8'
              -- rows.append(tuple([key] + others))
              refine ⟨.ref P7, rfl, .inl ⟨rfl, _, .inl (.inl g10.at')⟩, .int (low + k), rfl, (by show 1 ≤ sizeLine; decide), fun q1 nq1 => ?_⟩
              have nD1 : D ≠ q1 := ne_of_none eD nq1
              refine ⟨.ref D, rfl, q1, D, _, _, rfl, rfl, upd_same, (by rw [upd_ne nD1]; exact eD), Nat.le_of_lt (small1000 (by rw [List.length_map, lws]; show 1 + _ ≤ 1000; omega)), fun q2 nq2 => ?_⟩
              refine ⟨q2, _, rfl, .inl ⟨.inl (.inl upd_same), fun t nt => ?_⟩⟩
              have Sx := ((SS.upd_new (o := .lst [.int (low + k)]) nq1).upd_new (o := .lst ([.int (low + k)] ++ ws.map wV)) nq2).upd_new (o := .tup ([.int (low + k)] ++ ws.map wV)) nt
              have kx : Kept [s, c] H10 (upd (upd (upd H10 q1 (.lst [.int (low + k)])) q2 (.lst ([.int (low + k)] ++ ws.map wV))) t (.tup ([.int (low + k)] ++ ws.map wV))) := (Kept.upd_new nq1).trans ((Kept.upd_new nq2).trans (Kept.upd_new nt))
              have Mx := M10.kept kx Sx
              have kx' : Kept [P7, P3, s, c] H10 _ := kx.mono M7.sc
              have gx := g10.kept (kx.mono M5.sc) o7
              have Xx := X10.same (msk_same kx')
              have hcx := sameT (msk_same kx') hc10
              have e3x := kx.at e310 o3
              have kkx := kk10.trans kx'
              have Mt : Mask [P7, P3, s, c] (upd (upd H10 q1 (.lst [.int (low + k)])) q2 (.lst ([.int (low + k)] ++ ws.map wV))) s c := M10.up.up
              have ot : t ∉ [P7, P3, s, c] := Mt.new nt
              have et : (upd (upd (upd H10 q1 (.lst [.int (low + k)])) q2 (.lst ([.int (low + k)] ++ ws.map wV))) t (.tup ([.int (low + k)] ++ ws.map wV))) t = some (.tup ([.int (low + k)] ++ ws.map wV)) := upd_same
              generalize upd (upd (upd H10 q1 (.lst [.int (low + k)])) q2 (.lst ([.int (low + k)] ++ ws.map wV))) t (.tup ([.int (low + k)] ++ ws.map wV)) = Hx at Sx kx Mx kx' gx Xx hcx e3x kkx et ⊢
              have ns7 : s ≠ P7 := fun z => o7 (by rw [← z]; simp)
              have nc7 : c ≠ P7 := fun z => o7 (by rw [← z]; simp)
              have n37 : P3 ≠ P7 := fun z => o7 (by rw [← z]; simp)
              have ki : Kept [P7, P3, s, c] Hx (upd Hx P7 (.lst (us ++ [.ref t]))) := Kept.upd_in (List.mem_cons_self ..)
              have lr1 : (some (low + (k : Int)) :: ws).length = tb.2.length := by rw [List.length_cons, lws, ld]; omega
              have okr1 : RwOk tb.2.length (some (low + (k : Int)) :: ws) := ⟨lr1, ⟨_, _, rfl⟩⟩
              refine ⟨P7, us, _, rfl, rfl, gx.at', small1000 (by rw [lus]; omega), ⟨_, _, rfl⟩, ⟨_, rs ++ [some (low + (k : Int)) :: ws], by rw [List.map_append]; exact gx.put (.tup (.inl (.inl (msk_at et ot))) (dp_ws (some (low + (k : Int)) :: ws))), okr.snoc okr1 (fun r hr => (kup r hr).1.2), ?_, fun r hr => ?_⟩, (Sx.upd ns7 nc7).mono (by omega), Xx.same (msk_same ki), sameT (msk_same ki) hcx, Mx.up, by rw [upd_ne n37]; exact e3x, kkx.trans ki⟩
              · rw [List.length_append]; show rs.length + 1 ≤ m; omega
              · rcases List.mem_append.mp hr with h | h
                · exact ⟨by have := (kup r h).1; omega, (kup r h).2⟩
                · rw [List.mem_singleton.mp h]
                  refine ⟨by show low ≤ low + (k : Int) ∧ low + (k : Int) < _; omega, fun o ho => ?_⟩
                  rcases List.mem_cons.mp ho with rfl | ho
                  · exact ⟨by omega, by omega⟩
                  · exact okw o ho
          · exact ⟨⟨_, _, rfl⟩, ⟨us, rs, g8, okr, lrs, fun r hr => ⟨by have := (kup r hr).1; omega, (kup r hr).2⟩⟩, S8.mono (by omega), X8, hc8, M8, e38, k8⟩
        · refine iteF ?_
          exact ⟨⟨_, _, rfl⟩, ⟨us, rs, g7, okr, lrs, fun r hr => ⟨by have := (kup r hr).1; omega, (kup r hr).2⟩⟩, S7.mono (by omega), X7, hc7, M7, e37, k7⟩
      · obtain ⟨⟨y8, y9, rfl⟩, ⟨us, rs, g7, okr, lrs, kup⟩, S7, X7, hc7, M7, e37, k7⟩ := hP
        -- content.append(rows)
        have lvs : vs.length = i := by rw [g5.len, List.length_map, lct]
        have kn : Kept [P3, s, c] H5 H7 := k7.new n7
        have ns3 : s ≠ P3 := fun z => o3 (by rw [← z]; simp)
        have nc3 : c ≠ P3 := fun z => o3 (by rw [← z]; simp)
        have ki : Kept [P3, s, c] H7 (upd H7 P3 (.lst (vs ++ [.ref P7]))) := Kept.upd_in (List.mem_cons_self ..)
        have M7' : Mask [P3, s, c] H7 s c := M7.pop M5.sc
        have g7' : Grow K [s, c] H7 P3 vs (ct.map rowsD) := ⟨e37, dpAll_same (msk_same kn) g5.dp⟩
        refine ⟨.ref P3, rfl, .inl ⟨rfl, _, .inl (.inl e37)⟩, .ref P7, rfl, P3, vs, _, rfl, rfl, e37, small1000 (by omega), ⟨_, _, _, _, _, rfl⟩, ⟨_, ct ++ [rs], by rw [List.map_append]; exact g7'.put (g7.done o7), by rw [List.length_append, lct]; rfl, fun j t r hj hr => ?_, fun r hr => ?_⟩, (S7.upd ns3 nc3).mono (by omega), (X5.same (msk_same (kn.trans ki))), M7'.up, k5.trans (kn.trans ki)⟩
        · by_cases hji : j < ct.length
          · rw [List.getElem?_append_left hji] at hr
            exact okc j t r hj hr
          · have hl := (List.getElem?_eq_some_iff.mp hr).1
            rw [List.length_append] at hl
            have : j = i := by simp at hl; omega
            subst this
            rw [htb] at hj
            cases hj
            rw [List.getElem?_append_right (by omega), lct, Nat.sub_self] at hr
            cases hr
            exact okr
        · rcases List.mem_append.mp hr with h | h
          · exact few r h
          · rw [List.mem_singleton.mp h]; exact ⟨lrs, fun r hr => ⟨by have := (kup r hr).1; omega, (kup r hr).2⟩⟩
    · obtain ⟨⟨y5, y6, y7, y8, y9, rfl⟩, ⟨vs, ct, g5, lct, okc, few⟩, S5, X5, M5, k5⟩ := hP
      have lx := X5.len
      refine ⟨.ref P3, rfl, ?_⟩
      exact q P3 ct H5 ⟨by omega, okc, fun rs h => (few rs h).1⟩ (fun rs h r hr => ((few rs h).2 r hr).1) (fun rs h r hr => ((few rs h).2 r hr).2) n3 (g5.done o3) (S5.mono (by omega)) (k5.new n3)
end
end TT

set_option Elab.async false
set_option linter.all false
set_option maxRecDepth 100000
namespace TT
open PySem PySem.Spec PyProof.Rows L2
/-! ### sizes of tables and of contents -/
theorem name_nice {z : Str} (h : NameOk z) (B L : Nat) : Nice B L (.str z) ∧ wt (.str z) ≤ 92 := by
  have l : z.length ≤ 8 := h.top
  exact ⟨fun c hc => by have := h.low c hc; unfold low at this; omega, by show 10 * z.length + 12 ≤ 92; omega⟩
theorem w_nice : ∀ {o : Option Int}, WOk o → Nice 1000000000 8 (wD o) ∧ wt (wD o) ≤ 25 ∧ (wD o).depth = 0
  | none, _ => ⟨trivial, by show 4 ≤ 25; decide, rfl⟩
  | some i, h => ⟨by show i.natAbs ≤ 1000000000; have h' : -1000000000 ≤ i ∧ i ≤ 1000000000 := h; omega, Nat.le_refl _, rfl⟩
theorem col_nice {x : Col} (h1 : NameOk x.1) (h2 : WOk x.2) : Nice 1000000000 8 (colD x) ∧ wt (colD x) ≤ 129 ∧ (colD x).depth ≤ 1 := by
  obtain ⟨a1, a2⟩ := name_nice h1 1000000000 8
  obtain ⟨b1, b2, b3⟩ := w_nice h2
  refine ⟨⟨by show 2 ≤ 8; decide, a1, b1, trivial⟩, ?_, ?_⟩
  · show 6 + (wt (.str x.1) + 3 + (wt (wD x.2) + 3 + 0)) ≤ 129
    omega
  · show max 0 (max (wD x.2).depth 0) + 1 ≤ 1
    rw [b3]; decide
theorem sum_le {α : Type} {f : α → PyData} {n : Nat} : ∀ {l : List α}, (∀ x ∈ l, wt (f x) ≤ n) → wtAll (l.map f) ≤ l.length * (n + 3)
  | [], _ => Nat.zero_le _
  | x :: l, h => by
    have h1 := h x (List.mem_cons_self ..)
    have h2 := sum_le fun y hy => h y (List.mem_cons_of_mem x hy)
    show wt (f x) + 3 + wtAll (l.map f) ≤ (l.length + 1) * (n + 3)
    rw [Nat.add_mul]
    omega
theorem all_nice {α : Type} {f : α → PyData} {B L : Nat} {l : List α} (h : ∀ x ∈ l, Nice B L (f x)) : NiceAll B L (l.map f) := niceAll_iff.mpr fun d hd => by
  obtain ⟨x, hx, rfl⟩ := List.mem_map.mp hd
  exact h x hx
theorem all_depth {α : Type} {f : α → PyData} {n : Nat} {l : List α} (h : ∀ x ∈ l, (f x).depth ≤ n) : PyData.depthAll (l.map f) ≤ n := depthAll_le fun d hd => by
  obtain ⟨x, hx, rfl⟩ := List.mem_map.mp hd
  exact h x hx
theorem tab_nice {n : Nat} {x : Tab} (hn : n ≤ 8) (h1 : NameOk x.1) (h2 : ColsOk n x.2) : Nice 1000000000 8 (tabD x) ∧ wt (tabD x) ≤ 1166 ∧ (tabD x).depth ≤ 3 := by
  obtain ⟨a1, a2⟩ := name_nice h1 1000000000 8
  have cn := fun y hy => col_nice (h2.nm y hy) (h2.w y hy)
  have l8 : x.2.length ≤ 8 := Nat.le_trans h2.top hn
  have ws := sum_le (f := colD) (n := 129) fun y hy => (cn y hy).2.1
  refine ⟨⟨by show 2 ≤ 8; decide, a1, ⟨by rw [List.length_map]; exact l8, all_nice fun y hy => (cn y hy).1⟩, trivial⟩, ?_, ?_⟩
  · show 6 + (wt (.str x.1) + 3 + ((6 + wtAll (x.2.map colD)) + 3 + 0)) ≤ 1166
    have : x.2.length * (129 + 3) ≤ 8 * 132 := Nat.mul_le_mul_right _ l8
    omega
  · have := all_depth (f := colD) (n := 1) fun y hy => (cn y hy).2.2
    show max 0 (max (PyData.depthAll (x.2.map colD) + 1) 0) + 1 ≤ 3
    omega
theorem tabs_nice {n : Nat} {ts : List Tab} (hn : n ≤ 8) (hl : ts.length ≤ 8) (h : TabsOk n ts) : Nice 1000000000 8 (.tuple (ts.map tabD)) ∧ wt (.tuple (ts.map tabD)) ≤ 10000 ∧ (PyData.tuple (ts.map tabD)).depth ≤ 4 := by
  have tn := fun y hy => tab_nice hn (h.nm y hy) (h.cs y hy).1
  have ws := sum_le (f := tabD) (n := 1166) fun y hy => (tn y hy).2.1
  refine ⟨⟨by rw [List.length_map]; exact hl, all_nice fun y hy => (tn y hy).1⟩, ?_, ?_⟩
  · show 6 + wtAll (ts.map tabD) ≤ 10000
    have : ts.length * (1166 + 3) ≤ 8 * 1169 := Nat.mul_le_mul_right _ hl
    omega
  · have := all_depth (f := tabD) (n := 3) fun y hy => (tn y hy).2.2
    show PyData.depthAll (ts.map tabD) + 1 ≤ 4
    omega

theorem wtAll_le {n : Nat} : ∀ {l : List PyData}, (∀ x ∈ l, wt x ≤ n) → wtAll l ≤ l.length * (n + 3)
  | [], _ => Nat.zero_le _
  | x :: l, h => by
    have h1 := h x (List.mem_cons_self ..)
    have h2 := wtAll_le fun y hy => h y (List.mem_cons_of_mem x hy)
    show wt x + 3 + wtAll l ≤ (l.length + 1) * (n + 3)
    rw [Nat.add_mul]
    omega
theorem wtAll_sum {α : Type} {f : α → PyData} {g : α → Nat} : ∀ {l : List α}, (∀ x ∈ l, wt (f x) ≤ g x) → wtAll (l.map f) ≤ (l.map g).sum + l.length * 3
  | [], _ => Nat.zero_le _
  | x :: l, h => by
    have h1 := h x (List.mem_cons_self ..)
    have h2 := wtAll_sum fun y hy => h y (List.mem_cons_of_mem x hy)
    show wt (f x) + 3 + wtAll (l.map f) ≤ (g x + (l.map g).sum) + (l.length + 1) * 3
    omega
theorem sum_lin {α : Type} (f : α → Nat) (a b : Nat) : ∀ l : List α, (l.map fun x => a + f x * b).sum = l.length * a + (l.map f).sum * b
  | [] => by simp
  | x :: l => by
    rw [List.map_cons, List.sum_cons, sum_lin f a b l, List.map_cons, List.sum_cons, List.length_cons, Nat.add_mul, Nat.add_mul]
    omega
theorem mem_sum : ∀ {l : List Nat} {n : Nat}, n ∈ l → n ≤ l.sum
  | a :: l, n, h => by
    rw [List.sum_cons]
    rcases List.mem_cons.mp h with rfl | h
    · omega
    · have := mem_sum h; omega
theorem shows_more {B L : Nat} {d : PyData} (h : Nice B L d) (hB : B ≤ 10 ^ 20) (hd : d.depth ≤ 60) (hw : wt d ≤ 1000000) : Shows d :=
  ⟨(showable_nice hB h).1, (showable_nice hB h).2, hd, Nat.le_trans (shown_len hB h) (Nat.le_trans hw (by decide))⟩
theorem tabs_all {K : PySem.W.Frag} {H : Hp} {tp : Addr} {ts : List Tab} (h : Tabs K H tp ts) : Nice 1000000000 8 (.tuple (ts.map tabD)) ∧ wt (.tuple (ts.map tabD)) ≤ 10000 ∧ (PyData.tuple (ts.map tabD)).depth ≤ 4 := tabs_nice (by decide) h.l8 h.ok
end TT

set_option Elab.async false
set_option linter.all false
set_option maxRecDepth 100000
namespace TT
open PySem PySem.Spec PyProof.Rows L2
theorem tns_ok {ts : List Tab} (h : TabsOk 5 ts) : ∀ z ∈ tns ts, NameOk z := fun z hz => by
  obtain ⟨x, hx, rfl⟩ := List.mem_map.mp hz
  exact h.nm x hx
theorem cns_ok {ts : List Tab} (h : TabsOk 5 ts) {t : Str} (ht : t ∈ tns ts) : (∀ z ∈ cns ts t, NameOk z) ∧ 0 < (cns ts t).length ∧ (cns ts t).length ≤ 5 ∧ (cns ts t).Nodup := by
  obtain ⟨x, hx, rfl, e⟩ := tab_of h.nd ht
  unfold cns
  rw [e]
  obtain ⟨c, l⟩ := h.cs x hx
  refine ⟨fun z hz => ?_, by rw [List.length_map]; exact l, by rw [List.length_map]; exact c.top, c.nd⟩
  obtain ⟨y, hy, rfl⟩ := List.mem_map.mp hz
  exact c.nm y hy
theorem inS_str {zs : List Str} {d : PyData} (h : inS zs d = true) : ∃ z, d = .str z ∧ z ∈ zs := by
  cases d with
  | str z => exact ⟨z, rfl, of_decide_eq_true h⟩
  | _ => cases h
/-- the names of the tables as they are told by table_names -/
theorem namesOf_tabs (ts : List Tab) : namesOf (ts.map tabD) = tns ts := by
  unfold namesOf
  rw [List.map_map]
  rfl
theorem strName_tabs (ts : List Tab) : (ts.map tabD).all strName = true := List.all_eq_true.mpr fun d hd => by
  obtain ⟨x, _, rfl⟩ := List.mem_map.mp hd
  rfl
theorem u65 {k : Nat} {A : Around} (r : Room k A) : A.units + 65 < cLine := by have := r.un; omega
section
variable {P : Program} {w : World} {K : PySem.W.Frag} {mg : Str → Option Value} {base : Heap}
/-- names of what is told to be pairs, by a comprehension with two targets -/
def spNamesOf (K : PySem.W.Frag) : Sp := fun vs H Q _ => ∃ (p : Addr) (xs : List V) (ds : List PyData), vs = [.ref p] ∧ SqT K H p xs ∧ DpAll K H xs ds ∧ ds.length ≤ 900 ∧ ds.all strName = true ∧
  ∀ (D : Addr) (H' : Hp), Same H H' → H' D = some (.lst ((namesOf ds).map V.str)) → Q (.ref D) H'
abbrev s_table_names : Stmt := topS 13
abbrev N_table_names : List Str := ["tables", "table", "_"]
theorem sc_table_names : FnScope N_table_names ["tables"] (defScope s_table_names) := ⟨rfl, rfl, rfl, by decide +kernel, rfl, by decide +kernel, by decide +kernel⟩

theorem ok_table_names {f : Addr} {fd : FuncData} (F : Fun K "table_names" "table_names" s_table_names f fd) : FnOk P w K mg base CX0 1 f fd ["tables"] (spNamesOf K) := by
  refine F.ok sc_table_names (fun vs H Q E h => ?_) (fun cdv A outer sh H vs Q E hr h => ?_)
  · obtain ⟨p, xs, ds, rfl, _⟩ := h
    rfl
  obtain ⟨p, xs, ds, rfl, hS, hA, hl, hn, q⟩ := h
  have nd := sc_table_names.nd
  refine ⟨_, (pss_one (ps_ret (pe_lc (own := [("table", 1), ("_", 2)]) (g := (gTup _ 2 (gCons (gName 1) (gCons (gName 2) gNil)))) (tt := tYes) rfl nd (pi_tup (pv 0)) (blkOk_by (N := N_table_names) (sc := defScope s_table_names) (by decide +kernel)) (fun _ _ _ _ _ => (pg_tup rfl (pgs_cons (pg_name (i := 1) nd rfl (Or.inl rfl)) (pgs_cons (pg_name (i := 2) nd rfl (Or.inl rfl)) pgs_nil)))) (fun _ _ _ _ _ => pts_nil) (fun _ _ _ _ _ => (pv 1))))), ?_⟩
  have l := dpAll_len hA
  refine ⟨.ref p, rfl, p, rfl, ⟨_, hS⟩, fun D nD => ?_⟩
  refine lc_it walk_tup (PvM H D fun i => .str (strOf (fstD (ds.getD i .none)))) (pvm_start ..) (fun i H2 _ hP => sameT (pvm_same hP nD) hS) (fun i x H2 H3 hi hP hY => ?_) (fun H2 hP => ?_)
  · obtain ⟨rfl, hx⟩ := hY
    have sm := pvm_same hP nD
    obtain ⟨d, h1, h2⟩ := dpAll_get i hA hx
    have hd := List.all_eq_true.mp hn d (List.mem_of_getElem? h1)
    unfold strName at hd
    rw [Bool.and_eq_true] at hd
    obtain ⟨pt, x1, y1, a, b, rfl, rfl, hT, ha, hb⟩ := tup2 h2 hd.1
    obtain ⟨z, rfl, rfl⟩ : ∃ z, a = .str z ∧ x1 = .str z := by
      have h3 : isSB a = true := hd.2
      cases ha <;> first | exact ⟨_, rfl, rfl⟩ | cases h3
    refine ⟨pt, _, rfl, sameT sm hT, rfl, .str z, _, rfl, y1, _, rfl, rfl, ?_⟩
    refine ⟨rfl, ?_⟩
    unfold tYes
    dsimp only
    refine iteT ?_
    refine ⟨.str z, rfl, pvm_step hP (Same.refl _) ?_ (by omega)⟩
    show V.str z = .str (strOf (fstD (ds.getD i .none)))
    rw [List.getD_eq_getElem?_getD, h1]
    rfl
  · refine q D H2 (pvm_same hP nD) ?_
    rw [hP.1, l]
    unfold namesOf
    rw [List.map_map]
    have e := range_map (fun d => V.str (strOf (fstD d))) .none ds
    rw [e]
    rfl
def spColumnsOf (K : PySem.W.Frag) : Sp := fun vs H Q _ => ∃ (tp : Addr) (ts : List Tab) (t : Str), vs = [.ref tp, .str t] ∧ Tabs K H tp ts ∧ t ∈ tns ts ∧ ∀ (pc : Addr) (ys : List V), SqT K H pc ys → DpAll K H ys ((colsOf ts t).map colD) → Q (.ref pc) H
abbrev s_columns_of : Stmt := topS 16
abbrev N_columns_of : List Str := ["tables", "table", "name", "columns"]
theorem sc_columns_of : FnScope N_columns_of ["tables", "table"] (defScope s_columns_of) := ⟨rfl, rfl, rfl, by decide +kernel, rfl, by decide +kernel, by decide +kernel⟩

theorem ok_columns_of {f : Addr} {fd : FuncData} (F : Fun K "_columns_of" "_columns_of" s_columns_of f fd) : FnOk P w K mg base CX0 1 f fd ["tables", "table"] (spColumnsOf K) := by
  refine F.ok sc_columns_of (fun vs H Q E h => ?_) (fun cdv A outer sh H vs Q E hr h => ?_)
  · obtain ⟨tp, ts, t, rfl, _⟩ := h
    rfl
  obtain ⟨tp, ts, t, rfl, hT, ht, q⟩ := h
  have nd := sc_columns_of.nd
  refine ⟨_, (pss_cons (ps_for PassesOwn.never rfl (pi_tup (pv 0)) (pg_tup rfl (pgs_cons (pg_name (i := 2) nd rfl (Or.inl rfl)) (pgs_cons (pg_name (i := 3) nd rfl (Or.inl rfl)) pgs_nil)))
        (pss_one (ps_if (pt_cmpR op_eq (pv 2) (pv 1) (nomark _))
          (pss_one (ps_ret (pv 3)))
          pss_nil)))
      (pss_one ps_nv)), ?_⟩
  obtain ⟨xs, hS, hA, l⟩ := hT.parts
  refine ⟨.ref tp, rfl, tp, rfl, ⟨_, hS⟩, ?_⟩
  refine for_tup (K := K) (a := tp) (xs := xs) (fun i σ H' => (∃ y2 y3, σ = [some (.ref tp), some (.str t), y2, y3]) ∧ H' = H ∧ t ∉ (tns ts).take i) ⟨⟨none, none, rfl⟩, rfl, by simp⟩ (fun i σ H' _ hP => by rw [hP.2.1]; exact hS) (fun i x σ H' hx hP => ?_) (fun σ H' hP => ?_)
  · obtain ⟨⟨y2, y3, rfl⟩, rfl, hn⟩ := hP
    obtain ⟨tb, qq, pc, ys, htb, rfl, h1, h2, h3⟩ := tab_at hA hx
    refine ⟨qq, _, rfl, h1, rfl, .str tb.1, _, rfl, .ref pc, _, rfl, rfl, ?_⟩
    refine ⟨.str tb.1, rfl, .str t, rfl, rfl, _, rfl, ite2 (fun e => ?_) (fun e => ?_)⟩
    · obtain rfl : tb.1 = t := V.str.inj (of_decide_eq_true e)
      refine ⟨.ref pc, rfl, q pc ys h2 ?_⟩
      rw [colsOf_mem hT.ok.nd (List.mem_of_getElem? htb)]
      exact h3
    · refine ⟨⟨_, _, rfl⟩, rfl, fun z => ?_⟩
      rw [List.take_add_one, List.getElem?_map, htb] at z
      rcases List.mem_append.mp z with z | z
      · exact hn z
      · have : t = tb.1 := by simpa using z
        exact e (decide_eq_true (by rw [this]))
  · obtain ⟨_, _, hn⟩ := hP
    rw [l, ← tns_len, List.take_length] at hn
    exact hn ht
/-- a list of the names of a table's columns -/
def spColNames (K : PySem.W.Frag) : Sp := fun vs H Q _ => ∃ (tp : Addr) (ts : List Tab) (t : Str), vs = [.ref tp, .str t] ∧ Tabs K H tp ts ∧ t ∈ tns ts ∧ ∀ (D : Addr) (H' : Hp), Same H H' → H' D = some (.lst ((cns ts t).map V.str)) → Q (.ref D) H'
abbrev s_column_names : Stmt := topS 15
abbrev N_column_names : List Str := ["tables", "table", "column", "_"]
theorem sc_column_names : FnScope N_column_names ["tables", "table"] (defScope s_column_names) := ⟨rfl, rfl, rfl, by decide +kernel, rfl, by decide +kernel, by decide +kernel⟩

theorem ok_column_names {f : Addr} {fd : FuncData} (F : Fun K "column_names" "column_names" s_column_names f fd) (D_columns_of : Def P w K mg base 1 "_columns_of" ["tables", "table"] (spColumnsOf K)) : FnOk P w K mg base CX0 2 f fd ["tables", "table"] (spColNames K) := by
  refine F.ok sc_column_names (fun vs H Q E h => ?_) (fun cdv A outer sh H vs Q E hr h => ?_)
  · obtain ⟨tp, ts, t, rfl, _⟩ := h
    rfl
  obtain ⟨tp, ts, t, rfl, hT, ht, q⟩ := h
  have nd := sc_column_names.nd
  refine ⟨_, (pss_one (ps_ret (pe_lc (own := [("column", 2), ("_", 3)]) (g := (gTup _ 2 (gCons (gName 2) (gCons (gName 3) gNil)))) (tt := tYes) rfl nd (pi_tup (pe_own D_columns_of hr (pa_cons (pv 0) (pa_cons (pv 1) pa_nil)))) (blkOk_by (N := N_column_names) (sc := defScope s_column_names) (by decide +kernel)) (fun _ _ _ _ _ => (pg_tup rfl (pgs_cons (pg_name (i := 2) nd rfl (Or.inl rfl)) (pgs_cons (pg_name (i := 3) nd rfl (Or.inl rfl)) pgs_nil)))) (fun _ _ _ _ _ => pts_nil) (fun _ _ _ _ _ => (pv 2))))), ?_⟩
  refine ⟨.ref tp, rfl, .str t, rfl, tp, ts, t, rfl, hT, ht, fun pc ys hS hA => ⟨pc, rfl, ⟨_, hS⟩, fun D nD => ?_⟩⟩
  have l : ys.length = (cns ts t).length := by rw [dpAll_len hA, List.length_map, List.length_map]
  have l8 : (cns ts t).length ≤ 5 := by
    obtain ⟨x, hx, _, e⟩ := tab_of hT.ok.nd ht
    unfold cns
    rw [e, List.length_map]
    exact (hT.ok.cs x hx).1.top
  refine lc_it walk_tup (PvM H D fun i => .str ((cns ts t).getD i Str.empty)) (pvm_start ..) (fun i H2 _ hP => sameT (pvm_same hP nD) hS) (fun i x H2 H3 hi hP hY => ?_) (fun H2 hP => ?_)
  · obtain ⟨rfl, hx⟩ := hY
    have sm := pvm_same hP nD
    obtain ⟨co, qc, yc, hco, rfl, hqc⟩ := col_at hA hx
    refine ⟨qc, _, rfl, sameT sm hqc, rfl, .str co.1, _, rfl, yc, _, rfl, rfl, ?_⟩
    refine ⟨rfl, ?_⟩
    unfold tYes
    dsimp only
    refine iteT ?_
    refine ⟨.str co.1, rfl, pvm_step hP (Same.refl _) ?_ (by omega)⟩
    show V.str co.1 = .str ((cns ts t).getD i Str.empty)
    rw [getD_of (show (cns ts t)[i]? = some co.1 by rw [List.getElem?_map, hco]; rfl)]
  · refine q D H2 (pvm_same hP nD) ?_
    rw [hP.1, l]
    have e := range_map (fun z => V.str z) Str.empty (cns ts t)
    rw [e]
end
end TT

set_option Elab.async false
set_option linter.all false
set_option maxRecDepth 100000
namespace TT
open PySem PySem.Spec PyProof.Rows L2
/-! ### deeds as plain data -/
inductive Deed
  | put (t : Str) (r : Rw)
  | drop (t : Str) (k : Int)
  | sweep (t col : Str) (o : Option Int)
  | shift (t col : Str) (b : Int)
  | set (t : Str) (k : Int) (col : Str) (o : Option Int)
def deedD : Deed → PyData
  | .put t r => .tuple [.str "put", .str t, rowD r]
  | .drop t k => .tuple [.str "drop", .str t, .int k]
  | .sweep t col o => .tuple [.str "sweep", .str t, .str col, wD o]
  | .shift t col b => .tuple [.str "shift", .str t, .str col, .int b]
  | .set t k col o => .tuple [.str "set", .str t, .int k, .str col, wD o]
def DeedOk (ts : List Tab) : Deed → Prop
  | .put t r => t ∈ tns ts ∧ RwOk (cns ts t).length r
  | .drop t k => t ∈ tns ts
  | .sweep t col o => t ∈ tns ts ∧ col ∈ cns ts t
  | .shift t col b => t ∈ tns ts ∧ col ∈ cns ts t
  | .set t k col o => t ∈ tns ts ∧ col ∈ cns ts t ∧ ((cns ts t).head? = some col → o ≠ none)
/-- the numbers of a deed -/
def DeedB (B : Int) : Deed → Prop
  | .put _ r => ∀ o ∈ r, WB B o
  | .drop _ k => WB B (some k)
  | .sweep _ _ o => WB B o
  | .shift _ _ b => -4 ≤ b ∧ b ≤ 4
  | .set _ k _ o => WB B (some k) ∧ WB B o
theorem dpAll_ws {K : PySem.W.Frag} {H : Hp} : ∀ {r : Rw} {us : List V}, DpAll K H us (r.map wD) → us = r.map wV
  | [], _, .nil => rfl
  | none :: r, _, .cons h t => by cases h; rw [dpAll_ws t]; rfl
  | some i :: r, _, .cons h t => by cases h; rw [dpAll_ws t]; rfl
theorem row_dp {K : PySem.W.Frag} {H : Hp} {v : V} {r : Rw} (h : Dp K H v (rowD r)) : ∃ p, v = .ref p ∧ SqT K H p (r.map wV) := by
  cases h with
  | tup h1 h2 =>
    have := dpAll_ws h2
    subst this
    exact ⟨_, rfl, h1⟩
theorem rows_dp {K : PySem.W.Frag} {H : Hp} {v : V} {rs : List Rw} (h : Dp K H v (rowsD rs)) : ∃ p xs, v = .ref p ∧ SqL K H p xs ∧ DpAll K H xs (rs.map rowD) ∧ xs.length = rs.length := by
  cases h with
  | lst h1 h2 => exact ⟨_, _, rfl, h1, h2, by rw [dpAll_len h2, List.length_map]⟩
theorem cont_dp {K : PySem.W.Frag} {H : Hp} {v : V} {ct : List (List Rw)} (h : Dp K H v (contD ct)) : ∃ p xs, v = .ref p ∧ SqL K H p xs ∧ DpAll K H xs (ct.map rowsD) ∧ xs.length = ct.length := by
  cases h with
  | lst h1 h2 => exact ⟨_, _, rfl, h1, h2, by rw [dpAll_len h2, List.length_map]⟩
theorem cont_at {K : PySem.W.Frag} {H : Hp} {xs : List V} {ct : List (List Rw)} {i : Nat} {x : V} (h : DpAll K H xs (ct.map rowsD)) (hx : xs[i]? = some x) : ∃ rs, ct[i]? = some rs ∧ Dp K H x (rowsD rs) := by
  obtain ⟨d, h1, h2⟩ := dpAll_get i h hx
  rw [List.getElem?_map] at h1
  obtain ⟨rs, hr, rfl⟩ := Option.map_eq_some_iff.mp h1
  exact ⟨rs, hr, h2⟩
theorem row_at' {K : PySem.W.Frag} {H : Hp} {xs : List V} {rs : List Rw} {i : Nat} {x : V} (h : DpAll K H xs (rs.map rowD)) (hx : xs[i]? = some x) : ∃ r p, rs[i]? = some r ∧ x = .ref p ∧ SqT K H p (r.map wV) := by
  obtain ⟨d, h1, h2⟩ := dpAll_get i h hx
  rw [List.getElem?_map] at h1
  obtain ⟨r, hr, rfl⟩ := Option.map_eq_some_iff.mp h1
  obtain ⟨p, e, hp⟩ := row_dp h2
  exact ⟨r, p, hr, e, hp⟩
theorem out2 {H : Hp} {s c p : Addr} {T : Nat} (S : StAt H s c T) (n : H p = none) : p ∉ [s, c] := (mask0 S).new n
theorem fr {H H' : Hp} {s c p : Addr} {T : Nat} (K : Kept [s, c] H H') (S : StAt H' s c T) (n : H' p = none) : H p = none := K.fresh n (by
  intro q hq
  simp only [List.mem_cons, List.not_mem_nil, or_false] at hq
  rcases hq with rfl | rfl
  · exact S.nes n
  · exact S.nec n)
theorem outX {H : Hp} {s c p : Addr} {T : Nat} {xs : List V} (S : StAt H s c T) (e : H p = some (.tup xs)) : p ∉ [s, c] := by
  intro z
  simp only [List.mem_cons, List.not_mem_nil, or_false] at z
  rcases z with rfl | rfl
  · obtain ⟨t, _, e'⟩ := S.ex
    rw [e] at e'; cases e'
  · obtain ⟨ns, _, _, e'⟩ := S.cs
    rw [e] at e'; cases e'
section
variable {P : Program} {w : World} {K : PySem.W.Frag} {mg : Str → Option Value} {base : Heap}
def spDeed (K : PySem.W.Frag) : Sp := fun vs H Q _ => ∃ (s c tp cp : Addr) (T L : Nat) (B : Int) (ts : List Tab) (ct : List (List Rw)), vs = [.ref s, .ref tp, .ref cp] ∧ StAt H s c T ∧ T + 100 ≤ 1000000 ∧ L ≤ 60 ∧ 1000000000 ≤ B ∧ Tabs K (msk [s, c] H) tp ts ∧ ContOk L ts ct ∧ (∀ rs ∈ ct, ∀ r ∈ rs, ∀ o ∈ r, WB B o) ∧ Dp K (msk [s, c] H) (.ref cp) (contD ct) ∧
  ∀ (p : Addr) (dd : Deed) (H' : Hp), DeedOk ts dd → DeedB (B + 100) dd → H p = none → Dp K (msk [s, c] H') (.ref p) (deedD dd) → StAt H' s c (T + 100) → Kept [s, c] H H' → Q (.ref p) H'
abbrev s_law_deed : Stmt := topS 48
abbrev N_law_deed : List Str := ["state", "tables", "content", "at", "table", "columns", "keys", "key", "place", "way", "others", "worths", "worth", "row", "column"]
theorem sc_law_deed : FnScope N_law_deed ["state", "tables", "content"] (defScope s_law_deed) := ⟨rfl, rfl, rfl, by decide +kernel, rfl, by decide +kernel, by decide +kernel⟩

set_option maxHeartbeats 8000000 in
theorem ok_deed {f : Addr} {fd : FuncData} (F : Fun K "_law_deed" "_law_deed" s_law_deed f fd) (nb : NB mg) (D_law_take : Def P w K mg base 1 "_law_take" ["state", "many"] spTake) (D_law_some : Def P w K mg base 2 "_law_some" ["state", "things"] (spSome K))
    (D_law_near : Def P w K mg base 3 "_law_near" ["state", "low", "many"] spNear) : FnOk P w K mg base CX0 4 f fd ["state", "tables", "content"] (spDeed K) := by
  refine F.ok sc_law_deed (fun vs H Q E h => ?_) (fun cdv A outer sh H vs Q E hr h => ?_)
  · obtain ⟨s, c, tp, cp, T, L, B, ts, ct, rfl, _⟩ := h
    rfl
  · obtain ⟨s, c, tp, cp, T, L, B, ts, ct, rfl, S, hT, hL, hB, hTt, okc, kb, dct, q⟩ := h
    have nd := sc_law_deed.nd
    have hu := hu_of hr
    refine ⟨_, (pss_cons (ps_set (i := 3) nd rfl (Or.inl rfl) (pe_own D_law_take hr (pa_cons (pv 0) (pa_cons (pe_callB call_len_seq (by rfl) nb.b_len (by decide +kernel) (pa_cons (pv 1) pa_nil)) pa_nil))))
      (pss_cons (ps_asg (pe_ix ix_tup (pv 1) (pv 3) (fun _ _ => rfl)) (pg_tup rfl (pgs_cons (pg_name (i := 4) nd rfl (Or.inl rfl)) (pgs_cons (pg_name (i := 5) nd rfl (Or.inl rfl)) pgs_nil))))
      (pss_cons (ps_setLc (i := 6) (own := [("row", 13)]) (g := (gName 13)) (tt := tYes) rfl nd rfl rfl (sw_true rfl rfl rfl (by decide +kernel)) (pi_list (pe_ix ix_list (pv 2) (pv 3) (fun _ _ => rfl))) (blkOk_by (N := N_law_deed) (sc := defScope s_law_deed) (by decide +kernel)) (fun _ _ _ _ _ => (pg_name (i := 13) nd rfl (Or.inl rfl))) (fun _ _ _ _ _ => pts_nil) (fun _ _ _ _ _ => (pe_ix (r := rIxT K) ix_tup (pv 13) pe_int (fun _ _ => rfl))))
      (pss_cons (ps_set (i := 7) nd rfl (Or.inr rfl) (pe_ifExp (PW.pt (pw_and (pt_cmpR (op_neD hr.units) (pv 6) (pe_lst pa_nil) (nomark _)) (pw_and1 (pt_cmpR op_gt (pe_own D_law_take hr (pa_cons (pv 0) (pa_cons pe_int pa_nil))) pe_int (nomark _))))) (pe_own D_law_some hr (pa_cons (pv 0) (pa_cons (pv 6) pa_nil))) (pe_op op_sub (pe_own D_law_take hr (pa_cons (pv 0) (pa_cons pe_int pa_nil))) pe_int)))
      (pss_cons (ps_asg (pe_tup (pa_cons (pe_own D_law_take hr (pa_cons (pv 0) (pa_cons (pe_callB call_len_seq (by rfl) nb.b_len (by decide +kernel) (pa_cons (pv 5) pa_nil)) pa_nil))) (pa_cons (pe_own D_law_take hr (pa_cons (pv 0) (pa_cons pe_int pa_nil))) pa_nil))) (pg_tup rfl (pgs_cons (pg_name (i := 8) nd rfl (Or.inr rfl)) (pgs_cons (pg_name (i := 9) nd rfl (Or.inl rfl)) pgs_nil))))
      (pss_cons (ps_set (i := 10) nd rfl (Or.inl rfl) (pe_op op_cat (pe_lc (own := [("row", 13)]) (g := (gName 13)) (tt := tYes) rfl nd (pi_list (pe_ix ix_list (pv 2) (pv 3) (fun _ _ => rfl))) (blkOk_by (N := N_law_deed) (sc := defScope s_law_deed) (by decide +kernel)) (fun _ _ _ _ _ => (pg_name (i := 13) nd rfl (Or.inl rfl))) (fun _ _ _ _ _ => pts_nil) (fun _ _ _ _ _ => (pe_ix (r := rIxT K) ix_tup (pv 13) (pv 8) (fun _ _ => rfl)))) (pe_lst (pa_cons pe_non (pa_cons pe_int pa_nil)))))
      (pss_cons (ps_if (pt_cmpR op_lt (pv 9) pe_int (nomark _))
        (pss_cons (ps_setLc (i := 11) (own := [("column", 14)]) (g := (gName 14)) (tt := tYes) rfl nd rfl rfl (sw_true rfl rfl rfl (by decide +kernel)) (pi_tup (pe_slice sl_tup (pv 5) (po_some pe_int) po_none)) (blkOk_by (N := N_law_deed) (sc := defScope s_law_deed) (by decide +kernel)) (fun _ _ _ _ _ => (pg_name (i := 14) nd rfl (Or.inl rfl))) (fun _ _ _ _ _ => pts_nil) (fun _ _ _ _ _ => (pe_own D_law_near hr (pa_cons (pv 0) (pa_cons (pv 7) (pa_cons pe_int pa_nil))))))
        (pss_one (ps_ret (pe_tup (pa_cons pe_str (pa_cons (pv 4) (pa_cons (pe_callTy call_tuple_of (by rfl) nb.b_tuple (by decide +kernel) (pa_cons (pe_op op_cat (pe_lst (pa_cons (pe_op op_add (pv 7) (pe_op op_mul (pe_own D_law_take hr (pa_cons (pv 0) (pa_cons pe_int pa_nil))) (pe_own D_law_take hr (pa_cons (pv 0) (pa_cons pe_int pa_nil))))) pa_nil)) (pv 11)) pa_nil)) pa_nil)))))))
        pss_nil)
      (pss_cons (ps_if (pt_cmpR op_lt (pv 9) pe_int (nomark _))
        (pss_one (ps_ret (pe_tup (pa_cons pe_str (pa_cons (pv 4) (pa_cons (pv 7) pa_nil))))))
        pss_nil)
      (pss_cons (ps_if (pt_cmpR op_lt (pv 9) pe_int (nomark _))
        (pss_one (ps_ret (pe_tup (pa_cons pe_str (pa_cons (pv 4) (pa_cons (pe_ix ix_seq (pe_ix ix_tup (pv 5) (pv 8) (fun _ _ => rfl)) pe_int (fun _ _ => rfl)) (pa_cons (pe_own D_law_some hr (pa_cons (pv 0) (pa_cons (pv 10) pa_nil))) pa_nil)))))))
        pss_nil)
      (pss_cons (ps_if (pt_cmpR op_eq (pv 9) pe_int (nomark _))
        (pss_one (ps_ret (pe_tup (pa_cons pe_str (pa_cons (pv 4) (pa_cons (pe_ix ix_seq (pe_ix ix_tup (pv 5) (pv 8) (fun _ _ => rfl)) pe_int (fun _ _ => rfl)) (pa_cons (pe_ix ix_list (pe_lst (pa_cons pe_int (pa_cons (pe_un un_neg pe_int) (pa_cons (pe_op op_sub (pe_own D_law_take hr (pa_cons (pv 0) (pa_cons pe_int pa_nil))) pe_int) (pa_cons pe_int pa_nil))))) (pe_own D_law_take hr (pa_cons (pv 0) (pa_cons pe_int pa_nil))) (fun _ _ => rfl)) pa_nil)))))))
        pss_nil)
      (pss_cons (ps_set (i := 8) nd rfl (Or.inr rfl) (pe_op op_mul (pv 8) (pe_callTy call_int1 (by rfl) nb.b_int (by decide +kernel) (pa_cons (pe_cmpR op_eq (pe_own D_law_take hr (pa_cons (pv 0) (pa_cons pe_int pa_nil))) pe_int (nomark _)) pa_nil))))
      (pss_cons (ps_set (i := 12) nd rfl (Or.inl rfl) (pe_ifExp (pt_cmpR op_eq (pv 8) pe_int (nomark _)) (pe_op op_sub (pe_op op_add (pv 7) (pe_own D_law_take hr (pa_cons (pv 0) (pa_cons pe_int pa_nil)))) pe_int) (pe_own D_law_some hr (pa_cons (pv 0) (pa_cons (pe_op op_cat (pv 10) (pe_lst (pa_cons (pe_own D_law_near hr (pa_cons (pv 0) (pa_cons (pv 7) (pa_cons pe_int pa_nil)))) pa_nil))) pa_nil)))))
      (pss_one (ps_ret (pe_tup (pa_cons pe_str (pa_cons (pv 4) (pa_cons (pv 7) (pa_cons (pe_ix ix_seq (pe_ix ix_tup (pv 5) (pv 8) (fun _ _ => rfl)) pe_int (fun _ _ => rfl)) (pa_cons (pv 12) pa_nil)))))))))))))))))))), ?_⟩
    obtain ⟨xs, hX⟩ : ∃ xs, TabX K (msk [s, c] H) tp ts xs := by
      obtain ⟨xs, h1, h2, _⟩ := hTt.parts
      exact ⟨xs, h1, h2⟩
    have okt := hTt.ok
    have l0 := hTt.l0
    have l8 := hTt.l8
    have lx := hX.len
    have sub := msk_sub [s, c]
    -- at
    refine ⟨.ref s, rfl, .ref tp, rfl, tp, xs, rfl, .inr (sameT (sub _) hX.sq), s, c, _, _, rfl, S, by omega, by omega, by omega, fun at' H1 a0 a1 S1 K1 => ?_⟩
    obtain ⟨j, rfl⟩ : ∃ j : Nat, at' = (j : Int) := ⟨at'.toNat, by omega⟩
    have hj : j < xs.length := by omega
    have m1 := (msk_same K1).trans (sub H1)
    -- table, columns
    obtain ⟨x, hx⟩ : ∃ x, xs[j]? = some x := ⟨_, List.getElem?_eq_getElem hj⟩
    obtain ⟨tb, qq, pc, ys, htb, rfl, h1, h2, h3⟩ := tab_at hX.dp hx
    have htm := List.mem_of_getElem? htb
    obtain ⟨okcol, lcol⟩ := okt.cs tb htm
    have lc5 := okcol.top
    have ly : ys.length = tb.2.length := by rw [dpAll_len h3, List.length_map]
    have ec : colsOf ts tb.1 = tb.2 := colsOf_mem okt.nd htm
    have ht : tb.1 ∈ tns ts := List.mem_map.mpr ⟨tb, htm, rfl⟩
    have lcn : (cns ts tb.1).length = tb.2.length := by rw [List.length_map, ec]
    refine ⟨.ref tp, rfl, .int j, rfl, tp, xs, j, .ref qq, rfl, rfl, sameT m1 hX.sq, atI_nat hx, qq, _, rfl, sameT m1 h1, rfl, .str tb.1, _, rfl, .ref pc, _, rfl, rfl, ?_⟩
    -- keys
    obtain ⟨p0, zs, e0, hCS, hCA, lz⟩ := cont_dp dct
    cases e0
    have lct := okc.len
    obtain ⟨xr, hxr⟩ : ∃ xr, zs[j]? = some xr := ⟨_, List.getElem?_eq_getElem (by omega)⟩
    obtain ⟨rs, hrs, hrd⟩ := cont_at hCA hxr
    obtain ⟨rp, us, rfl, hRS, hRA, lu⟩ := rows_dp hrd
    have okr := okc.rows j tb rs htb hrs
    have lrs := okc.few rs (List.mem_of_getElem? hrs)
    have kbr := kb rs (List.mem_of_getElem? hrs)
    refine ⟨.ref cp, rfl, .int j, rfl, cp, zs, j, .ref rp, rfl, rfl, m1.seq hCS, atI_nat hxr, rp, rfl, ⟨_, m1.seq hRS⟩, fun D nD => ?_⟩
    refine lc_it (walk_list (xs := us)) (PvM H1 D fun i => .int (keyW (rs.getD i []))) (pvm_start ..) (fun i H2 _ hP => (m1.trans (pvm_same hP nD)).seq hRS) (fun i x H2 H3 hi hP hY => ?_) (fun H2 hP => ?_)
    · obtain ⟨rfl, hx⟩ := hY
      obtain ⟨r, pr, hr1, rfl, hr2⟩ := row_at' hRA hx
      obtain ⟨k0, t0, rfl⟩ := (okr.row r (List.mem_of_getElem? hr1)).key
      refine ⟨rfl, ?_⟩
      unfold tYes
      dsimp only
      refine iteT ?_
      refine ⟨.ref pr, rfl, pr, _, 0, .int k0, rfl, rfl, sameT (m1.trans (pvm_same hP nD)) hr2, atI_nat (j := 0) rfl, pvm_step hP (Same.refl _) ?_ (by omega)⟩
      rw [getD_of hr1]; rfl
    have s2 := pvm_same hP nD
    have k2 := Kept.of_same (M := [s, c]) s2
    have eD : H2 D = some (.lst ((rs.map keyW).map V.int)) := by
      rw [hP.1, lu]
      have e := range_map (fun r => V.int (keyW r)) [] rs
      rw [e, List.map_map]; rfl
    have S2 := S1.same s2
    have oD := out2 S1 nD
    have K2 := K1.trans k2
    clear hP nD
    -- key
    have keyE : ∀ k : Int, k ∈ rs.map keyW → -B ≤ k ∧ k ≤ B := fun k hk => by
      obtain ⟨r, hr, rfl⟩ := List.mem_map.mp hk
      obtain ⟨k, t0, rfl⟩ := (okr.row r hr).key
      exact kbr _ hr (some k) (List.mem_cons_self ..)
    refine ⟨.ref D, rfl, Nat.zero_le _, fun p1 n1 => ?_⟩
    have s3 := same_upd (o := .lst []) n1
    refine ⟨.list ((rs.map keyW).map PyData.int), .list [], .lst (.inl (.inl (s3 _ _ eD))) (dp_ints _), .lst (.inl (.inl upd_same)) .nil, shaped_ints _, rfl, _, rfl, ?_⟩
    have S3 := S2.same s3
    have k3 := Kept.of_same (M := [s, c]) s3
    rw [eqv_nil]
    have eD3 := s3 _ _ eD
    generalize upd H2 p1 (.lst []) = H3 at s3 S3 k3 eD3 ⊢
    have K3 := K2.trans k3
    refine' (fun (rest : ∀ (key : Int) (H5 : Hp), (-B ≤ key ∧ key ≤ B) → StAt H5 s c (T + 5) → Kept [s, c] H H5 → (_ : Int → Hp → Prop) key H5) => _) _
    rotate_left
    · refine ite2 (fun hE => ?_) (fun hE => ?_)
      · refine ⟨.ref s, rfl, s, c, _, _, rfl, S3, by omega, by decide, by decide, fun d4 H4 d40 d41 S4 K4 => ⟨_, _, rfl, rfl, _, rfl, ?_⟩⟩
        have eD4 := K4.at eD3 oD
        have K4' := K3.trans K4
        have hne : 0 < rs.length := by
          cases rs with
          | nil => cases hE
          | cons a r => exact Nat.zero_lt_succ _
        refine ite2 (fun hd4 => ?_) (fun hd4 => ?_)
        · refine ⟨.ref s, rfl, .ref D, rfl, s, c, D, _, _, rfl, S4, by omega, oD, .inl (.inl (.inl eD4)), by rw [List.length_map, List.length_map]; exact hne, by rw [List.length_map, List.length_map]; omega, fun i5 u5 H5 hu5 S5 K5 => ?_⟩
          obtain ⟨key, rfl, hkm⟩ : ∃ key : Int, u5 = V.int key ∧ key ∈ rs.map keyW := by
            rw [List.getElem?_map] at hu5
            obtain ⟨k, hk, rfl⟩ := Option.map_eq_some_iff.mp hu5
            exact ⟨k, rfl, List.mem_of_getElem? hk⟩
          exact rest key H5 (keyE key hkm) (S5.mono (by omega)) (K4'.trans K5)
        · refine ⟨.ref s, rfl, s, c, _, _, rfl, S4, by omega, by decide, by decide, fun d5 H5 d50 d51 S5 K5 => ⟨_, _, rfl, rfl, ?_⟩⟩
          exact rest (d5 - 3) H5 ⟨by omega, by omega⟩ (S5.mono (by omega)) (K4'.trans K5)
      · refine ⟨.ref s, rfl, s, c, _, _, rfl, S3, by omega, by decide, by decide, fun d5 H5 d50 d51 S5 K5 => ⟨_, _, rfl, rfl, ?_⟩⟩
        exact rest (d5 - 3) H5 ⟨by omega, by omega⟩ (S5.mono (by omega)) (K3.trans K5)
    · intro key H5 kk S5 K5'
      obtain ⟨kl, kh⟩ := kk
      show tSeq _ _ _ [some (.ref s), some (.ref tp), some (.ref cp), some (.int j), some (.str tb.1), some (.ref pc), some (.ref D), some (.int key), none, none, none, none, none, none, none] H5
      clear K3 k3 s3 S3 eD3 n1 S2 s2 k2 oD eD K2 m1
      have m5 := (msk_same K5').trans (sub H5)
      -- place, way
      refine ⟨.ref s, rfl, .ref pc, rfl, pc, ys, rfl, .inr (sameT m5 h2), s, c, _, _, rfl, S5, by omega, by omega, by omega, fun pl' H6 p0 p1 S6 K6 => ⟨.ref s, rfl, s, c, _, _, rfl, S6, by omega, by decide, by decide, fun way H7 w0 w1 S7 K7 => ⟨(by show 2 ≤ sizeLine; decide), fun pt nt => ⟨pt, _, rfl, .inl (.inl upd_same), rfl, .int pl', _, rfl, .int way, _, rfl, rfl, ?_⟩⟩⟩⟩
      obtain ⟨pl, rfl⟩ : ∃ pl : Nat, pl' = (pl : Int) := ⟨pl'.toNat, by omega⟩
      have hpl : pl < tb.2.length := by omega
      have S8 := S7.upd_new (o := .tup [.int pl, .int way]) nt
      have K8 : Kept [s, c] H (upd H7 pt (.tup [.int pl, .int way])) := K5'.trans (K6.trans (K7.trans (Kept.upd_new nt)))
      generalize upd H7 pt (.tup [.int pl, .int way]) = H8 at S8 K8 ⊢
      clear S7 S6 K7 K6 S5 K5' m5 nt
      have m8 := (msk_same K8).trans (sub H8)
      -- others
      refine ⟨.ref cp, rfl, .int j, rfl, cp, zs, j, .ref rp, rfl, rfl, m8.seq hCS, atI_nat hxr, rp, rfl, ⟨_, m8.seq hRS⟩, fun D2 nD2 => ?_⟩
      refine lc_it (walk_list (xs := us)) (PvM H8 D2 fun i => wV ((rs.getD i []).getD pl none)) (pvm_start ..) (fun i H9 _ hP => (m8.trans (pvm_same hP nD2)).seq hRS) (fun i x H9 H10 hi hP hY => ?_) (fun H9 hP => ?_)
      · obtain ⟨rfl, hx⟩ := hY
        obtain ⟨r, pr, hr1, rfl, hr2⟩ := row_at' hRA hx
        have lr := (okr.row r (List.mem_of_getElem? hr1)).len
        have hw : (r.map wV)[pl]? = some (wV (r.getD pl none)) := by
          have h5 : r[pl]? = some r[pl] := List.getElem?_eq_getElem (by omega)
          rw [List.getElem?_map, getD_of h5, h5]; rfl
        refine ⟨rfl, ?_⟩
        unfold tYes
        dsimp only
        refine iteT ?_
        refine ⟨.ref pr, rfl, .int pl, rfl, pr, _, pl, _, rfl, rfl, sameT (m8.trans (pvm_same hP nD2)) hr2, atI_nat hw, pvm_step hP (Same.refl _) ?_ (by omega)⟩
        rw [getD_of hr1]
      have s9 := pvm_same hP nD2
      obtain ⟨os0, eos⟩ : ∃ os0 : Rw, os0 = rs.map fun r => r.getD pl none := ⟨_, rfl⟩
      have los0 : os0.length = rs.length := by rw [eos, List.length_map]
      have wos0 : ∀ o ∈ os0, WB B o := fun o ho => by
        rw [eos] at ho
        obtain ⟨r, hr, rfl⟩ := List.mem_map.mp ho
        by_cases h5 : pl < r.length
        · rw [getD_of (List.getElem?_eq_getElem h5)]
          exact kbr r hr _ (List.getElem_mem _)
        · rw [List.getD_eq_getElem?_getD, List.getElem?_eq_none (by omega)]; trivial
      have eD2 : H9 D2 = some (.lst (os0.map wV)) := by
        rw [hP.1, lu, eos]
        have e := range_map (fun r : Rw => wV (r.getD pl none)) [] rs
        rw [e, List.map_map]; rfl
      refine ⟨(by show 2 ≤ sizeLine; decide), fun q1 nq1 => ?_⟩
      have nD21 : D2 ≠ q1 := ne_of_none eD2 nq1
      refine ⟨D2, q1, _, _, rfl, rfl, (by rw [upd_ne nD21]; exact eD2), upd_same, Nat.le_of_lt (small1000 (by rw [List.length_map, los0]; show rs.length + 2 ≤ 1000; omega)), fun O nO => ?_⟩
      have S10 := (S8.same s9).upd_new (o := .lst [.non, .int 0]) nq1 |>.upd_new (o := .lst (os0.map wV ++ [.non, .int 0])) nO
      have K10 : Kept [s, c] H (upd (upd H9 q1 (.lst [.non, .int 0])) O (.lst (os0.map wV ++ [.non, .int 0]))) := K8.trans ((Kept.of_same s9).trans ((Kept.upd_new nq1).trans (Kept.upd_new nO)))
      have oO : O ∉ [s, c] := out2 ((S8.same s9).upd_new (o := .lst [.non, .int 0]) nq1) nO
      have eO : (upd (upd H9 q1 (.lst [.non, .int 0])) O (.lst (os0.map wV ++ [.non, .int 0]))) O = some (.lst ((os0 ++ [none, some 0]).map wV)) := by rw [upd_same, List.map_append]; rfl
      have wos : ∀ o ∈ os0 ++ [none, some 0], WB B o := fun o ho => by
        rcases List.mem_append.mp ho with h | h
        · exact wos0 o h
        · simp only [List.mem_cons, List.not_mem_nil, or_false] at h
          rcases h with rfl | rfl
          · trivial
          · exact ⟨by omega, by omega⟩
      have los : (os0 ++ [none, some 0]).length = rs.length + 2 := by rw [List.length_append, los0]; rfl
      show tSeq _ _ _ [some (.ref s), some (.ref tp), some (.ref cp), some (.int j), some (.str tb.1), some (.ref pc), some (.ref D), some (.int key), some (.int pl), some (.int way), some (.ref O), none, none, none, none] (upd (upd H9 q1 (.lst [.non, .int 0])) O (.lst (os0.map wV ++ [.non, .int 0])))
      generalize upd (upd H9 q1 (.lst [.non, .int 0])) O (.lst (os0.map wV ++ [.non, .int 0])) = H10 at S10 K10 eO ⊢
      generalize os0 ++ [none, some 0] = os at eO wos los
      clear hP nD2 s9 eD2 nD21 nq1 nO S8 K8 m8 los0 wos0 eos
      have m10 := (msk_same K10).trans (sub H10)
      have kW : WB (B + 100) (some key) := ⟨by omega, by omega⟩
      obtain ⟨y, hy⟩ : ∃ y, ys[pl]? = some y := ⟨_, List.getElem?_eq_getElem (by omega)⟩
      obtain ⟨co, qc, yc, hco, rfl, hqc⟩ := col_at h3 hy
      have hcol : co.1 ∈ cns ts tb.1 := by
        show co.1 ∈ (colsOf ts tb.1).map (·.1)
        rw [ec]
        exact List.mem_map.mpr ⟨co, List.mem_of_getElem? hco, rfl⟩
      -- way < 2
      refine ⟨.int way, rfl, _, _, rfl, rfl, _, rfl, ite2 (fun w2 => ?_) (fun w2 => ?_)⟩
      · -- a put
        refine ⟨.ref pc, rfl, 1, rfl, pc, ys, rfl, sameT m10 h2, ?_, fun p9 n9 => ?_⟩
        · intro z
          have z1 := z.1
          rw [show ((1 : Int)) = ((1 : Nat) : Int) from rfl, HT.sIx_nat] at z1
          omega
        rw [show cutV ys (some 1) none = ys.drop 1 from cutV_hi ys 1]
        have S11 := S10.upd_new (o := .tup (ys.drop 1)) n9
        have e9' : (upd H10 p9 (.tup (ys.drop 1))) p9 = some (.tup (ys.drop 1)) := upd_same
        have k9 : Kept [s, c] H10 (upd H10 p9 (.tup (ys.drop 1))) := Kept.upd_new n9
        generalize upd H10 p9 (.tup (ys.drop 1)) = H11 at S11 e9' k9 ⊢
        refine ⟨p9, rfl, ⟨_, .inl (.inl e9')⟩, fun E' nE => ?_⟩
        have o9 : p9 ∉ [E', s, c] := by
          intro z
          rcases List.mem_cons.mp z with z | z
          · rw [z, nE] at e9'; cases e9'
          · exact outX S11 e9' z
        have ld : (ys.drop 1).length = tb.2.length - 1 := by rw [List.length_drop, ly]
        have oE := out2 S11 nE
        refine lc_it (walk_tup (xs := ys.drop 1)) (fun i H' => (∃ ws : Rw, H' E' = some (.lst (ws.map wV)) ∧ ws.length = i ∧ ∀ o ∈ ws, WB (B + 100) o) ∧ StAt H' s c (T + 10 + i * 5) ∧ Kept [E', s, c] H11 H')
          ⟨⟨[], upd_same, rfl, fun _ h => absurd h List.not_mem_nil⟩, (S11.upd_new nE).mono (by omega), Kept.upd_new nE⟩ (fun i H' _ hP => .inl (.inl (hP.2.2.at e9' o9))) (fun i x H' H'' hi hP hY => ?_) (fun H12 hP => ?_)
        · obtain ⟨rfl, hx⟩ := hY
          obtain ⟨⟨ws, eE, lws, okw⟩, SS, kk⟩ := hP
          refine ⟨rfl, ?_⟩
          unfold tYes
          dsimp only
          refine iteT ?_
          refine ⟨.ref s, rfl, .int key, rfl, s, c, _, 3, key, B + 100, rfl, SS, by omega, by decide, by decide, by omega, by omega, by omega, fun o H12 wo S12 K12 => ?_⟩
          have eE2 := K12.at eE oE
          refine ⟨_, eE2, by rw [List.length_map, lws]; exact small1000 (by omega), ⟨ws ++ [o], by rw [upd_same, List.map_append]; rfl, by rw [List.length_append, lws]; rfl, fun z hz => ?_⟩, (S12.upd (S11.nes nE) (S11.nec nE)).mono (by omega), kk.trans ((K12.mono sub_push).trans (Kept.upd_in (List.mem_cons_self ..)))⟩
          rcases List.mem_append.mp hz with h | h
          · exact okw z h
          · rw [List.mem_singleton.mp h]; exact wo
        · obtain ⟨⟨ws, eE, lws, okw⟩, SS, kk⟩ := hP
          have K12 := K10.trans (k9.trans (kk.new nE))
          refine ⟨.str tb.1, rfl, .int key, rfl, .ref s, rfl, s, c, _, _, rfl, SS, by omega, by decide, by decide, fun a H13 a0 a1 S13 K13 => ⟨.ref s, rfl, s, c, _, _, rfl, S13, by omega, by decide, by decide, fun b H14 b0 b1 S14 K14 => ?_⟩⟩
          have eE4 := K14.at (K13.at eE oE) oE
          have K14' := K12.trans (K13.trans K14)
          have hb : b = 0 ∨ b = 1 := by omega
          have hab : 0 ≤ a * b ∧ a * b < 9 := by
            rcases hb with rfl | rfl
            · rw [Int.mul_zero]; omega
            · rw [Int.mul_one]; omega
          obtain ⟨ab, eab⟩ : ∃ ab, ab = a * b := ⟨_, rfl⟩
          rw [← eab] at hab
          refine ⟨_, _, rfl, rfl, .inl ⟨by omega, by omega⟩, key, a * b, rfl, rfl, (by show 1 ≤ sizeLine; decide), fun q1 nq1 => ?_⟩
          have nE1 : E' ≠ q1 := ne_of_none eE4 nq1
          refine ⟨.ref E', rfl, q1, E', _, _, rfl, rfl, upd_same, (by rw [upd_ne nE1]; exact eE4), Nat.le_of_lt (small1000 (by rw [List.length_map, lws]; show 1 + _ ≤ 1000; omega)), fun q2 nq2 => ?_⟩
          refine ⟨q2, _, rfl, .inl ⟨.inl (.inl upd_same), fun t nt => ⟨(by show 3 ≤ sizeLine; decide), fun p np => ?_⟩⟩⟩
          have Sy := (S14.upd_new (o := .lst [.int (key + a * b)]) nq1).upd_new (o := .lst ([.int (key + a * b)] ++ ws.map wV)) nq2
          have Sx := Sy.upd_new (o := .tup ([.int (key + a * b)] ++ ws.map wV)) nt
          have Sz := Sx.upd_new (o := .tup [.str "put", .str tb.1, .ref t]) np
          have k3x : Kept [s, c] H14 (upd (upd (upd H14 q1 (.lst [.int (key + a * b)])) q2 (.lst ([.int (key + a * b)] ++ ws.map wV))) t (.tup ([.int (key + a * b)] ++ ws.map wV))) := (Kept.upd_new nq1).trans ((Kept.upd_new nq2).trans (Kept.upd_new nt))
          have npt : t ≠ p := ne_of_none upd_same np
          refine q p (.put tb.1 (some (key + a * b) :: ws)) _ ⟨ht, ⟨by rw [lcn, List.length_cons, lws, ld]; omega, ⟨_, _, rfl⟩⟩⟩ (fun o ho => ?_) (fr (K14'.trans k3x) Sx np) ?_ (Sz.mono (by omega)) (K14'.trans (k3x.trans (Kept.upd_new np)))
          · rcases List.mem_cons.mp ho with rfl | ho
            · exact ⟨by omega, by omega⟩
            · exact okw o ho
          · exact .tup (.inl (.inl (msk_at upd_same (out2 Sx np)))) (.cons (.str _) (.cons (.str _) (.cons (.tup (.inl (.inl (msk_at (by rw [upd_ne npt]; exact upd_same) (out2 Sy nt)))) (dp_ws (some (key + a * b) :: ws))) .nil)))
      · have w2 : ¬ way < 2 := fun z => w2 (decide_eq_true z)
        refine ⟨.int way, rfl, _, _, rfl, rfl, _, rfl, ite2 (fun w4 => ?_) (fun w4 => ?_)⟩
        · -- a drop
          refine ⟨.str tb.1, rfl, .int key, rfl, (by show 3 ≤ sizeLine; decide), fun p np => ?_⟩
          exact q p (.drop tb.1 key) _ ht kW (fr K10 S10 np) (.tup (.inl (.inl (msk_at upd_same (out2 S10 np)))) (.cons (.str _) (.cons (.str _) (.cons (.int _) .nil)))) ((S10.upd_new np).mono (by omega)) (K10.trans (Kept.upd_new np))
        · refine ⟨.int way, rfl, _, _, rfl, rfl, _, rfl, ite2 (fun w6 => ?_) (fun w6 => ?_)⟩
          · -- a sweep
            refine ⟨.str tb.1, rfl, .ref pc, rfl, .int pl, rfl, pc, ys, pl, .ref qc, rfl, rfl, sameT m10 h2, atI_nat hy, .inr (.inl ⟨qc, _, 0, .str co.1, rfl, rfl, sameT m10 hqc, atI_nat (j := 0) rfl, .ref s, rfl, .ref O, rfl, s, c, O, _, _, rfl, S10, by omega, oO, .inl (.inl (.inl eO)), by rw [List.length_map]; omega, by rw [List.length_map]; omega, fun i u H11 hu' S11 K11 => ?_⟩)⟩
            obtain ⟨o, ho, rfl⟩ : ∃ o, o ∈ os ∧ u = wV o := by
              rw [List.getElem?_map] at hu'
              obtain ⟨o, ho, rfl⟩ := Option.map_eq_some_iff.mp hu'
              exact ⟨o, List.mem_of_getElem? ho, rfl⟩
            refine ⟨(by show 4 ≤ sizeLine; decide), fun p np => ?_⟩
            have K11' := K10.trans K11
            exact q p (.sweep tb.1 co.1 o) _ ⟨ht, hcol⟩ ((wos o ho).mono (by omega)) (fr K11' S11 np) (.tup (.inl (.inl (msk_at upd_same (out2 S11 np)))) (.cons (.str _) (.cons (.str _) (.cons (.str _) (.cons (dp_w o) .nil))))) ((S11.upd_new np).mono (by omega)) (K11'.trans (Kept.upd_new np))
          · refine ⟨.int way, rfl, rfl, _, rfl, ite2 (fun w7 => ?_) (fun w7 => ?_)⟩
            · -- a shift
              refine ⟨.str tb.1, rfl, .ref pc, rfl, .int pl, rfl, pc, ys, pl, .ref qc, rfl, rfl, sameT m10 h2, atI_nat hy, .inr (.inl ⟨qc, _, 0, .str co.1, rfl, rfl, sameT m10 hqc, atI_nat (j := 0) rfl, 1, rfl, .ref s, rfl, s, c, _, _, rfl, S10, by omega, by decide, by decide, fun d H11 d0 d1 S11 K11 => ⟨_, _, rfl, rfl, (by show 4 ≤ sizeLine; decide), fun q1 nq1 => ?_⟩⟩)⟩
              have S12 := S11.upd_new (o := .lst [.int 1, .int (-1), .int (d - 4), .int 0]) nq1
              have oq := out2 S11 nq1
              refine ⟨.ref s, rfl, s, c, _, _, rfl, S12, by omega, by decide, by decide, fun e H13 e0 e1 S13 K13 => ?_⟩
              have eq1 := K13.at (upd_same : (upd H11 q1 (.lst [.int 1, .int (-1), .int (d - 4), .int 0])) q1 = _) oq
              obtain ⟨b, hb, hat⟩ : ∃ b : Int, (-4 ≤ b ∧ b ≤ 4) ∧ atI [V.int 1, V.int (-1), V.int (d - 4), V.int 0] e = some (.int b) := by
                have : e = 0 ∨ e = 1 ∨ e = 2 ∨ e = 3 := by omega
                rcases this with rfl | rfl | rfl | rfl
                · exact ⟨1, ⟨by decide, by decide⟩, rfl⟩
                · exact ⟨-1, ⟨by decide, by decide⟩, rfl⟩
                · exact ⟨d - 4, ⟨by omega, by omega⟩, rfl⟩
                · exact ⟨0, ⟨by decide, by decide⟩, rfl⟩
              refine ⟨q1, _, _, _, rfl, rfl, .inl (.inl eq1), hat, (by show 4 ≤ sizeLine; decide), fun p np => ?_⟩
              have K13' := K10.trans (K11.trans ((Kept.upd_new nq1).trans K13))
              exact q p (.shift tb.1 co.1 b) _ ⟨ht, hcol⟩ hb (fr K13' S13 np) (.tup (.inl (.inl (msk_at upd_same (out2 S13 np)))) (.cons (.str _) (.cons (.str _) (.cons (.str _) (.cons (.int _) .nil))))) ((S13.upd_new np).mono (by omega)) (K13'.trans (Kept.upd_new np))
            · -- a set
              refine ⟨.int pl, rfl, .ref s, rfl, s, c, _, _, rfl, S10, by omega, by decide, by decide, fun d H11 d0 d1 S11 K11 => ⟨rfl, .inr ⟨_, rfl, ?_⟩⟩⟩
              obtain ⟨p2, hp2, hpp⟩ : ∃ p2 : Nat, (pl : Int) * (if decide (V.int d = V.int 0) = true then 1 else 0) = (p2 : Int) ∧ (p2 = 0 ∨ p2 = pl) := by
                have : d = 0 ∨ d = 1 := by omega
                rcases this with rfl | rfl
                · exact ⟨pl, Int.mul_one _, .inr rfl⟩
                · exact ⟨0, Int.mul_zero _, .inl rfl⟩
              refine ⟨_, _, rfl, rfl, .inl ⟨by omega, by omega⟩, ?_⟩
              show tSeq _ _ _ [some (.ref s), some (.ref tp), some (.ref cp), some (.int j), some (.str tb.1), some (.ref pc), some (.ref D), some (.int key), some (.int ((pl : Int) * (if decide (V.int d = V.int 0) = true then 1 else 0))), some (.int way), some (.ref O), none, none, none, none] H11
              rw [hp2]
              clear hp2 hy hco hqc hcol
              have K11' := K10.trans K11
              have m11 := (msk_same K11').trans (sub H11)
              have eO11 := K11.at eO oO
              obtain ⟨y2, hy⟩ : ∃ y, ys[p2]? = some y := ⟨_, List.getElem?_eq_getElem (by omega)⟩
              obtain ⟨co2, qc2, yc2, hco, rfl, hqc⟩ := col_at h3 hy
              have hcol : co2.1 ∈ cns ts tb.1 := by
                show co2.1 ∈ (colsOf ts tb.1).map (·.1)
                rw [ec]
                exact List.mem_map.mpr ⟨co2, List.mem_of_getElem? hco, rfl⟩
              have hhead : (cns ts tb.1).head? = some co2.1 → p2 = 0 := fun z => by
                have e1 : (tb.2.map (·.1)).head? = some co2.1 := by rw [← ec]; exact z
                have e2 : (tb.2.map (·.1))[0]? = some co2.1 := by rw [← List.head?_eq_getElem?]; exact e1
                have e3 : (tb.2.map (·.1))[p2]? = some co2.1 := by rw [List.getElem?_map, hco]; rfl
                have l1 := (List.getElem?_eq_some_iff.mp e2).1
                have l2 := (List.getElem?_eq_some_iff.mp e3).1
                exact (List.getElem_inj okcol.nd (h₀ := l2) (h₁ := l1)).mp (Option.some.inj ((List.getElem?_eq_getElem l2).symm.trans (e3.trans (e2.symm.trans (List.getElem?_eq_getElem l1)))))
              refine' (fun (rest : ∀ (o : Option Int) (H13 : Hp), WB (B + 100) o → (p2 = 0 → o ≠ none) → StAt H13 s c (T + 60) → Kept [s, c] H11 H13 → (_ : Option Int → Hp → Prop) o H13) => _) _
              rotate_left
              · refine ⟨.int p2, rfl, rfl, _, rfl, ite2 (fun hz => ?a1) (fun hz => ?a2)⟩
                case a2 =>
                  refine ⟨.ref s, rfl, .ref O, rfl, .ref s, rfl, .int key, rfl, s, c, _, 3, key, B + 100, rfl, S11, by omega, by decide, by decide, by omega, by omega, by omega, fun o1 H12 wo S12 K12 => ⟨(by show 1 ≤ sizeLine; decide), fun q1 nq1 => ?_⟩⟩
                  have eO12 := K12.at eO11 oO
                  have nO1 : O ≠ q1 := ne_of_none eO12 nq1
                  refine ⟨O, q1, _, _, rfl, rfl, (by rw [upd_ne nO1]; exact eO12), upd_same, Nat.le_of_lt (small1000 (by rw [List.length_map, los]; show rs.length + 2 + 1 ≤ 1000; omega)), fun q2 nq2 => ?_⟩
                  have S13 := (S12.upd_new (o := .lst [wV o1]) nq1).upd_new (o := .lst (os.map wV ++ [wV o1])) nq2
                  have oq2 := out2 (S12.upd_new (o := .lst [wV o1]) nq1) nq2
                  refine ⟨s, c, q2, _, _, rfl, S13, by omega, oq2, .inl (.inl (.inl upd_same)), by rw [List.length_append]; show 0 < _ + 1; omega, by rw [List.length_append, List.length_map, los]; show rs.length + 2 + 1 < _; omega, fun i u H14 hu' S14 K14 => ?_⟩
                  obtain ⟨o, wo', rfl⟩ : ∃ o, WB (B + 100) o ∧ u = wV o := by
                    have e : os.map wV ++ [wV o1] = (os ++ [o1]).map wV := by rw [List.map_append]; rfl
                    rw [e, List.getElem?_map] at hu'
                    obtain ⟨o, ho, rfl⟩ := Option.map_eq_some_iff.mp hu'
                    refine ⟨o, ?_, rfl⟩
                    rcases List.mem_append.mp (List.mem_of_getElem? ho) with h | h
                    · exact (wos o h).mono (by omega)
                    · rw [List.mem_singleton.mp h]; exact wo
                  refine rest o H14 wo' (fun z => absurd (decide_eq_true (by rw [z]; rfl)) hz) (S14.mono (by omega)) (K12.trans ((Kept.upd_new nq1).trans ((Kept.upd_new nq2).trans K14)))
                case a1 =>
                  refine ⟨.int key, rfl, .ref s, rfl, s, c, _, _, rfl, S11, by omega, by decide, by decide, fun e H12 e0 e1 S12 K12 => ⟨_, _, rfl, rfl, _, _, rfl, rfl, ?_⟩⟩
                  exact rest (some (key + e - 4)) H12 ⟨by omega, by omega⟩ (fun _ z => nomatch z) (S12.mono (by omega)) K12
              · intro o H13 wo hne S13 K13
                have K13' := K11'.trans K13
                have m13 := (msk_same K13').trans (sub H13)
                refine ⟨.str tb.1, rfl, .int key, rfl, .ref pc, rfl, .int p2, rfl, pc, ys, p2, .ref qc2, rfl, rfl, sameT m13 h2, atI_nat hy, .inr (.inl ⟨qc2, _, 0, .str co2.1, rfl, rfl, sameT m13 hqc, atI_nat (j := 0) rfl, wV o, rfl, (by show 5 ≤ sizeLine; decide), fun p np => ?_⟩)⟩
                exact q p (.set tb.1 key co2.1 o) _ ⟨ht, hcol, fun z => hne (hhead z)⟩ ⟨kW, wo⟩ (fr K13' S13 np) (.tup (.inl (.inl (msk_at upd_same (out2 S13 np)))) (.cons (.str _) (.cons (.str _) (.cons (.int _) (.cons (.str _) (.cons (dp_w o) .nil)))))) ((S13.upd_new np).mono (by omega)) (K13'.trans (Kept.upd_new np))
end
end TT

set_option Elab.async false
set_option linter.all false
set_option maxRecDepth 100000
namespace TT
open PySem PySem.Spec PyProof.Rows L2
/-! ### zip of two, each a list (false) or a tuple (true) -/
def SIt (b : Bool) (h : Heap) (it a : Addr) (i : Nat) : Prop := match b with | true => h.IsTupleIter it a i | false => h.IsListIter it a i
def SAt (b : Bool) (h : Heap) (a : Addr) (its : Array Value) : Prop := match b with | true => h.IsTuple a its | false => h.IsList a its
def SqB (b : Bool) (K : PySem.W.Frag) (H : Hp) (a : Addr) (xs : List V) : Prop := match b with | true => SqT K H a xs | false => SqL K H a xs
def sIt (b : Bool) (a : Addr) : Obj := match b with | true => { cls := .type "tuple_iterator", data := .fields #[.ref a, .int 0 0] } | false => { cls := .type "list_iterator", data := .fields #[.ref a, .int 0 0] }
theorem SIt.start {b : Bool} {h : Heap} {it a : Addr} (e : h.get? it = some (sIt b a)) : SIt b h it a 0 := by cases b <;> exact ⟨_, e, rfl, rfl⟩
theorem SIt.live {b : Bool} {h : Heap} {it a : Addr} {i : Nat} (x : SIt b h it a i) : ∃ o, h.get? it = some o ∧ ∀ v, o.data ≠ .cell v := by
  cases b
  · obtain ⟨o, e, _, d⟩ := x; exact ⟨o, e, fun v q => by rw [d] at q; cases q⟩
  · obtain ⟨o, e, _, d⟩ := x; exact ⟨o, e, fun v q => by rw [d] at q; cases q⟩
theorem SIt.at' {b : Bool} {h h' : Heap} {it a : Addr} {i : Nat} (x : SIt b h it a i) (k : ∀ o, h.get? it = some o → h'.get? it = some o) : SIt b h' it a i := by
  cases b
  · exact Heap.IsListIter.at x k
  · exact Heap.IsTupleIter.at x k
theorem sit_begins (b : Bool) (a : Addr) (its : Array Value) : Begins (.ref a) (sIt b a) (fun h => SAt b h a its) := by
  cases b
  · exact begins_list a its
  · exact begins_tuple a its
theorem sit_draws {prog : Program} {w : World} {A : Around} (hh : A.handled = none) (b : Bool) (it a : Addr) (hne : a ≠ it) (its : Array Value) :
    Draws prog w A it [it, a] its.size (fun i v => its[i]? = some v) (fun i h => SIt b h it a i ∧ SAt b h a its) := by
  cases b
  · exact Draws.list hh it a hne its
  · exact Draws.tuple hh it a hne its
theorem inv_sqB {X : Cx} {pins : List (Addr × Obj)} {s : Shared} {σ : L2.St} {H : Hp} {b : Bool} {a : Addr} {xs : List V} (I : Inv X pins σ H s) (h : SqB b X.K H a xs) : ∃ its : List Value, Vals xs its ∧ SAt b s.heap a its.toArray ∧ a < s.heap.objs.size := by
  cases b
  · obtain ⟨its, rv, p, _⟩ := I.list h
    exact ⟨its, rv, p.isList, p.lt⟩
  · obtain ⟨its, rv, p, _⟩ := I.tuple h
    obtain ⟨o1, ho1, _⟩ := id p
    exact ⟨its, rv, p, Heap.lt_size ho1⟩
theorem sqB_inj {X : Cx} {pins : List (Addr × Obj)} {s : Shared} {σ : L2.St} {H : Hp} {b : Bool} {a : Addr} {xs ys : List V} (I : Inv X pins σ H s) (h : SqB b X.K H a xs) (h' : SqB b X.K H a ys) : xs = ys := by
  cases b
  · exact I.list_inj h h'
  · exact I.tuple_inj h h'
def ItzB (K : PySem.W.Frag) (b1 b2 : Bool) (a b : Addr) : It :=
  ⟨fun i H => ∃ (xs ys : List V) (x y : V), SqB b1 K H a xs ∧ SqB b2 K H b ys ∧ xs[i]? = some x ∧ ys[i]? = some y,
    fun i H v H' => ∃ T x y, v = .ref T ∧ H T = none ∧ H' = upd H T (.tup [x, y]) ∧ (∀ xs, SqB b1 K H a xs → xs[i]? = some x) ∧ ∀ ys, SqB b2 K H b ys → ys[i]? = some y,
    fun i H => ∃ xs ys : List V, SqB b1 K H a xs ∧ SqB b2 K H b ys ∧ i = min xs.length ys.length⟩
theorem turn_zipB {P : Program} {w : World} {K : PySem.W.Frag} {elts : List Expr} {kk : Nat} {tpos : Pos} {b1 b2 : Bool} {a b z TI TO i1 i2 : Addr} (S : ZipSep2 z TI TO i1 i2 [i1, a] [i2, b]) (na : a ≠ i1) (nb : b ≠ i2) :
    Turn P w K (.Tuple elts kk tpos) (ItzB K b1 b2 a b) [z, TI, TO, i1, i2] z (fun i h => IsZip h z TI TO .none ∧ IsPair h TI (.ref i1) (.ref i2) ∧ (∃ x y, IsPair h TO x y) ∧ SIt b1 h i1 a i ∧ SIt b2 h i2 b i) where
  mem := by simp
  obj := fun i h st c hc => by
    obtain ⟨hz, hTI, ⟨x, y, hTO⟩, h1, h2⟩ := st
    have e' : c = z ∨ c = TI ∨ c = TO ∨ c = i1 ∨ c = i2 := by simpa using hc
    rcases e' with q | q | q | q | q
    · rw [q]; exact ⟨_, hz, fun v q => nomatch q⟩
    · rw [q]; exact ⟨_, hTI, fun v q => nomatch q⟩
    · rw [q]; exact ⟨_, hTO, fun v q => nomatch q⟩
    · rw [q]; exact h1.live
    · rw [q]; exact h2.live
  keep := fun i h h' st k => by
    obtain ⟨hz, hTI, ⟨x, y, hTO⟩, h1, h2⟩ := st
    exact ⟨k z (by simp) _ hz, k TI (by simp) _ hTI, ⟨x, y, k TO (by simp) _ hTO⟩, h1.at' fun o q => k i1 (by simp) o q, h2.at' fun o q => k i2 (by simp) o q⟩
  item := by
    intro X hP hw hK hc i pins s σ H E I hf st hg
    subst hP hw hK
    obtain ⟨hz, hTI, ⟨x0, y0, hTO⟩, h1, h2⟩ := st
    obtain ⟨xs, ys, x, y, hqx, hqy, hx, hy⟩ := hg
    obtain ⟨its, rv, p, _⟩ := inv_sqB I hqx
    obtain ⟨its2, rv2, p2, _⟩ := inv_sqB I hqy
    obtain ⟨u, hu, ru⟩ := rv.get hx
    obtain ⟨u2, hu2, ru2⟩ := rv2.get hy
    have hzl : z < s.heap.objs.size := Heap.lt_size hz
    have l1 : i < its.toArray.size := by
      have := (List.getElem?_eq_some_iff.mp hu).1
      simpa using this
    have l2 : i < its2.toArray.size := by
      have := (List.getElem?_eq_some_iff.mp hu2).1
      simpa using this
    refine wpAny_pyNext_zipD2_item S (sit_draws (A := X.A.in1) (I.ok.hd hc) b1 i1 a na its.toArray) (sit_draws (A := X.A.in1) (I.ok.hd hc) b2 i2 b nb its2.toArray) hz hTI hTO ⟨h1, p⟩ ⟨h2, p2⟩ l1 l2 fun x1 x2 h' tk hP1 hP2 z' TO' st1 st2 hT hsz hk => ?_
    have hxu : x1 = u := by
      have q : its.toArray[i]? = some u := by simpa using hu
      rw [q] at hP1
      exact (Option.some.inj hP1).symm
    have hxu2 : x2 = u2 := by
      have q : its2.toArray[i]? = some u2 := by simpa using hu2
      rw [q] at hP2
      exact (Option.some.inj hP2).symm
    subst hxu hxu2
    refine ⟨_, rfl, wpAny_letOwnedTupleGo_zip (s := { s with heap := h', toks := tk }) z' fun h'' z'' sb => ?_⟩
    have hT2 : h''.get? s.heap.objs.size = some { cls := .type "tuple", data := .seq #[x1, x2] } := (sb.2 _ (Nat.ne_of_gt hzl)).trans hT
    have new : ObjOk X.prog X.w (upd H s.heap.objs.size (.tup [x, y])) h'' s.heap.objs.size (.tup [x, y]) :=
      ⟨by show 2 ≤ sizeLine; decide, [x1, x2], .cons ru (.cons ru2 .nil), ⟨_, hT2, rfl, _, rfl⟩⟩
    have I1 : Inv X pins σ (upd H s.heap.objs.size (.tup [x, y])) { s with heap := h'', toks := tk } :=
      I.turnedNew (t' := tk) (ch := [z, TI, TO, i1, i2]) (fun c o hb q => (sb.2 c (fun q' => hb (by simp [q']))).trans (hk c o (fun q' => hb (by simp [q'])) (fun q' => hb (by simp [q'])) (fun q' => hb (by simp [q'])) (fun q' => hb (by simp [q'])) q)) hf (Nat.le_refl _) new
    refine ⟨.ref s.heap.objs.size, _, I1, rfl, ⟨_, x, y, rfl, I.hok.fresh (Nat.le_refl _), rfl, fun l hl => by rw [sqB_inj I hl hqx]; exact hx, fun l hl => by rw [sqB_inj I hl hqy]; exact hy⟩, ⟨z'', ?_, ⟨x1, x2, ?_⟩, ?_, ?_⟩, fun c hcm => ?_⟩
    · exact (sb.2 _ S.TIz).trans (hk _ _ S.TIz S.TITO S.TIi1 S.TIi2 hTI)
    · exact (sb.2 _ S.TOz).trans TO'
    · exact st1.1.at' fun o q => (sb.2 _ S.zi1.symm).trans q
    · exact st2.1.at' fun o q => (sb.2 _ S.zi2.symm).trans q
    · have hlt : c < s.heap.objs.size := by
        have e' : c = z ∨ c = TI ∨ c = TO ∨ c = i1 ∨ c = i2 := by simpa using hcm
        rcases e' with q | q | q | q | q
        · rw [q]; exact hzl
        · rw [q]; exact Heap.lt_size hTI
        · rw [q]; exact Heap.lt_size hTO
        · rw [q]; obtain ⟨_, e1, _⟩ := h1.live; exact Heap.lt_size e1
        · rw [q]; obtain ⟨_, e2, _⟩ := h2.live; exact Heap.lt_size e2
      rw [upd_ne (Nat.ne_of_lt hlt)]
      exact (hf c hcm).1
  done := by
    intro X hP hw hK hc i pins s σ H E I hf st hg
    subst hP hw hK
    obtain ⟨hz, hTI, ⟨x0, y0, hTO⟩, h1, h2⟩ := st
    obtain ⟨xs, ys, hqx, hqy, hend⟩ := hg
    obtain ⟨its, rv, p, _⟩ := inv_sqB I hqx
    obtain ⟨its2, rv2, p2, _⟩ := inv_sqB I hqy
    have l1 := rv.length
    have l2 := rv2.length
    refine wpAny_pyNext_zipD2_end S (sit_draws (A := X.A.in1) (I.ok.hd hc) b1 i1 a na its.toArray) (sit_draws (A := X.A.in1) (I.ok.hd hc) b2 i2 b nb its2.toArray) hz hTI hTO ⟨h1, p⟩ ⟨h2, p2⟩ (by simp; omega) (by simp; omega) (by simp; omega) fun h' tk hk => ⟨rfl, I.turnedL (t' := tk) (ch := [z, TI, TO, i1, i2]) (fun c o hb q =>
      hk c o (fun q' => hb (by simp [q'])) (fun q' => hb (by simp [q'])) (fun q' => hb (by simp [q'])) (fun q' => hb (by simp [q'])) q) hf⟩
  self := fun A i s Q E st h => wpAny_pyIter_zip st.1 h
def iZipB (K : PySem.W.Frag) (ta : TA) : TI := fun σ H R => ta σ H fun vs H1 => ∃ b1 b2 a b xs ys, vs = [.ref a, .ref b] ∧ SqB b1 K H1 a xs ∧ SqB b2 K H1 b ys ∧ R (ItzB K b1 b2 a b) H1
theorem pi_zipB {X : Cx} {e e2 : Expr} {ta : TA} {p pos tpos : Pos} {elts : List Expr} {kk : Nat} (hg : Gl X "zip") (hm : X.mg "zip" = none) (ha : PA X [e, e2] ta)
    (hs : starEach [e, e2] X.env = (false, eval e X.env) :: starEach [e2] X.env := by rfl) (hpl : (backTo pos (starEach [e2] X.env)).any (·.1) = false := by rfl) :
    PI X (.Tuple elts kk tpos) (.Call (.Name "zip" p) [e, e2] [] pos) (iZipB X.K ta) := by
  refine ⟨fun pins s σ H R I h => ?_⟩
  refine Call_ (ld_blt I hg hm PyProof.Rows.boot_zip (PyProof.Rows.callWith_type1 (thn (ha.run pos pins s σ H _ I h) fun us s1 ⟨vs, H1, I1, r1, q1⟩ => ?_) hs hpl))
  obtain ⟨b1, b2, a, b, xs, ys, ex, hqx, hqy, q⟩ := q1
  subst ex
  cases r1 with
  | cons r rr =>
    cases rr with
    | cons r' rr =>
      cases rr
      cases r
      cases r'
      have fresh5 : ∀ c, c ∈ [s1.heap.objs.size + 4, s1.heap.objs.size + 2, s1.heap.objs.size + 3, s1.heap.objs.size, s1.heap.objs.size + 1] → FpOk X pins H1 c := fun c hcm => by
        have e' : c = s1.heap.objs.size + 4 ∨ c = s1.heap.objs.size + 2 ∨ c = s1.heap.objs.size + 3 ∨ c = s1.heap.objs.size ∨ c = s1.heap.objs.size + 1 := by simpa using hcm
        have hle : s1.heap.objs.size ≤ c := by
          rcases e' with z | z | z | z | z
          · rw [z]; exact Nat.le_add_right _ _
          · rw [z]; exact Nat.le_add_right _ _
          · rw [z]; exact Nat.le_add_right _ _
          · rw [z]; exact Nat.le_refl _
          · rw [z]; exact Nat.le_add_right _ _
        exact I1.fpOk hle (I1.hok.fresh hle)
      obtain ⟨its, rv, p1, la⟩ := inv_sqB I1 hqx
      obtain ⟨its2, rv2, p2, lb⟩ := inv_sqB I1 hqy
      refine zip_begins2 (sit_begins b1 a its.toArray) (sit_begins b2 b its2.toArray) p1 p2 fun h' hz hTI hTO h1 h2 hsz hk => wpAny_pyIter_zip hz ?_
      have I2 : Inv X pins σ H1 { s1 with heap := h' } := I1.kept (t' := s1.toks) hk
      have S := zip_sep2 (N := s1.heap.objs.size) (fp1 := [a]) (fp2 := [b]) (fun c hc => by rw [List.mem_singleton.mp hc]; exact la) (fun c hc => by rw [List.mem_singleton.mp hc]; exact lb)
      exact ⟨s1.heap.objs.size + 4, [s1.heap.objs.size + 4, s1.heap.objs.size + 2, s1.heap.objs.size + 3, s1.heap.objs.size, s1.heap.objs.size + 1], _, _, H1, rfl, I2, turn_zipB S (Nat.ne_of_lt la) (Nat.ne_of_lt (Nat.lt_succ_of_lt lb)), ⟨hz, hTI, ⟨_, _, hTO⟩, .start h1, .start h2⟩, fresh5, q⟩
theorem walk_zipB {K : PySem.W.Frag} {b1 b2 : Bool} {a b : Addr} {xs ys : List V} {n : Nat} (hn : n = min xs.length ys.length) : Walk (ItzB K b1 b2 a b) n (fun H => SqB b1 K H a xs ∧ SqB b2 K H b ys) (YPair (fun i => xs[i]?) (fun i => ys[i]?)) := by
  refine ⟨fun i _ hi q => ⟨xs, ys, xs[i]'(by omega), ys[i]'(by omega), q.1, q.2, by simp [show i < xs.length by omega], by simp [show i < ys.length by omega]⟩, fun _ q => ⟨xs, ys, q.1, q.2, hn⟩, fun i H v H' _ q y => ?_⟩
  obtain ⟨T, x, y, h1, h2, h3, h4, h5⟩ := y
  exact ⟨T, x, y, h1, h2, h3, h4 xs q.1, h5 ys q.2⟩
end TT

set_option Elab.async false
set_option linter.all false
set_option maxRecDepth 100000
namespace TT
open PySem PySem.Spec PyProof.Rows L2
/-! ### lists (false) and tuples (true) alike -/
theorem SqB.same {b : Bool} {K : PySem.W.Frag} {H H' : Hp} {p : Addr} {xs : List V} (h : SqB b K H p xs) (s : Same H H') : SqB b K H' p xs := by
  cases b
  · exact s.seq h
  · exact sameT s h
def seqD (b : Bool) (ds : List PyData) : PyData := match b with | true => .tuple ds | false => .list ds
theorem seq_dp {b : Bool} {K : PySem.W.Frag} {H : Hp} {v : V} {ds : List PyData} (h : Dp K H v (seqD b ds)) : ∃ p xs, v = .ref p ∧ SqB b K H p xs ∧ DpAll K H xs ds := by
  cases b
  · cases h with
    | lst h1 h2 => exact ⟨_, _, rfl, h1, h2⟩
  · cases h with
    | tup h1 h2 => exact ⟨_, _, rfl, h1, h2⟩
theorem dp_seq {b : Bool} {K : PySem.W.Frag} {H : Hp} {p : Addr} {xs : List V} {ds : List PyData} (h1 : SqB b K H p xs) (h2 : DpAll K H xs ds) : Dp K H (.ref p) (seqD b ds) := by
  cases b
  · exact .lst h1 h2
  · exact .tup h1 h2
theorem ixB {b : Bool} {K : PySem.W.Frag} {H : Hp} {p : Addr} {xs : List V} {i : Nat} {v : V} {Q : VK} (h : SqB b K H p xs) (e : xs[i]? = some v) (q : Q v H) : rIx K (.ref p) (.int (i : Int)) H Q := by
  cases b
  · exact .inl ⟨p, xs, _, v, rfl, rfl, h, atI_nat e, q⟩
  · exact .inr (.inl ⟨p, xs, _, v, rfl, rfl, h, atI_nat e, q⟩)
theorem tupB' {b : Bool} {K : PySem.W.Frag} {H : Hp} {p : Addr} {ys : List V} {Q : VK} (h : SqB b K H p ys) (q : ∀ l H', Same H H' → SqT K H' l ys → Q (.ref l) H') :
    ∃ p' ys', [V.ref p] = [.ref p'] ∧ ((SqL K H p' ys' ∧ ∀ l, H l = none → Q (.ref l) (upd H l (.tup ys'))) ∨ (SqT K H p' ys' ∧ Q (.ref p') H)) := by
  cases b
  · exact ⟨p, ys, rfl, .inl ⟨h, fun l nl => q l _ (same_upd nl) (.inl (.inl upd_same))⟩⟩
  · exact ⟨p, ys, rfl, .inr ⟨h, q p H (Same.refl H) h⟩⟩
def rTupQ (K : PySem.W.Frag) : List V → Hp → VK → Prop := fun xs H Q => ∃ p ys, xs = [.ref p] ∧ ((SqL K H p ys ∧ ∀ l, H l = none → Q (.ref l) (upd H l (.tup ys))) ∨ (SqT K H p ys ∧ Q (.ref p) H))
def rLstQ (K : PySem.W.Frag) : List V → Hp → VK → Prop := fun xs H Q => ∃ p ys, xs = [.ref p] ∧ (SqL K H p ys ∨ SqT K H p ys) ∧ ∀ l, H l = none → Q (.ref l) (upd H l (.lst ys))
def ItB (K : PySem.W.Frag) (b : Bool) (a : Addr) : It := match b with | true => Itt K a | false => Itl K a
def iSeqB (K : PySem.W.Frag) (tl : TE) : TI := fun σ H R => tl σ H fun x H1 => ∃ b a, x = .ref a ∧ (∃ xs, SqB b K H1 a xs) ∧ R (ItB K b a) H1
theorem walk_seqB {K : PySem.W.Frag} {b : Bool} {a : Addr} {xs : List V} : Walk (ItB K b a) xs.length (fun H => SqB b K H a xs) (YAt xs) := by
  cases b
  · exact walk_list
  · exact walk_tup
section
variable {X : Cx} {tg : Expr}
theorem pi_seqB {l : Expr} {tl : TE} (hl : PE X l tl) : PI X tg l (iSeqB X.K tl) := by
  refine ⟨fun pins s σ H R I h => ?_⟩
  refine thn (hl.run pins s σ H _ I h) fun v s1 ⟨x, H1, I1, r1, q1⟩ => ?_
  obtain ⟨b, a, e, ⟨xs, hq⟩, q⟩ := q1
  subst e
  cases r1
  have free : ∀ c, c ∈ [s1.heap.objs.size] → FpOk X pins H1 c := fun c hc => by
    rw [List.mem_singleton.mp hc]
    exact I1.fpOk (Nat.le_refl _) (I1.hok.fresh (Nat.le_refl _))
  cases b
  · obtain ⟨its, rv, p, hz⟩ := I1.list hq
    refine wpAny_pyIter_list p.isList ?_
    exact ⟨s1.heap.objs.size, [s1.heap.objs.size], _, _, H1, rfl, I1.kept (t' := s1.toks) fun b o e => Heap.get?_push_of_some _ e, turn_list a _, ⟨_, Heap.get?_push_size _ rfl, rfl, rfl⟩, free, q⟩
  · obtain ⟨its, rv, p, hz⟩ := I1.tuple hq
    refine wpAny_pyIter_tuple (show s1.heap.IsTuple a its.toArray from p) ?_
    exact ⟨s1.heap.objs.size, [s1.heap.objs.size], _, _, H1, rfl, I1.kept (t' := s1.toks) fun b o e => Heap.get?_push_of_some _ e, turn_tuple a _, ⟨_, Heap.get?_push_size _ rfl, rfl, rfl⟩, free, q⟩
def gSeqB (K : PySem.W.Frag) (n : Nat) (t : TGs) : TG := fun v σ H Q => ∃ b a xs, v = .ref a ∧ SqB b K H a xs ∧ xs.length = n ∧ t xs σ H Q
theorem pg_seqB {es : List Expr} {k : Nat} {t : TGs} {n : Nat} {pos : Pos} (hc : X.calm = true) (h : PGs X es t)
    (hn : (assignEach es X.env).length = n := by rfl) (hst : (assignEach es X.env).findIdx? (·.1) = none := by rfl) : PG X (.Tuple es k pos) (gSeqB X.K n t) := by
  refine ⟨fun pins s σ H v u Q I r hw => ?_⟩
  obtain ⟨b, a, xs, e1, hq, hl, hw⟩ := hw
  cases b
  · exact (pg_lst hc h hn hst).run pins s σ H v u Q I r ⟨a, xs, e1, hq, hl, hw⟩
  · exact (pg_tup hc h hn hst).run pins s σ H v u Q I r ⟨a, xs, e1, hq, hl, hw⟩
end
end TT

set_option Elab.async false
set_option linter.all false
set_option maxRecDepth 100000
namespace TT
open PySem PySem.Spec PyProof.Rows L2
/-! ### an exception that was caught and is kept: tracked behind its suite -/
def exk (a : Addr) (cls : Value) (d : Option Addr) : HO := .ext fun h => ∃ oe vs, h.get? a = some oe ∧ Zc cls d oe ∧ oe.data = .fields vs
theorem exk_ok {P : Program} {w : World} {H : Hp} {h : Heap} {a : Addr} {cls : Value} {d : Option Addr} {oe : Obj} {vs : Array Value} (e : h.get? a = some oe) (z : Zc cls d oe) (f : oe.data = .fields vs) : ObjOk P w H h a (exk a cls d) :=
  ⟨⟨oe, vs, e, z, f⟩, ⟨oe, e⟩, fun h1 h2 ⟨o', v', e', z', f'⟩ k => ⟨o', v', k _ e', z', f'⟩⟩
theorem exk_at {P : Program} {w : World} {H : Hp} {h : Heap} {a : Addr} {cls : Value} {d : Option Addr} (hok : HOk P w H h) (e : H a = some (exk a cls d)) : ∃ oe vs, h.get? a = some oe ∧ Zc cls d oe ∧ oe.data = .fields vs := by
  have x : ObjOk P w H h a (.ext fun h => ∃ oe vs, h.get? a = some oe ∧ Zc cls d oe ∧ oe.data = .fields vs) := hok a _ e
  exact x.1
section
variable {X : Cx} {pins : List (Addr × Obj)} {σ : L2.St} {H : Hp} {s : Shared} {a : Addr} {oe : Obj} {o : HO}
/-- what was pinned is tracked from now on -/
theorem track (I : Inv X ((a, oe) :: pins) σ H s) (h0 : X.s_0.heap.get? a = none) (hp : ∀ p ∈ X.pn ++ pins, p.1 ≠ a) (new : ObjOk X.prog X.w (upd H a o) s.heap a o) : Inv X pins σ (upd H a o) s := by
  obtain ⟨ga, na, nl, nf, nc⟩ := I.pin (a, oe) (List.mem_append_right _ (List.mem_cons_self ..))
  have ga : s.heap.get? a = some oe := ga
  have na : H a = none := na
  have ne0 : ∀ {b : Addr} {u : Obj}, X.s_0.heap.get? b = some u → b ≠ a := fun {b u} e z => by
    rw [z, h0] at e; cases e
  refine ⟨I.ok, I.os, I.bare, ⟨I.base.keep, I.base.slot, fun b u e n hx => ?_, I.base.there, fun b xs e => ?_, fun b u v e => ?_, fun b ps e => ?_⟩, I.loc, I.cell, ?_, fun x c e => ?_, fun p hp' => ?_, fun b u e => ?_, I.len⟩
  · rw [upd_ne (ne0 e)]; exact I.base.free b u e n hx
  · have q := I.base.tups b xs e
    rw [upd_ne (ne_of_none q na)]; exact q
  · have q := I.base.frzs b u v e
    rw [upd_ne (ne_of_none q na)]; exact q
  · obtain ⟨more, q⟩ := I.base.tbls b ps e
    exact ⟨more, by rw [upd_ne (ne_of_none q na)]; exact q⟩
  · rw [upd_ne (Ne.symm nl)]; exact I.free
  · have q : c ≠ a := fun z => by
      obtain ⟨v, hv⟩ := I.cell x c e
      rw [z] at hv
      obtain ⟨oc, e1, e2⟩ := hv
      rw [ga] at e1
      cases e1
      exact nc v e2
    rw [upd_ne q]; exact I.freeC x c e
  · have hm : p ∈ X.pn ++ (a, oe) :: pins := by
      rcases List.mem_append.mp hp' with z | z
      · exact List.mem_append_left _ z
      · exact List.mem_append_right _ (List.mem_cons_of_mem _ z)
    obtain ⟨q1, q2, q3⟩ := I.pin p hm
    exact ⟨q1, by rw [upd_ne (hp p hp')]; exact q2, q3⟩
  · by_cases hb : b = a
    · subst hb
      rw [upd_same] at e
      cases e
      exact new
    · rw [upd_ne hb] at e
      exact (I.hok b u e).stay (fun c v hc q => q) (fun c hc => by rw [upd_ne (ne_of_none hc na)]; exact hc) fun c xs hc => by rw [upd_ne (ne_of_none hc na)]; exact hc
end
/-- what "except x as n: m = n" wishes of an exception of the body: slot i is n's, slot j is m's -/
def wKeep (K : PySem.W.Frag) (c : Value) (i j : Nat) (Wout : WX) (D : Ends) : WX := fun cls d σ H =>
  ∃ b, PySem.W.exmOne K cls c = some b ∧ (b = true → ∀ a, H a = none → D.nx (((σ.set i (some (.ref a))).set j (some (.ref a))).set i none) (upd H a (exk a cls d))) ∧ (b = false → Wout cls d σ H)
section
variable {X : Cx} {x n m : Str} {c : Value} {i j : Nat} {body : List Stmt} {np pos pos' pm pn' ps : Pos} {tb : WX → TS} {Wout : WX}
theorem ps_try_keep (hs : X.stack = X.env :: X.outer) (hf : X.env.frame = some X.env.locals) (hN : X.N.Nodup) (hi : X.N[i]? = some n) (hj : X.N[j]? = some m) (hln : X.env.kindOf n = some .local) (hij : i ≠ j) (hex : X.ex = [])
    (hc : Names X x c) (tk : Takes X Wout)
    (hb : ∀ (W : WX) (pn : List (Addr × Obj)) (xe : Value → Shared → Prop), Takes (X.tr pn xe) W → PassesOwn (model X.prog X.w) X.A X.env xe → PSs (X.tr pn xe) body (tb W))
    (hsu : ∀ (a : Addr) (oe : Obj) (pn : List (Addr × Obj)), PSs (X.suite a ((a, oe) :: pn)) [.Assign [.Name m pm] (.Name n pn') ps] (tAsg (tVar i) (gName j))) :
    PS X (.Try body [.ExceptHandler (some (.Name x np)) (some n) [.Assign [.Name m pm] (.Name n pn') ps] pos'] [] [] pos) (fun D σ H => tb (wKeep X.K c i j Wout D) D σ H) := by
  refine ⟨fun pins s σ H D I h => ?_⟩
  have ok := I.ok
  have frm : X.A.frames = some (X.env :: X.outer) := by rw [ok.frames, hs]
  refine wpAny_Try_except ?_
  let hds : List ExceptHandler := [.ExceptHandler (some (.Name x np)) (some n) [.Assign [.Name m pm] (.Name n pn') ps] pos']
  let XE' : Value → Shared → Prop := fun e s₁ => wpAny (model X.prog X.w) X.A (noteFrame e X.env) (fun _ s₂ => wpAny (model X.prog X.w) X.A (setFlight e none) (fun _ s₃ => wpAny (model X.prog X.w) X.A (handleBy e X.env hds) (SP X pins D) X.xe s₃) X.xe s₂) X.xe s₁
  have hT : Takes (X.tr (X.pn ++ pins) XE') (wKeep X.K c i j Wout D) := by
    intro u s' z
    obtain ⟨a, B, s0, pn0, σ1, H1, cls, d, hu, J0, nb, up, sky, na, os, ag, b, hb1, yes, no⟩ := z
    have hu : u = .ref a := hu
    subst hu
    have J : Inv X pins σ1 H1 s0 := J0.ofTry ok
    have sky : Sky B (X.env :: X.outer) a (Zc cls d) X.env.locals s'.heap := by rw [← hs]; exact sky
    have Ba : B.get? a = none := by
      rcases sky with q | q | q
      · exact q.2.1
      · exact q.2.1
      · exact q.2.1
    show wpAny (model X.prog X.w) X.A (noteFrame (.ref a) X.env) _ _ _
    refine Sky.land Zc.steady frm hf sky fun hA fA uA => ?_
    have JA : Inv X pins σ1 H1 { s' with heap := hA } := J.landed nb fA.1 (up.trans uA) os ag
    obtain ⟨oA, vA, eA, zA, dA⟩ := fA.there
    -- the exception is no frame's record
    have notF : a ∉ frs (X.env :: X.outer) := fun hm => by
      obtain ⟨_, o', e', hnf⟩ := fA.2.2.1.mem hm
      rw [eA] at e'
      cases e'
      exact hnf _ dA
    have nL : a ≠ X.env.locals := fun z => notF (List.mem_filterMap.mpr ⟨X.env, List.mem_cons_self, by rw [hf, z]⟩)
    have nF : a ∉ X.fs := fun hm => by
      obtain ⟨e, he, q⟩ := List.mem_filterMap.mp hm
      exact notF (List.mem_filterMap.mpr ⟨e, List.mem_cons_of_mem _ he, q⟩)
    -- it wasn't there ahead of the body
    have none0 : s0.heap.get? a = none := by
      cases e : s0.heap.get? a with
      | none => rfl
      | some o =>
        have q := nb a o e (by rw [hs]; exact notF)
        rw [Ba] at q
        cases q
    have base0 : X.s_0.heap.get? a = none := by
      cases e : X.s_0.heap.get? a with
      | none => rfl
      | some o =>
        obtain ⟨o', q⟩ := J.base.there a o e (by rw [hex]; exact List.not_mem_nil)
        rw [none0] at q
        cases q
    have pin0 : ∀ p ∈ X.pn ++ pins, p.1 ≠ a := fun p hp z => by
      obtain ⟨q, _⟩ := J.pin p hp
      rw [z, none0] at q
      cases q
    refine wpAny_handleBy_cons (codeAny_handlers_test ?_) (by intro q; cases q)
    have LT : PySem.W.Looks (model X.prog X.w) hA (typeOf (.ref a)) cls := fun A Q E s k q => wpAny_typeOf_ref (k _ _ eA) (by rw [zA.1]; exact q)
    have LM := PySem.W.exm_one (M := model X.prog X.w) (JA.kIn) LT hb1
    have named : ∀ {Q : Value → Shared → Prop} {E : Value → Shared → Prop}, Q c { s' with heap := hA } → wpAny (model X.prog X.w) (X.A.mark (some (.ref a))) (eval (.Name x np) X.env) Q E { s' with heap := hA } := fun {Q E} q => by
      have SA := JA.suite eA dA na nL nF
      obtain ⟨g1, g2, g3 | ⟨g3, g4, g5⟩⟩ := hc
      · exact ld_glob (X := X.suite a ((a, oA) :: (X.pn ++ pins))) SA g1 g3 q g2
      · exact ld_blt (X := X.suite a ((a, oA) :: (X.pn ++ pins))) SA g1 g3 g4 q g5 g2
    refine named (LM.here ?_)
    cases b with
    | true =>
      refine codeAny_handlers_suite_as ?_
      refine HandSPX.lands_againZ fA fun hB fB uB => ?_
      have JB : Inv X pins σ1 H1 { s' with heap := hB } := J.landed nb fB.1 ((up.trans uA).trans uB) os ag
      obtain ⟨oB, vB, eB, zB, dB⟩ := fB.there
      have SB := JB.suite eB dB na nL nF
      refine store_ok (X := X.suite a ((a, oB) :: (X.pn ++ pins))) (v := .ref a) SB hN hi (.inl hln) rfl (fun s5 S5 => ?_) (.inr hln)
      have hil : i < σ1.length := by rw [J.len]; exact (List.getElem?_eq_some_iff.mp hi).1
      refine wpAny_mono ((hsu a oB (X.pn ++ pins)).run [] s5 _ H1 { nx := fun σ' H' => σ' = (σ1.set i (some (.ref a))).set j (some (.ref a)) ∧ H' = H1, rt := fun _ _ => False, bk := fun _ _ => False, ct := fun _ _ => False } S5 ⟨.ref a, by rw [List.getElem?_set_self hil], rfl, rfl⟩) (fun f s6 q => ?_) (fun _ _ z => False.elim z)
      cases f with
      | next =>
        obtain ⟨σ6, H6, S6, e6, e7⟩ := q
        rw [e6, e7] at S6
        obtain ⟨p1, p2, p3, p4, p5⟩ := S6.pin (a, oB) (List.mem_append_left _ List.mem_cons_self)
        have J6 : L2.Inv X ((a, oB) :: pins) ((σ1.set i (some (.ref a))).set j (some (.ref a))) H1 s6 := (S6.unsuite (pins := pins) ok).pins_of fun p hp => by
          rcases List.mem_cons.mp hp with e | hp
          · rw [e]; exact ⟨p1, p2, p3, p4, p5⟩
          · exact (S6.unsuite (pins := pins) ok).pin p (List.mem_append_right _ hp)
        refine gone_ok J6 hN hi hln fun s7 J7 => ?_
        obtain ⟨q1, _⟩ := J7.pin (a, oB) (List.mem_append_right _ List.mem_cons_self)
        exact ⟨_, _, track J7 base0 pin0 (exk_ok q1 zB dB), yes rfl a na⟩
      | brk =>
        obtain ⟨_, _, _, q⟩ := q
        exact q.elim
      | cont =>
        obtain ⟨_, _, _, q⟩ := q
        exact q.elim
      | ret u =>
        obtain ⟨_, _, _, _, _, q⟩ := q
        exact q.elim
    | false =>
      show wpAny _ X.A (handleBy (.ref a) X.env []) _ _ _
      refine wpAny_handleBy_nil ?_
      obtain ⟨_, _, _, oE, vE, T, oT, tE, w1, w2, w3, w4, w5⟩ := id fA
      unfold PySem.passOn
      refine wpAny_bind (wpAny_field w1 w3 w4 ?_)
      rw [if_neg (by simp : ¬ ((Value.ref T == Value.none) = true))]
      have on : wpAny (model X.prog X.w) X.A (setFlight (.ref a) X.env.frame) (fun _ t => wpAny (model X.prog X.w) X.A (throw (.ref a) : Sem Flow) (SP X pins D) X.xe t) X.xe { s' with heap := hA } := by
        rw [hf]
        refine HandSPX.setFlight_upZ fA fun hC fC uC => wpAny_throw (tk _ _ ⟨a, B, s0, pins, σ1, H1, cls, d, rfl, J, nb, (up.trans uA).trans uC, .inr (.inr (by rw [hs]; exact fC)), na, os, ag, no rfl⟩)
      first
        | exact wpAny_bind (wpAny_pure (wpAny_bind on))
        | exact wpAny_bind on
  refine wpAny_mono ((hb _ _ XE' hT PassesOwn.looking).run [] s σ H D (I.toTry _) h) (fun f s1 q => ?_) fun _ _ z => z
  cases f with
  | next =>
    obtain ⟨σ', H', J', q⟩ := q
    exact wpAny_execs_nil ⟨σ', H', J'.ofTry ok, q⟩
  | brk =>
    obtain ⟨σ', H', J', q⟩ := q
    exact ⟨σ', H', J'.ofTry ok, q⟩
  | cont =>
    obtain ⟨σ', H', J', q⟩ := q
    exact ⟨σ', H', J'.ofTry ok, q⟩
  | ret u =>
    obtain ⟨v, σ', H', J', r, q⟩ := q
    exact ⟨v, σ', H', J'.ofTry ok, r, q⟩
end
/-! ### what is asked of a kept one -/
/-- what the class must say -/
structure KxC (K : PySem.W.Frag) (C : Addr) : Prop where
  cl : (PySem.W.clsIn K C).isSome = true
  ga : PySem.W.findIn K (.ref C) "__getattribute__" = some (some (.builtin "BaseException.__getattribute__"))
  gt : PySem.W.findIn K (.ref C) "__getattr__" = some none
  sb : PySem.W.subIn K (.ref C) (.type "BaseException") = some true
  ca : PySem.W.findIn K (.ref C) "__class__" = some (some (.builtin "object.__class__"))
  sp : PySem.W.specialIn K (.builtin "object.__class__") "__get__" = some (some (.builtin "getset_descriptor.__get__"))
  tk : PySem.W.takesIn K (.builtin "object.__class__") = some true
  mo : PySem.W.mroIn K C (.type "object") = some true
  hd : PySem.W.hasDictIn K C = true
section
variable {X : Cx} {pins : List (Addr × Obj)} {σ : L2.St} {H : Hp} {s : Shared} {a C dd : Addr} {fs : List (Str × V)}
theorem kept_inst (I : L2.Inv X pins σ H s) (e : H a = some (exk a (.ref C) (some dd))) (ed : H dd = some (.xd fs)) :
    ∃ (oe od : Obj) (mA : Str → Option Value), PySem.W.InstAt s.heap a oe C (some od) ∧ (∀ f, RelO (fs.lookup f) (mA f)) ∧ ∀ f, PySem.W.lookIn f od = some (mA f) := by
  obtain ⟨oe, vs, e1, e2, e3⟩ := exk_at I.hok e
  obtain ⟨mA, hn, hr⟩ := (show ObjOk X.prog X.w H s.heap dd (.xd fs) from I.hok dd _ ed)
  obtain ⟨od, ho, hl⟩ := lookIn_ns hn
  exact ⟨oe, od, mA, ⟨e1, e2.1, by unfold PySem.W.notCls; rw [e3] <;> rfl, by rw [e2.2]; exact ho⟩, hr, hl⟩
end
/-- isinstance(e, c), e kept -/
def rIsX (K : PySem.W.Frag) : List V → Hp → VK → Prop := fun xs H Q => ∃ (a C dd : Addr) (fs : List (Str × V)) (c : V) (u : Value) (b : Bool), xs = [.ref a, c] ∧ H a = some (exk a (.ref C) (some dd)) ∧ H dd = some (.xd fs) ∧ KxC K C ∧ ClsV c u ∧ PySem.W.kitOne K (.ref C) u = some b ∧ Q (.bl b) H
/-- isinstance(e, (c1, c2, ..)), e kept, the tuple just laid -/
def rIsXT (K : PySem.W.Frag) : List V → Hp → VK → Prop := fun xs H Q => ∃ (a C dd tp : Addr) (fs : List (Str × V)) (cs : List V) (us : List Value) (b : Bool), xs = [.ref a, .ref tp] ∧ H a = some (exk a (.ref C) (some dd)) ∧ H dd = some (.xd fs) ∧ KxC K C ∧ H tp = some (.tup cs) ∧ Paired ClsV cs us ∧
  PySem.W.kitAny K (.ref C) us = some b ∧ Q (.bl b) H
/-- e.f, e kept -/
def tXk (K : PySem.W.Frag) (f : Str) (te : TE) : TE := fun σ H Q => te σ H fun x H1 => ∃ (a C dd : Addr) (fs : List (Str × V)) (v : V), x = .ref a ∧ H1 a = some (exk a (.ref C) (some dd)) ∧ H1 dd = some (.xd fs) ∧ KxC K C ∧ PySem.W.findIn K (.ref C) f = some none ∧ fs.lookup f = some v ∧ Q v H1
section
variable {X : Cx}
theorem call_isX : CallR X (.builtin "isinstance") (rIsX X.K) := by
  intro pins s σ H xs us Q I r h
  obtain ⟨a, C, dd, fs, c, u, b, rfl, ea, ed, T, k, e, q⟩ := h
  obtain ⟨u1, u2, rfl, r1, r2⟩ := vals2 r
  cases (show u1 = Value.ref a from r1)
  have e2 := k.eq r2
  subst e2
  obtain ⟨oe, od, mA, J, _, _⟩ := kept_inst I ea ed
  exact PySem.W.kia_one (PySem.W.kitx_exc T.cl T.ga T.gt T.sb T.ca T.sp T.tk T.mo) I.kIn J e (fun z => nomatch z) fun tk => ⟨.bl b, H, I.tok tk, rfl, q⟩
theorem call_isXT : CallR X (.builtin "isinstance") (rIsXT X.K) := by
  intro pins s σ H xs us Q I r h
  obtain ⟨a, C, dd, tp, fs, cs, ws, b, rfl, ea, ed, T, hT, k, e, q⟩ := h
  obtain ⟨u1, u2, rfl, r1, r2⟩ := vals2 r
  cases (show u1 = Value.ref a from r1)
  cases (show u2 = Value.ref tp from r2)
  obtain ⟨oe, od, mA, J, _, _⟩ := kept_inst I ea ed
  obtain ⟨_, its, rv, o, h1, h2, n, h3⟩ := (show ObjOk X.prog X.w H s.heap tp (.tup cs) from I.hok tp _ hT)
  have e3 := ClsV.all k rv
  subst e3
  obtain ⟨oc, ob, dt, sl⟩ := o
  simp only at h2 h3
  subst h2 h3
  exact PySem.W.kia_tup (PySem.W.kitx_exc T.cl T.ga T.gt T.sb T.ca T.sp T.tk T.mo) I.kIn J h1 e (fun z => nomatch z) fun tk => ⟨.bl b, H, I.tok tk, rfl, q⟩
theorem pe_xk {e : Expr} {te : TE} {pos : Pos} {f : Str} (he : PE X e te) (hb : attributeBase e f X.env (eval e X.env) = eval e X.env := by rfl) : PE X (.Attribute e f pos) (tXk X.K f te) := by
  refine ⟨fun pins s σ H Q I h => attr_of hb (thn (he.run pins s σ H _ I h) fun u s1 z => ?_)⟩
  obtain ⟨x, H1, I1, rx, a, C, dd, fs, v, ex, ea, ed, T, hf, hl, q⟩ := z
  subst ex
  cases (show u = Value.ref a from rx)
  obtain ⟨oe, od, mA, J, hr, lk⟩ := kept_inst I1 ea ed
  obtain ⟨uv, hu, ru⟩ := RelO.some_of (v := v) (o := mA f) (by rw [← hl]; exact hr f)
  exact HandSPX.exc_get I1.kIn J T.ga T.gt T.sb (PySem.W.findObj_own T.hd hf rfl (by rw [lk f, hu])) (handed_of ru) ⟨v, H1, I1.tok _, ru, q⟩
end
end TT

set_option Elab.async false
set_option linter.all false
set_option maxRecDepth 100000
set_option maxHeartbeats 2000000
namespace TT
open PySem PySem.Spec PyProof.Rows L2
/-! ### own classes of error over any built-in one, with an __init__ of their own -/
structure OexG (K : PySem.W.Frag) (C : Addr) : Prop where
  cls : ∃ (B newId initId : String) (bmB : List Value) (nm q : Str) (N : Addr) (bs bm : List Value) (sn : List Str) (sub : List Value) (ab : Bool) (col : Option Bool) (dd : Option Addr) (k0 k1 k2 k3 k5 : Option Value),
    ExcBaseFacts B newId initId bmB ∧ StoreFacts B bmB "object.__setattr__" "object" ∧ K.lookup C = some (excClassObj nm q C N bs bm true sn sub ab col dd k0 k1 k2 k3 k5 newId) ∧ PySem.W.excTail bmB bm = true
  sa : PySem.W.findIn K (.ref C) "__setattr__" = some (some (.builtin "object.__setattr__"))
  exC : PySem.W.subIn K (.ref C) (.type "BaseException") = some true
  tyC : PySem.W.typeIn K (.ref C) = some (.type "type")
  kC : PySem.W.keepIn K (.ref C) = true
section
variable {prog : Program} {w : World} {A : Around} {E : Value → Shared → Prop} {R : Result → Shared → Prop} {hp : Heap} {g : Array GenState} {d : Drawn} {t : Nat} {os : OsState} {K : PySem.W.Frag} {name : Str} {tk : Tok} {v : Value} {x C t1 : Addr}
theorem osg_over (T : OexG K C) : ∃ (B : String) (bmB : List Value), StoreFacts B bmB "object.__setattr__" "object" ∧ PySem.W.excOver K C bmB = true ∧ ∃ cd, PySem.W.clsIn K C = some cd ∧ cd.hasDict = true := by
  obtain ⟨B, newId, initId, bmB, nm, q, N, bs, bm, sn, sub, ab, col, dd, k0, k1, k2, k3, k5, F, SF, hC, hb⟩ := T.cls
  have hcl : PySem.W.clsIn K C = some { name := nm, bases := bs, mro := .ref C :: bm, ns := N, qualname := q, hasDict := true, slotNames := sn, subclasses := sub, abstract := ab, collection := col, hasDel := false } := by unfold PySem.W.clsIn; rw [hC] <;> rfl
  refine ⟨B, bmB, SF, ?_, _, hcl, rfl⟩
  unfold PySem.W.excOver
  rw [hcl]
  show (C == C && PySem.W.excTail bmB bm) = true
  rw [hb, beq_self_eq_true]; rfl
theorem taker_of (h : PySem.W.findIn K (.ref C) name = some none) : PySem.W.takerIn K C name = some none := by
  unfold PySem.W.takerIn
  rw [h]; rfl
/-- the first field of one that is being made -/
theorem osg_new (T : OexG K C) (X : K.In hp) (hx : hp.get? x = some { cls := .ref C, dict := none, data := .fields #[.ref t1, .none, .none, .none, .bool false, .none] }) (hf : PySem.W.findIn K (.ref C) name = some none)
    (hq : ∀ h' tk' dx, (∀ b o, b ≠ x → hp.get? b = some o → h'.get? b = some o) → hp.objs.size ≤ dx → dx ≠ x → h'.get? x = some { cls := .ref C, dict := some dx, data := .fields #[.ref t1, .none, .none, .none, .bool false, .none] } →
      h'.Ns1 dx (fun y => if y = name then some v else none) → R (.ok (.ret .none)) ⟨h', g, d, tk', os⟩) :
    codeAny (model prog w) A (.call (.builtin "object.__setattr__") ⟨[.ref x, .str name tk, v], []⟩) R ⟨hp, g, d, t, os⟩ := by
  obtain ⟨B, bmB, SF, ho, cd, hc, hd⟩ := osg_over T
  refine PySem.W.osa_openX (od := none) SF X ⟨hx, rfl, rfl, trivial⟩ ho (taker_of hf) fun b => ?_
  have nx : x ≠ hp.objs.size := Nat.ne_of_lt (Heap.lt_size hx)
  refine wpAny_bind (wpAny_pure (wpAny_bind (PySem.W.instanceDict_exc hx (PySem.W.looks_clsIn X hc) hd ?_)))
  refine HandSPX.store_in_new ⟨_, #[], _, (Heap.get?_update_ne _ _ _ _ nx.symm).trans (Heap.get?_push_at rfl rfl), rfl, fun e he => absurd he (by simp), fun _ => rfl⟩ fun h' tk' hn sb => ?_
  refine hq h' tk' hp.objs.size (fun b o nb eb => ?_) (Nat.le_refl _) nx.symm ?_ hn
  · exact (sb.2 b (Nat.ne_of_lt (Heap.lt_size eb))).trans ((Heap.get?_update_ne _ _ _ _ nb).trans (Heap.get?_push_of_some _ eb))
  · exact (sb.2 x nx).trans (Heap.get?_update_self _ (Heap.get?_push_of_some _ hx) rfl)
/-- a further field -/
theorem osg_old {dx : Addr} {m0 : Str → Option Value} {nl : List Str} (T : OexG K C) (X : K.In hp) (hx : hp.get? x = some { cls := .ref C, dict := some dx, data := .fields #[.ref t1, .none, .none, .none, .bool false, .none] }) (hf : PySem.W.findIn K (.ref C) name = some none)
    (hns : hp.Ns1 dx m0) (hw : Within m0 nl) (hz : nl.length ≤ 1000)
    (hq : ∀ h' tk', (∀ b o, b ≠ dx → hp.get? b = some o → h'.get? b = some o) → h'.Ns1 dx (fun y => if y = name then some v else m0 y) → R (.ok (.ret .none)) ⟨h', g, d, tk', os⟩) :
    codeAny (model prog w) A (.call (.builtin "object.__setattr__") ⟨[.ref x, .str name tk, v], []⟩) R ⟨hp, g, d, t, os⟩ := by
  obtain ⟨B, bmB, SF, ho, cd, hc, hd⟩ := osg_over T
  obtain ⟨oD, _, _, hoD, _, _⟩ := hns.count hw
  refine PySem.W.osa_openX (od := some oD) SF X ⟨hx, rfl, rfl, hoD⟩ ho (taker_of hf) fun b => ?_
  refine wpAny_bind (wpAny_pure (wpAny_bind (wpAny_bind (wpAny_loadPart hx (wpAny_bind ((PySem.W.looks_clsIn X hc).here ?_))))))
  rw [hd]
  refine wpAny_pure (a := some dx) ?_
  exact PySem.OEX.store_in_old hns hw hz fun h' tk' hn sb => hq h' tk' (fun b o nb eb => (sb.2 b nb).trans eb) hn
end
section
variable {X : Cx} {pins : List (Addr × Obj)} {σ : L2.St} {H : Hp} {s : Shared} {a C dx : Addr} {f : Str} {y : V} {u : Value} {fs : List (Str × V)} {Q : Unit → Shared → Prop} {E : Value → Shared → Prop} {A : Around}
theorem ostg_new (T : OexG X.K C) (I : L2.Inv X pins σ H s) (e : H a = some (exo a C none)) (hno : PySem.W.findIn X.K (.ref C) f = some none) (ry : RelV y u)
    (h : ∀ dx s', H dx = none → dx ≠ a → L2.Inv X pins σ (upd (upd H dx (exd dx [(f, y)])) a (exo a C (some dx))) s' → Q () s') : wpAny (model X.prog X.w) A (setAttr (.ref a) f u) Q E s := by
  obtain ⟨t1, ho⟩ := exo_at I.hok e
  obtain ⟨hp, g, d, t, os⟩ := s
  refine PySem.W.set_plain I.kIn (od := none) ⟨ho, rfl, rfl, trivial⟩ T.sa (osg_new T I.kIn ho hno fun h' tk' dx k dn dne hx hn => ?_)
  have free : H dx = none := I.hok.fresh dn
  have old : ∀ {b : Addr} {o : Obj}, hp.get? b = some o → b ≠ dx := fun q => Nat.ne_of_lt (Nat.lt_of_lt_of_le (Heap.lt_size q) dn)
  have noa : ∀ {b : Addr}, H b = none → b ≠ a := fun n z => by
    rw [z, e] at n; cases n
  have look : ∀ {b : Addr} {v : HO}, H b = some v → exo a C none ≠ v → (upd (upd H dx (exd dx [(f, y)])) a (exo a C (some dx))) b = some v := fun {b v} q ne => by
    rw [upd_ne (at_ne e q ne), upd_ne (ne_of_none q free)]; exact q
  have un : Un X.fs [] H (upd (upd H dx (exd dx [(f, y)])) a (exo a C (some dx))) hp h' := ⟨fun b o q n _ _ => k b o (noa n) q, fun b o q n _ _ => ⟨o.slots, k b o (noa n) q⟩,
    fun b o q n _ => by rw [upd_ne (noa n), upd_ne (old q)]; exact n,
    fun b o q _ => by
      by_cases hb : b = a
      · exact ⟨_, by rw [hb]; exact hx⟩
      · exact ⟨o, k b o hb q⟩,
    fun b xs q => look q exo_tup, fun b o v q => look q exo_frz, fun b ps q => ⟨#[], by rw [look q exo_tbl]; simp⟩⟩
  refine h dx _ free dne (I.un (t' := tk') un fun b o q => ?_)
  by_cases hb : b = a
  · subst hb
    rw [upd_same] at q
    cases q
    exact exo_ok hx
  rw [upd_ne hb] at q
  by_cases hd : b = dx
  · subst hd
    rw [upd_same] at q
    cases q
    exact exd_ok hn (relO_put (fs := []) ry fun g => True.intro)
  rw [upd_ne hd] at q
  refine (I.hok b o q).stay (fun c v hc z => k c v ?_ z) (fun c hc => look hc exo_own) fun c xs hc => look hc exo_tup
  rcases hc with hc | hc
  · rw [hc]; exact hb
  · exact at_ne e hc exo_own
theorem ostg_old (T : OexG X.K C) (I : L2.Inv X pins σ H s) (e : H a = some (exo a C (some dx))) (ed : H dx = some (exd dx fs)) (hl : fs.length ≤ 900) (hno : PySem.W.findIn X.K (.ref C) f = some none) (ry : RelV y u)
    (h : ∀ s', L2.Inv X pins σ (upd H dx (exd dx ((f, y) :: fs))) s' → Q () s') : wpAny (model X.prog X.w) A (setAttr (.ref a) f u) Q E s := by
  obtain ⟨t1, ho⟩ := exo_at I.hok e
  obtain ⟨mA, hns, rel⟩ := exd_at I.hok ed
  have hw := within_of rel
  obtain ⟨hp, g, d, t, os⟩ := s
  obtain ⟨oD, _, _, hoD, _, _⟩ := hns.count hw
  refine PySem.W.set_plain I.kIn (od := some oD) ⟨ho, rfl, rfl, hoD⟩ T.sa (osg_old T I.kIn ho hno hns hw (by rw [List.length_map]; omega) fun h' tk' k hn => ?_)
  obtain ⟨o', es', ep', eo', r'⟩ := id hn
  exact h _ (I.write (t' := tk') (x := dx) (e := dx) (o := exd dx ((f, y) :: fs)) (by rw [ed]; exact True.intro) (.inl rfl) k ⟨o', eo'⟩ (exd_ok hn (relO_put ry rel)))
end
/-- self.f = e, of one that is being made -/
def tOsg (K : PySem.W.Frag) (f : Str) (to te : TE) : TS := fun D σ H => te σ H fun y H1 => to σ H1 fun x H2 => ∃ a C : Addr, x = .ref a ∧ OexG K C ∧ PySem.W.findIn K (.ref C) f = some none ∧
  ((H2 a = some (exo a C none) ∧ ∀ dx, H2 dx = none → dx ≠ a → D.nx σ (upd (upd H2 dx (exd dx [(f, y)])) a (exo a C (some dx)))) ∨
    ∃ (dx : Addr) (fs : List (Str × V)), H2 a = some (exo a C (some dx)) ∧ H2 dx = some (exd dx fs) ∧ fs.length ≤ 900 ∧ D.nx σ (upd H2 dx (exd dx ((f, y) :: fs))))
/-- C(e, ..), C's own __init__ keeping sp -/
def tMkG (C : Addr) (sp : Sp) (ta : TA) : L2.St → Hp → XK → Prop := fun σ H Q => ta σ H fun vs H1 => vs.length ≤ 1000 ∧ ∀ a, H1 a = none → sp (.ref a :: vs) (upd H1 a (exo a C none))
  (fun v H2 => v = .non ∧ ∃ (d : Addr) (fs : List (Str × V)), H2 a = some (exo a C (some d)) ∧ H2 d = some (exd d fs) ∧ H1 d = none ∧ Q (.ref C) (some d) (upd (del H2 a) d (.xd fs))) (fun _ _ _ => False)
section
variable {X : Cx} {o e : Expr} {es : List Expr} {to te : TE} {ta : TA} {f : Str} {p p' pos : Pos}
theorem ps_osg (ho : PE X o to) (he : PE X e te) (hs : swapsWith e (some (.Attribute o f p')) pos.line X.env = pure false := by rfl) : PS X (.Assign [.Attribute o f p'] e pos) (tOsg X.K f to te) := by
  refine ⟨fun pins s σ H D I h => plainObj_wpAny_Assign_Attribute (thn (he.run pins s σ H _ I h) fun v s1 ⟨y, H1, I1, r1, q1⟩ => thn (ho.run pins s1 σ H1 _ I1 q1) fun u s2 ⟨x, H2, I2, r2, a, C, ex, T, hno, q⟩ => ?_) hs⟩
  subst ex
  cases (show u = Value.ref a from r2)
  rcases q with ⟨ea, q⟩ | ⟨dx, fs, ea, ed, hl, q⟩
  · exact ostg_new T I2 ea hno r1 fun dx s' n ne J => ⟨σ, _, J, q dx n ne⟩
  · exact ostg_old T I2 ea ed hl hno r1 fun s' J => ⟨σ, _, J, q⟩
theorem pmk_oxg {CX : CXT} {x : Str} {C fI : Addr} {k : Nat} {fd : FuncData} {ps : List Str} {sp : Sp} (T : OexG X.K C) (iC : PySem.W.findIn X.K (.ref C) "__init__" = some (some (.ref fI))) (tI : PySem.W.typeIn X.K (.ref fI) = some (.type "function"))
    (F1 : FnOk X.prog X.w X.K X.mg X.base CX k fI fd ps sp) (hr : Room (k + 1) X.A) (hb : Binds X.K fd ps []) (hx : Passes CX X (fun _ _ _ => False)) (hg : Gl X x) (hm : X.mg x = some (.ref C)) (ha : PA X (e :: es) ta)
    (hdb : (x == ("__debug__" : Str)) = false := by decide) (he : starEach (e :: es) X.env = (false, eval e X.env) :: starEach es X.env := by rfl) (hpl : (backTo pos (starEach es X.env)).any (·.1) = false := by rfl) :
    PMk X (.Call (.Name x p) (e :: es) [] pos) (tMkG C sp ta) := by
  intro pins s σ H Q I h
  obtain ⟨B, newId, initId, bmB, nm, q, N, bs, bm, sn, sub, ab, col, dd, k0, k1, k2, k3, k5, F, SF, hC, hbm⟩ := T.cls
  refine wpAny_Call_Name_kw (ld_glob I hg hm ?_ hdb)
  refine PySem.W.callWith_K (h₀ := X.base) I.ok.mod.kin T.kC (thn (ha.run pos pins s σ H _ I h) fun us s1 ⟨vs, H1, I1, r1, hz, q1⟩ => ⟨I1.kIn, ?_⟩) he hpl
  show wpAny _ _ (call (.ref C) us) _ _ _
  obtain ⟨hp, g, dr, tk, os⟩ := s1
  generalize hA : hp.objs.size + 1 = A0
  have sz : hp.objs.size ≤ A0 := by omega
  have hn : H1 A0 = none := I1.hok.fresh sz
  have hq := q1 A0 hn
  generalize hG : (hp.push (PySem.W.kdv_tup us)).push (PySem.HandSPX.excO C hp.objs.size) = G
  have kk : ∀ b o, hp.get? b = some o → G.get? b = some o := fun b o e => by
    rw [← hG]; exact Heap.get?_push_of_some _ (Heap.get?_push_of_some _ e)
  have hget : G.get? A0 = some (PySem.HandSPX.excO C hp.objs.size) := by
    rw [← hG, ← hA]; heap_get
  have I2 : L2.Inv X pins σ (upd H1 A0 (exo A0 C none)) ⟨G, g, dr, tk, os⟩ := I1.laid (t' := tk) (a := A0) (o := exo A0 C none) (h' := G) kk sz (exo_ok hget)
  have r2 : Vals (V.ref A0 :: vs) (Value.ref A0 :: us) := .cons rfl r1
  have hl : (Value.ref A0 :: us).length = ps.length := by
    rw [← r2.length]
    exact F1.len _ _ _ _ hq
  have hus : us.length ≤ sizeLine := by
    rw [← Paired.length r1, sizeLine_eq]
    omega
  have bd := hb ⟨G, g, dr, tk, os⟩ (Value.ref A0 :: us) I2.kIn (by rw [List.append_nil]; exact hl)
  rw [List.append_nil] at bd
  refine wpAny_call (PySem.HandSPX.call_own F (fun Y => PySem.W.excTail_contains Y bm hbm) (I1.kIn _ _ hC) (PySem.W.looks_findIn I1.kIn iC) (fun self => PySem.W.bind_fn I1.kIn self tI) hus ?_)
  rw [hA, hG]
  refine codeAny_mono (F1.run _ X.stack _ _ ⟨Value.ref A0 :: us, []⟩ (Value.ref A0 :: us) _ _ (fun _ _ _ => False) (hr.make C us []) (I2.env0.make C us []) bd r2 hq) fun r s' z => ?_
  cases r with
  | error er => exact hx pins σ _ _ er s' I2 z
  | ok fl =>
    cases fl with
    | ret u =>
      obtain ⟨v, H2, os2, bare2, un2, hok2, rv, ev, d, fs, ea, ed, hd1, q2⟩ := z
      subst ev
      obtain ⟨h2, g2, d2, t2, os'⟩ := s'
      exact ⟨rv, mk_end (raises_own T.exC T.tyC) I1 sz kk un2 hok2 os2 bare2 ea ed hd1 q2⟩
    | next => exact z.elim
    | brk => exact z.elim
    | cont => exact z.elim
end
end TT

set_option Elab.async false
set_option linter.all false
set_option maxRecDepth 100000
namespace TT
open PySem PySem.Spec PyProof.Rows L2
/-! ### an error of two fields: its __init__, raised -/
def spInitF (f1 f2 : Str) (K : PySem.W.Frag) (C : Addr) : Sp := fun vs H Q _ => ∃ (a : Addr) (x y : V), vs = [.ref a, x, y] ∧ H a = some (exo a C none) ∧ ∀ dx, H dx = none → dx ≠ a → Q .non (upd (upd (upd H dx (exd dx [(f1, x)])) a (exo a C (some dx))) dx (exd dx [(f2, y), (f1, x)]))
structure Ers (P : Program) (w : World) (K : PySem.W.Frag) (mg : Str → Option Value) (base : Heap) (cn f1 f2 : Str) (C : Addr) : Prop where
  oex : OexG K C
  g : mg cn = some (.ref C)
  init : ∃ fI fd, PySem.W.findIn K (.ref C) "__init__" = some (some (.ref fI)) ∧ PySem.W.typeIn K (.ref fI) = some (.type "function") ∧ Binds K fd ["self", f1, f2] [] ∧ FnOk P w K mg base CX0 1 fI fd ["self", f1, f2] (spInitF f1 f2 K C)
section
variable {X : Cx} {C : Addr} {k : Nat} {W : WX} {e : Expr} {es : List Expr} {ta : TA} {p pos pos2 : Pos} {cn f1 f2 : Str}
theorem ps_ers (N : Ers X.prog X.w X.K X.mg X.base cn f1 f2 C) (hc : X.calm = true) (hr : Room k X.A) (tk : Takes X W) (ha : PA X (e :: es) ta) (hk : 2 ≤ k := by decide) (hg : Gl X cn := by rfl) (hdb : (cn == ("__debug__" : Str)) = false := by decide)
    (he : starEach (e :: es) X.env = (false, eval e X.env) :: starEach es X.env := by rfl) (hpl : (backTo pos (starEach es X.env)).any (·.1) = false := by rfl) :
    PS X (.Raise (some (.Call (.Name cn p) (e :: es) [] pos)) none pos2) (fun _ σ H => tMkG C (spInitF f1 f2 X.K C) ta σ H fun cls d H' => W cls d σ H') := by
  obtain ⟨fI, fd, iC, tI, hb, F1⟩ := N.init
  exact ps_raise hc tk (pmk_oxg N.oex iC tI F1 (hr.mono hk) hb pass0 hg N.g ha hdb he hpl)
end
theorem ers_raise {K : PySem.W.Frag} {C : Addr} {f1 f2 : Str} {x y : V} {H1 : Hp} {Q : XK} (h : ∀ d, H1 d = none → Q (.ref C) (some d) (upd H1 d (.xd [(f2, y), (f1, x)]))) :
    ([x, y] : List V).length ≤ 1000 ∧ ∀ a, H1 a = none → spInitF f1 f2 K C (.ref a :: [x, y]) (upd H1 a (exo a C none))
      (fun v H2 => v = .non ∧ ∃ (d : Addr) (fs : List (Str × V)), H2 a = some (exo a C (some d)) ∧ H2 d = some (exd d fs) ∧ H1 d = none ∧ Q (.ref C) (some d) (upd (del H2 a) d (.xd fs))) (fun _ _ _ => False) := by
  refine ⟨(by show 2 ≤ 1000; decide), fun a na => ⟨a, x, y, rfl, upd_same, fun dx n ne => ⟨rfl, dx, _, ?_, upd_same, ?_, ?_⟩⟩⟩
  · rw [upd_ne (Ne.symm ne), upd_same]
  · rw [upd_ne ne] at n; exact n
  · have n' : H1 dx = none := by rw [upd_ne ne] at n; exact n
    have z := h dx n'
    have e : upd (del (upd (upd (upd (upd H1 a (exo a C none)) dx (exd dx [(f1, x)])) a (exo a C (some dx))) dx (exd dx [(f2, y), (f1, x)])) a) dx (.xd [(f2, y), (f1, x)]) = upd H1 dx (.xd [(f2, y), (f1, x)]) := by
      funext b
      by_cases h1 : b = dx
      · subst h1; rw [upd_same, upd_same]
      · rw [upd_ne h1, upd_ne h1]
        by_cases h2 : b = a
        · subst h2; rw [del_same, na]
        · rw [del_ne h2, upd_ne h1, upd_ne h2, upd_ne h1, upd_ne h2]
    rw [e]
    exact z
/-- an own def that may raise -/
def DefX (P : Program) (w : World) (K : PySem.W.Frag) (mg : Str → Option Value) (base : Heap) (k : Nat) (x : Str) (ps : List Str) (sp : Sp) : Prop :=
  ∃ f fd, mg x = some (.ref f) ∧ PySem.W.keepIn K (.ref f) = true ∧ Binds K fd ps [] ∧ FnOk P w K mg base (L2.CX P w) k f fd ps sp
theorem DefX.mk {P : Program} {w : World} {K : PySem.W.Frag} {mg : Str → Option Value} {base : Heap} {k : Nat} {x : Str} {ps : List Str} {sp : Sp} {f : Addr} {fd : FuncData} (h1 : mg x = some (.ref f)) (h2 : PySem.W.keepIn K (.ref f) = true) (h3 : Binds K fd ps []) (h4 : FnOk P w K mg base (L2.CX P w) k f fd ps sp) : DefX P w K mg base k x ps sp := ⟨f, fd, h1, h2, h3, h4⟩
section
variable {X : Cx} {k j : Nat} {x : Str} {ps : List Str} {sp : Sp} {p pos : Pos} {e : Expr} {es : List Expr} {t : TA} {W : WX}
theorem pe_ownX (D : DefX X.prog X.w X.K X.mg X.base k x ps sp) (hr : Room j X.A) (tk : Takes X W) (ha : PA X (e :: es) t) (hkj : k ≤ j := by decide) (hg : Gl X x := by rfl) (hdb : (x == ("__debug__" : Str)) = false := by decide)
    (he : starEach (e :: es) X.env = (false, eval e X.env) :: starEach es X.env := by rfl) (hpl : (backTo pos (starEach es X.env)).any (·.1) = false := by rfl) :
    PE X (.Call (.Name x p) (e :: es) [] pos) (tCallS sp (WE W) t) := by
  obtain ⟨f, fd, hm, hk, hb, F⟩ := D
  exact pe_callS F (hr.mono hkj) hg hm hk hb (fun σ => passAt tk σ) ha hdb he hpl
end
end TT

set_option Elab.async false
set_option linter.all false
set_option maxRecDepth 100000
namespace TT
open PySem PySem.Spec PyProof.Rows L2
/-! ### contents and deeds as they are handed in: lists or tuples -/
def handD (o i r : Bool) (ct : List (List Rw)) : PyData := seqD o (ct.map fun rs => seqD i (rs.map fun row => seqD r (row.map wD)))
def deedF (b : Bool) : Deed → PyData
  | .put t r => seqD b [.str "put", .str t, seqD b (r.map wD)]
  | .drop t k => seqD b [.str "drop", .str t, .int k]
  | .sweep t col o => seqD b [.str "sweep", .str t, .str col, wD o]
  | .shift t col y => seqD b [.str "shift", .str t, .str col, .int y]
  | .set t k col o => seqD b [.str "set", .str t, .int k, .str col, wD o]
def tabOf : Deed → Str
  | .put t _ => t
  | .drop t _ => t
  | .sweep t _ _ => t
  | .shift t _ _ => t
  | .set t _ _ _ => t
def wordOf : Deed → Str
  | .put _ _ => "put"
  | .drop _ _ => "drop"
  | .sweep _ _ _ => "sweep"
  | .shift _ _ _ => "shift"
  | .set _ _ _ _ => "set"
theorem eqv_w (a b : Option Int) : PyData.eqv (wD a) (wD b) = decide (a = b) := by
  cases a <;> cases b
  · exact (decide_eq_true rfl).symm
  · exact (decide_eq_false (fun z => nomatch z)).symm
  · exact (decide_eq_false (fun z => nomatch z)).symm
  · rename_i x y
    show (x == y) = decide (some x = some y)
    by_cases h : x = y
    · rw [decide_eq_true (congrArg some h), h]; exact beq_self_eq_true y
    · rw [decide_eq_false (fun z => h (Option.some.inj z))]; exact beq_eq_false_iff_ne.mpr h
theorem shaped_w (a : Option Int) : SeqAt.shaped (wD a) = true := by cases a <;> rfl
/-- the rows that are handed in, of one table -/
theorem hand_at {K : PySem.W.Frag} {H : Hp} {v : V} {o i r : Bool} {ct : List (List Rw)} (h : Dp K H v (handD o i r ct)) {j : Nat} {rs : List Rw} (hj : ct[j]? = some rs) :
    ∃ p xs q ys, v = .ref p ∧ SqB o K H p xs ∧ xs[j]? = some (.ref q) ∧ SqB i K H q ys ∧ ys.length = rs.length ∧ ∀ (m : Nat) (y : V), ys[m]? = some y → ∃ row rp, rs[m]? = some row ∧ y = .ref rp ∧ SqB r K H rp (row.map wV) := by
  obtain ⟨p, xs, rfl, h1, h2⟩ := seq_dp h
  obtain ⟨x, hx, hd⟩ := dpAll_at (i := j) (d := seqD i (rs.map fun row => seqD r (row.map wD))) h2 (by rw [List.getElem?_map, hj]; rfl)
  obtain ⟨q, ys, rfl, h3, h4⟩ := seq_dp hd
  refine ⟨p, xs, q, ys, rfl, h1, hx, h3, by rw [dpAll_len h4, List.length_map], fun m y hy => ?_⟩
  obtain ⟨d, h5, h6⟩ := dpAll_get m h4 hy
  rw [List.getElem?_map] at h5
  obtain ⟨row, hr, rfl⟩ := Option.map_eq_some_iff.mp h5
  obtain ⟨rp, us, rfl, h7, h8⟩ := seq_dp h6
  have := dpAll_ws h8
  subst this
  exact ⟨row, rp, hr, rfl, h7⟩
/-! ### what a deed does by itself -/
inductive OwnR
  | told (g c r : List PyData)
  | norow (t : Str) (k : Int)
  | taken (t : Str) (k : Int)
def cellAt (zs : List Str) (col : Str) (r : Rw) : Option Int := r.getD (zs.idxOf col) none
def own (zs : List Str) (rs : List Rw) : Deed → OwnR
  | .put t r => if keyW r ∈ rs.map keyW then .taken t (keyW r) else .told [] [] [.tuple [.str t, rowD r]]
  | .drop t k => if k ∈ rs.map keyW then .told [.tuple [.str t, .int k]] [] [] else .norow t k
  | .set t k col o => if k ∈ rs.map keyW then .told [] ((rs.filter fun r => decide (keyW r = k) && !decide (cellAt zs col r = o)).map fun r => .tuple [.str t, .int k, .str col, wD o]) [] else .norow t k
  | .sweep t col o => .told ((rs.filter fun r => decide (cellAt zs col r = o)).map fun r => .tuple [.str t, .int (keyW r)]) [] []
  | .shift t col b => .told [] (if b = 0 then [] else (rs.filter fun r => !decide (cellAt zs col r = none)).map fun r => .tuple [.str t, .int (keyW r), .str col, wD ((cellAt zs col r).map (· + b))]) []
theorem key_one {n : Nat} {rs : List Rw} (h : RwsOk n rs) {i j : Nat} {a b : Rw} (hi : rs[i]? = some a) (hj : rs[j]? = some b) (e : keyW a = keyW b) : i = j := by
  have nd : (rs.map keyW).Nodup := by
    rw [List.nodup_iff_pairwise_ne]
    exact h.up.imp fun h => by omega
  have li := (List.getElem?_eq_some_iff.mp hi).1
  refine (List.getElem?_inj (by rw [List.length_map]; exact li) nd).mp ?_
  rw [List.getElem?_map, List.getElem?_map, hi, hj]
  exact congrArg some e
section
variable {P : Program} {w : World} {K : PySem.W.Frag} {mg : Str → Option Value} {base : Heap}
theorem eqV_str (a b : Str) : eqV (.str a) (.str b) = decide (a = b) := by
  show (a == b) = _
  by_cases h : a = b
  · rw [h, decide_eq_true rfl]; simp
  · rw [decide_eq_false h]; simp [h]
/-- list.index of a text that is there -/
theorem ix_strs {K : PySem.W.Frag} {H : Hp} {D : Addr} {zs : List Str} {c : Str} {Q : VK} (eD : H D = some (.lst (zs.map V.str))) (hm : c ∈ zs) (q : Q (.int (zs.idxOf c : Nat)) H) : rIndex K (.ref D) [.str c] H Q := by
  have hj : zs.idxOf c < zs.length := List.idxOf_lt_length_of_mem hm
  have hg : zs[zs.idxOf c]? = some c := by rw [List.getElem?_eq_getElem hj, List.getElem_idxOf]
  refine ⟨D, _, .str c, zs.idxOf c, .str c, rfl, rfl, .inl (.inl eD), rfl, flat_strs _, by rw [List.getElem?_map, hg]; rfl, by rw [eqV_str]; exact decide_eq_true rfl, fun m z' hm' hz => ?_, q⟩
  rw [List.getElem?_map] at hz
  obtain ⟨y, hy, rfl⟩ := Option.map_eq_some_iff.mp hz
  rw [eqV_str]
  refine decide_eq_false fun e => ?_
  have hl := (List.getElem?_eq_some_iff.mp hy)
  have := List.not_of_lt_findIdx (xs := zs) (p := (· == c)) (i := m) hm'
  rw [hl.2] at this
  simp [e] at this
def spColPlace (K : PySem.W.Frag) : Sp := fun vs H Q _ => ∃ (tp : Addr) (ts : List Tab) (t c : Str), vs = [.ref tp, .str t, .str c] ∧ Tabs K H tp ts ∧ t ∈ tns ts ∧ c ∈ cns ts t ∧ ∀ H', Same H H' → Q (.int ((cns ts t).idxOf c : Nat)) H'
abbrev s_column_place : Stmt := topS 12
abbrev N_column_place : List Str := ["tables", "table", "column", "names"]
theorem sc_column_place : FnScope N_column_place ["tables", "table", "column"] (defScope s_column_place) := ⟨rfl, rfl, rfl, by decide +kernel, rfl, by decide +kernel, by decide +kernel⟩

theorem ok_column_place {f : Addr} {fd : FuncData} (F : Fun K "column_place" "column_place" s_column_place f fd) (D_column_names : Def P w K mg base 2 "column_names" ["tables", "table"] (spColNames K)) : FnOk P w K mg base CX0 3 f fd ["tables", "table", "column"] (spColPlace K) := by
  refine F.ok sc_column_place (fun vs H Q E h => ?_) (fun cdv A outer sh H vs Q E hr h => ?_)
  · obtain ⟨tp, ts, t, c, rfl, _⟩ := h
    rfl
  obtain ⟨tp, ts, t, c, rfl, hT, ht, hc, q⟩ := h
  have nd := sc_column_place.nd
  refine ⟨_, (pss_cons (ps_set (i := 3) nd rfl (Or.inl rfl) (pe_own D_column_names hr (pa_cons (pv 0) (pa_cons (pv 1) pa_nil))))
      (pss_cons (ps_if (pt_cmpR op_notIn_seq (pv 2) (pv 3) (by rfl))
        (pss_one ps_nv)
        pss_nil)
      (pss_one (ps_ret (pe_bm PySem.F.plainAttrs_list PySem.F.slot_list_index PySem.F.type_list_index mt_index (pv 3) (pa_cons (pv 2) pa_nil)))))), ?_⟩
  refine ⟨.ref tp, rfl, .str t, rfl, tp, ts, t, rfl, hT, ht, fun D H1 s1 eD => ?_⟩
  refine ⟨.str c, rfl, .ref D, rfl, D, _, rfl, .inl (.inl (.inl eD)), rfl, flat_strs _, _, rfl, ?_⟩
  rw [if_pos rfl, inV_strs, decide_eq_true hc]
  refine iteF ?_
  exact ⟨.ref D, rfl, .inl ⟨rfl, _, .inl (.inl eD)⟩, .str c, rfl, ix_strs eD hc (q H1 s1)⟩
def spTabPlace (K : PySem.W.Frag) : Sp := fun vs H Q _ => ∃ (tp : Addr) (ts : List Tab) (t : Str), vs = [.ref tp, .str t] ∧ Tabs K H tp ts ∧ t ∈ tns ts ∧ ∀ H', Same H H' → Q (.int ((tns ts).idxOf t : Nat)) H'
abbrev s_table_place : Stmt := topS 14
abbrev N_table_place : List Str := ["tables", "table", "names"]
theorem sc_table_place : FnScope N_table_place ["tables", "table"] (defScope s_table_place) := ⟨rfl, rfl, rfl, by decide +kernel, rfl, by decide +kernel, by decide +kernel⟩

theorem ok_table_place {f : Addr} {fd : FuncData} (F : Fun K "table_place" "table_place" s_table_place f fd) (D_table_names : Def P w K mg base 1 "table_names" ["tables"] (spNamesOf K)) : FnOk P w K mg base CX0 2 f fd ["tables", "table"] (spTabPlace K) := by
  refine F.ok sc_table_place (fun vs H Q E h => ?_) (fun cdv A outer sh H vs Q E hr h => ?_)
  · obtain ⟨tp, ts, t, rfl, _⟩ := h
    rfl
  obtain ⟨tp, ts, t, rfl, hT, ht, q⟩ := h
  have nd := sc_table_place.nd
  refine ⟨_, (pss_cons (ps_set (i := 2) nd rfl (Or.inl rfl) (pe_own D_table_names hr (pa_cons (pv 0) pa_nil)))
      (pss_cons (ps_if (pt_cmpR op_notIn_seq (pv 1) (pv 2) (by rfl))
        (pss_one ps_nv)
        pss_nil)
      (pss_one (ps_ret (pe_bm PySem.F.plainAttrs_list PySem.F.slot_list_index PySem.F.type_list_index mt_index (pv 2) (pa_cons (pv 1) pa_nil)))))), ?_⟩
  obtain ⟨ws, hTS, hTA, lw⟩ := hT.parts
  refine ⟨.ref tp, rfl, tp, ws, ts.map tabD, rfl, hTS, hTA, by rw [List.length_map]; have := hT.l8; omega, strName_tabs ts, fun D H1 s1 eD => ?_⟩
  rw [namesOf_tabs] at eD
  refine ⟨.str t, rfl, .ref D, rfl, D, _, rfl, .inl (.inl (.inl eD)), rfl, flat_strs _, _, rfl, ?_⟩
  rw [if_pos rfl, inV_strs, decide_eq_true ht]
  refine iteF ?_
  exact ⟨.ref D, rfl, .inl ⟨rfl, _, .inl (.inl eD)⟩, .str t, rfl, ix_strs eD ht (q H1 s1)⟩
/-- a table of the tables, and its rows -/
structure At (ts : List Tab) (ct : List (List Rw)) (t : Str) (rs : List Rw) : Prop where
  mem : t ∈ tns ts
  row : ct[(tns ts).idxOf t]? = some rs
  ok : RwsOk (cns ts t).length rs
  few : rs.length ≤ 900
def spRowOf (K : PySem.W.Frag) : Sp := fun vs H Q _ => ∃ (tp : Addr) (ts : List Tab) (v : V) (o i r : Bool) (ct : List (List Rw)) (t : Str) (k : Int) (rs : List Rw), vs = [.ref tp, v, .str t, .int k] ∧ Tabs K H tp ts ∧ Dp K H v (handD o i r ct) ∧ At ts ct t rs ∧
  (∀ (row : Rw) (p : Addr) (H' : Hp), row ∈ rs → keyW row = k → Same H H' → SqT K H' p (row.map wV) → Q (.ref p) H') ∧ (k ∉ rs.map keyW → ∀ H', Same H H' → Q .non H')
abbrev s_row_of : Stmt := topS 20
abbrev N_row_of : List Str := ["tables", "content", "table", "key", "row"]
theorem sc_row_of : FnScope N_row_of ["tables", "content", "table", "key"] (defScope s_row_of) := ⟨rfl, rfl, rfl, by decide +kernel, rfl, by decide +kernel, by decide +kernel⟩

theorem ok_row_of {f : Addr} {fd : FuncData} (F : Fun K "row_of" "row_of" s_row_of f fd) (nb : NB mg) (D_table_place : Def P w K mg base 2 "table_place" ["tables", "table"] (spTabPlace K)) : FnOk P w K mg base CX0 3 f fd ["tables", "content", "table", "key"] (spRowOf K) := by
  refine F.ok sc_row_of (fun vs H Q E h => ?_) (fun cdv A outer sh H vs Q E hr h => ?_)
  · obtain ⟨tp, ts, v, o, i, r, ct, t, k, rs, rfl, _⟩ := h
    rfl
  obtain ⟨tp, ts, v, o, i, r, ct, t, k, rs, rfl, hT, hd, hA, yes, no⟩ := h
  have nd := sc_row_of.nd
  refine ⟨_, (pss_cons (ps_for PassesOwn.never rfl (pi_seqB (pe_ix ix_seq (pv 1) (pe_own D_table_place hr (pa_cons (pv 0) (pa_cons (pv 2) pa_nil))) (fun _ _ => rfl))) (pg_name (i := 4) nd rfl (Or.inl rfl))
        (pss_one (ps_if (pt_cmpR op_eq (pe_ix ix_seq (pv 4) pe_int (fun _ _ => rfl)) (pv 3) (nomark _))
          (pss_one (ps_ret (pe_callTy call_tuple_of (by rfl) nb.b_tuple (by decide +kernel) (pa_cons (pv 4) pa_nil))))
          pss_nil)))
      (pss_one (ps_ret pe_non))), ?_⟩
  obtain ⟨p, xs, q, ys, rfl, h1, h2, h3, h4, h5⟩ := hand_at hd hA.row
  refine ⟨.ref p, rfl, .ref tp, rfl, .str t, rfl, tp, ts, t, rfl, hT, hA.mem, fun H1 s1 => ixB (h1.same s1) h2 ⟨i, q, rfl, ⟨_, h3.same s1⟩, ?_⟩⟩
  refine for_it (walk_seqB (b := i) (xs := ys)) (fun m σ H' => (∃ y4, σ = [some (.ref tp), some (.ref p), some (.str t), some (.int k), y4]) ∧ H' = H1 ∧ ∀ j row, j < m → rs[j]? = some row → keyW row ≠ k) ⟨⟨none, rfl⟩, rfl, fun j _ h => absurd h (Nat.not_lt_zero j)⟩ (fun m σ H' _ hP => by rw [hP.2.1]; exact h3.same s1) (fun m x σ H' H'' hm hP hY => ?_) (fun σ H' hP => ?_)
  · obtain ⟨rfl, hx⟩ := hY
    obtain ⟨⟨y4, rfl⟩, rfl, hn⟩ := hP
    obtain ⟨row, rp, hr1, rfl, hr2⟩ := h5 m x hx
    obtain ⟨k0, t0, rfl⟩ := (hA.ok.row row (List.mem_of_getElem? hr1)).key
    refine ⟨.ref rp, rfl, ixB (i := 0) (hr2.same s1) (show ((some k0 :: t0).map wV)[0]? = some (.int k0) from rfl) ⟨.int k, rfl, rfl, _, rfl, ite2 (fun e => ?_) (fun e => ?_)⟩⟩
    · obtain rfl : k0 = k := V.int.inj (of_decide_eq_true e)
      exact ⟨.ref rp, rfl, tupB' (hr2.same s1) fun l H2 s2 hl => yes _ l H2 (List.mem_of_getElem? hr1) rfl (s1.trans s2) hl⟩
    · refine ⟨⟨_, rfl⟩, rfl, fun j row hj hrow => ?_⟩
      by_cases hjm : j < m
      · exact hn j row hjm hrow
      · obtain rfl : j = m := by omega
        rw [hr1] at hrow
        cases hrow
        exact fun h => e (decide_eq_true (congrArg V.int h))
  · obtain ⟨⟨y4, rfl⟩, rfl, hn⟩ := hP
    refine no (fun hk => ?_) H' s1
    obtain ⟨row, hrow, hk2⟩ := List.mem_map.mp hk
    obtain ⟨j, hj⟩ := List.getElem?_of_mem hrow
    exact hn j row (by have := (List.getElem?_eq_some_iff.mp hj).1; omega) hj hk2
def spRowsOf (K : PySem.W.Frag) : Sp := fun vs H Q _ => ∃ (tp : Addr) (ts : List Tab) (v : V) (o i r : Bool) (ct : List (List Rw)) (t : Str) (rs : List Rw), vs = [.ref tp, v, .str t] ∧ Tabs K H tp ts ∧ Dp K H v (handD o i r ct) ∧ At ts ct t rs ∧
  ∀ (D : Addr) (us : List V) (H' : Hp), Same H H' → H D = none → H' D = some (.lst us) → DpAll K (msk [D] H') us (rs.map rowD) → Q (.ref D) H'
abbrev s_rows_of : Stmt := topS 22
abbrev N_rows_of : List Str := ["tables", "content", "table", "row"]
theorem sc_rows_of : FnScope N_rows_of ["tables", "content", "table"] (defScope s_rows_of) := ⟨rfl, rfl, rfl, by decide +kernel, rfl, by decide +kernel, by decide +kernel⟩

theorem ok_rows_of {f : Addr} {fd : FuncData} (F : Fun K "rows_of" "rows_of" s_rows_of f fd) (nb : NB mg) (D_table_place : Def P w K mg base 2 "table_place" ["tables", "table"] (spTabPlace K)) : FnOk P w K mg base CX0 3 f fd ["tables", "content", "table"] (spRowsOf K) := by
  refine F.ok sc_rows_of (fun vs H Q E h => ?_) (fun cdv A outer sh H vs Q E hr h => ?_)
  · obtain ⟨tp, ts, v, o, i, r, ct, t, rs, rfl, _⟩ := h
    rfl
  obtain ⟨tp, ts, v, o, i, r, ct, t, rs, rfl, hT, hd, hA, yes⟩ := h
  have nd := sc_rows_of.nd
  refine ⟨_, (pss_one (ps_ret (pe_lc (own := [("row", 3)]) (g := (gName 3)) (tt := tYes) rfl nd (pi_seqB (pe_ix ix_seq (pv 1) (pe_own D_table_place hr (pa_cons (pv 0) (pa_cons (pv 2) pa_nil))) (fun _ _ => rfl))) (blkOk_by (N := N_rows_of) (sc := defScope s_rows_of) (by decide +kernel)) (fun _ _ _ _ _ => (pg_name (i := 3) nd rfl (Or.inl rfl))) (fun _ _ _ _ _ => pts_nil) (fun _ _ _ _ _ => (pe_callTy (T := "tuple") (r := rTupQ K) call_tuple_of (by rfl) nb.b_tuple (by decide +kernel) (pa_cons (pv 3) pa_nil)))))), ?_⟩
  obtain ⟨p, xs, q, ys, rfl, h1, h2, h3, h4, h5⟩ := hand_at hd hA.row
  have few := hA.few
  refine ⟨.ref p, rfl, .ref tp, rfl, .str t, rfl, tp, ts, t, rfl, hT, hA.mem, fun H1 s1 => ixB (h1.same s1) h2 ⟨i, q, rfl, ⟨_, h3.same s1⟩, fun D nD => ?_⟩⟩
  refine lc_it (walk_seqB (b := i) (xs := ys)) (fun m H' => ∃ us, Grow K [] H' D us ((rs.take m).map rowD) ∧ Kept [D] H1 H') ⟨[], by rw [List.take_zero]; exact .start, Kept.upd_new nD⟩ (fun m H' _ hP => ?_) (fun m x H' H'' hm hP hY => ?_) (fun H2 hP => ?_)
  · obtain ⟨us, _, kk⟩ := hP
    exact (h3.same s1).same (fun b o e => kk b o e fun z => by rw [List.mem_singleton.mp z, nD] at e; cases e)
  · obtain ⟨rfl, hx⟩ := hY
    obtain ⟨us, g, kk⟩ := hP
    obtain ⟨row, rp, hr1, rfl, hr2⟩ := h5 m x hx
    have sk : Same H1 H'' := fun b o e => kk b o e fun z => by rw [List.mem_singleton.mp z, nD] at e; cases e
    have lu : us.length = m := by
      rw [g.len, List.length_map, List.length_take]
      have := (List.getElem?_eq_some_iff.mp hr1).1
      omega
    have et : (rs.take (m + 1)).map rowD = (rs.take m).map rowD ++ [rowD row] := by
      rw [List.take_add_one, hr1, List.map_append]; rfl
    refine ⟨rfl, ?_⟩
    unfold tYes
    dsimp only
    refine iteT ?_
    have hr3 := (hr2.same s1).same sk
    refine ⟨.ref rp, rfl, rp, row.map wV, rfl, ?_⟩
    cases r
    · refine .inl ⟨hr3, fun l nl => ?_⟩
      have nDl : D ≠ l := ne_of_none g.at' nl
      have g2 := g.kept (Kept.upd_new (o := .tup (row.map wV)) nl) List.not_mem_nil
      refine ⟨us, g2.at', by rw [lu]; exact small1000 (by omega), us ++ [.ref l], ?_, kk.trans ((Kept.upd_new nl).trans (Kept.upd_in (List.mem_cons_self ..)))⟩
      rw [et]
      exact g2.put (.tup (.inl (.inl (msk_at upd_same (by simp [nDl.symm])))) (dp_ws row))
    · refine .inr ⟨hr3, ?_⟩
      refine ⟨us, g.at', by rw [lu]; exact small1000 (by omega), us ++ [.ref rp], ?_, kk.trans (Kept.upd_in (List.mem_cons_self ..))⟩
      rw [et]
      have hm1 : Same H1 (msk [D] H'') := fun b o e => by
        refine msk_at (sk b o e) fun z => ?_
        rw [List.mem_singleton.mp z, nD] at e; cases e
      exact g.put (.tup (sameT hm1 (show SqT K H1 rp (row.map wV) from hr2.same s1)) (dp_ws row))
  · obtain ⟨us, g, kk⟩ := hP
    have sk : Same H1 H2 := fun b o e => kk b o e fun z => by rw [List.mem_singleton.mp z, nD] at e; cases e
    rw [h4, List.take_length] at g
    exact yes D us H2 (s1.trans sk) (Same.free s1 nD) g.at' g.dp
end
end TT

set_option Elab.async false
set_option linter.all false
set_option maxRecDepth 100000
namespace TT
open PySem PySem.Spec PyProof.Rows L2
def kT : Str := "table"
def kK : Str := "key"
/-- raised: an error of that class, with the table and the key -/
def raisedTK (E : XK) (C : Addr) (t : Str) (k : Int) (H : Hp) : Prop := ∀ d H', Same H H' → H' d = none → E (.ref C) (some d) (upd H' d (.xd [(kK, .int k), (kT, .str t)]))
section
variable {P : Program} {w : World} {K : PySem.W.Frag} {mg : Str → Option Value} {base : Heap}
def spRowThere (K : PySem.W.Frag) (CN : Addr) : Sp := fun vs H Q E => ∃ (tp : Addr) (ts : List Tab) (v : V) (o i r : Bool) (ct : List (List Rw)) (t : Str) (k : Int) (rs : List Rw), vs = [.ref tp, v, .str t, .int k] ∧ Tabs K H tp ts ∧ Dp K H v (handD o i r ct) ∧ At ts ct t rs ∧
  (∀ (row : Rw) (p : Addr) (H' : Hp), row ∈ rs → keyW row = k → Same H H' → SqT K H' p (row.map wV) → Q (.ref p) H') ∧ (k ∉ rs.map keyW → raisedTK E CN t k H)
abbrev s_row_there : Stmt := topS 37
abbrev N_row_there : List Str := ["tables", "content", "table", "key", "row"]
theorem sc_row_there : FnScope N_row_there ["tables", "content", "table", "key"] (defScope s_row_there) := ⟨rfl, rfl, rfl, by decide +kernel, rfl, by decide +kernel, by decide +kernel⟩

theorem ok_row_there {CN : Addr} {f : Addr} {fd : FuncData} (N : Ers P w K mg base "NoRow" "table" "key" CN) (F : Fun K "_row_there" "_row_there" s_row_there f fd) (D_row_of : Def P w K mg base 3 "row_of" ["tables", "content", "table", "key"] (spRowOf K)) : FnOk P w K mg base (L2.CX P w) 4 f fd ["tables", "content", "table", "key"] (spRowThere K CN) := by
  refine F.okX sc_row_there (fun vs H Q E h => ?_) (fun cdv A outer sh H vs Q E hr h => ?_)
  · obtain ⟨tp, ts, v, o, i, r, ct, t, k, rs, rfl, _⟩ := h
    rfl
  obtain ⟨tp, ts, v, o, i, r, ct, t, k, rs, rfl, hT, hd, hA, yes, no⟩ := h
  have nd := sc_row_there.nd
  refine ⟨_, (pss_cons (ps_set (i := 4) nd rfl (Or.inl rfl) (pe_own D_row_of hr (pa_cons (pv 0) (pa_cons (pv 1) (pa_cons (pv 2) (pa_cons (pv 3) pa_nil))))))
      (pss_cons (ps_if (pt_cmpR op_isN (pv 4) pe_non (nomark _))
        (pss_one (ps_ers N rfl hr (takes_of rfl rfl rfl rfl) (pa_cons (pv 2) (pa_cons (pv 3) pa_nil))))
        pss_nil)
      (pss_one (ps_ret (pv 4))))), ?_⟩
  refine ⟨.ref tp, rfl, v, rfl, .str t, rfl, .int k, rfl, tp, ts, v, o, i, r, ct, t, k, rs, rfl, hT, hd, hA, fun row p H1 hrow hk s1 hp => ?_, fun hk H1 s1 => ?_⟩
  · refine ⟨.ref p, rfl, rfl, _, rfl, iteF ?_⟩
    exact ⟨.ref p, rfl, yes row p H1 hrow hk s1 hp⟩
  · refine ⟨.non, rfl, rfl, _, rfl, iteT ?_⟩
    exact ⟨.str t, rfl, .int k, rfl, ers_raise fun d hd => no hk d H1 s1 hd⟩
/-- what is told: a new list -/
def toldL (K : PySem.W.Frag) (Q : VK) (ds : List PyData) (H : Hp) : Prop := ∀ (D : Addr) (us : List V) (H' : Hp), Same H H' → H D = none → H' D = some (.lst us) → DpAll K H' us ds → Q (.ref D) H'
def spPart (K : PySem.W.Frag) (C : Addr) (w : Str) (R : List Str → List Rw → Deed → List PyData) (no : List Rw → Deed → Option Int) : Sp := fun vs H Q E => ∃ (tp : Addr) (ts : List Tab) (v u : V) (o i r b : Bool) (ct : List (List Rw)) (dd : Deed) (rs : List Rw), vs = [.ref tp, v, u] ∧ Tabs K H tp ts ∧ Dp K H v (handD o i r ct) ∧ At ts ct (tabOf dd) rs ∧
  DeedOk ts dd ∧ Dp K H u (deedF b dd) ∧ wordOf dd = w ∧ (no rs dd = none → toldL K Q (R (cns ts (tabOf dd)) rs dd) H) ∧ ∀ k, no rs dd = some k → raisedTK E C (tabOf dd) k H
def noPut (rs : List Rw) : Deed → Option Int
  | .put _ r => if keyW r ∈ rs.map keyW then some (keyW r) else none
  | _ => none
def rPut (_ : List Str) (_ : List Rw) : Deed → List PyData
  | .put t r => [.tuple [.str t, rowD r]]
  | _ => []
abbrev s_rows_put : Stmt := topS 32
abbrev N_rows_put : List Str := ["tables", "content", "deed", "_", "table", "row"]
theorem sc_rows_put : FnScope N_rows_put ["tables", "content", "deed"] (defScope s_rows_put) := ⟨rfl, rfl, rfl, by decide +kernel, rfl, by decide +kernel, by decide +kernel⟩

theorem ok_rows_put {CN : Addr} {f : Addr} {fd : FuncData} (N : Ers P w K mg base "Taken" "table" "key" CN) (F : Fun K "_rows_put" "_rows_put" s_rows_put f fd) (nb : NB mg) (D_row_of : Def P w K mg base 3 "row_of" ["tables", "content", "table", "key"] (spRowOf K)) : FnOk P w K mg base (L2.CX P w) 4 f fd ["tables", "content", "deed"] (spPart K CN "put" rPut noPut) := by
  refine F.okX sc_rows_put (fun vs H Q E h => ?_) (fun cdv A outer sh H vs Q E hr h => ?_)
  · obtain ⟨tp, ts, v, u, o, i, r, b, ct, dd, rs, rfl, _⟩ := h
    rfl
  obtain ⟨tp, ts, v, u, o, i, r, b, ct, dd, rs, rfl, hT, hd, hA, okd, hu', hw, yes, no⟩ := h
  have nd := sc_rows_put.nd
  refine ⟨_, (pss_cons (ps_asg (pv 2) (pg_seqB rfl (pgs_cons (pg_name (i := 3) nd rfl (Or.inl rfl)) (pgs_cons (pg_name (i := 4) nd rfl (Or.inl rfl)) (pgs_cons (pg_name (i := 5) nd rfl (Or.inl rfl)) pgs_nil)))))
      (pss_cons (ps_if (pt_cmpR op_notN (pe_own D_row_of hr (pa_cons (pv 0) (pa_cons (pv 1) (pa_cons (pv 4) (pa_cons (pe_ix ix_seq (pv 5) pe_int (fun _ _ => rfl)) pa_nil))))) pe_non (nomark _))
        (pss_one (ps_ers N rfl hr (takes_of rfl rfl rfl rfl) (pa_cons (pv 4) (pa_cons (pe_ix ix_seq (pv 5) pe_int (fun _ _ => rfl)) pa_nil))))
        pss_nil)
      (pss_one (ps_ret (pe_lst (pa_cons (pe_tup (pa_cons (pv 4) (pa_cons (pe_callTy call_tuple_of (by rfl) nb.b_tuple (by decide +kernel) (pa_cons (pv 5) pa_nil)) pa_nil))) pa_nil)))))), ?_⟩
  cases dd with
  | put t row =>
    obtain ⟨q, xs, rfl, g1, g2⟩ := seq_dp hu'
    cases g2 with
    | cons a1 g2 =>
    cases g2 with
    | cons a2 g2 =>
    cases g2 with
    | cons a3 g2 =>
    cases g2
    cases a1
    cases a2
    obtain ⟨rp, us, rfl, g3, g4⟩ := seq_dp a3
    have := dpAll_ws g4
    subst this
    obtain ⟨k, t0, rfl⟩ := okd.2.key
    have h0 : ((some k :: t0).map wV)[0]? = some (.int k) := rfl
    refine ⟨.ref q, rfl, b, q, _, rfl, g1, rfl, .str "put", _, rfl, .str t, _, rfl, .ref rp, _, rfl, rfl, ?_⟩
    refine ⟨.ref tp, rfl, v, rfl, .str t, rfl, .ref rp, rfl, ixB (i := 0) g3 h0 ⟨tp, ts, v, o, i, r, ct, t, k, rs, rfl, hT, hd, hA, fun row2 p H1 hrow hk s1 hp => ?_, fun hk H1 s1 => ?_⟩⟩
    · refine ⟨rfl, _, rfl, iteT ?_⟩
      refine ⟨.str t, rfl, .ref rp, rfl, ixB (i := 0) (g3.same s1) h0 (ers_raise fun d hd => no k ?_ d H1 s1 hd)⟩
      show (if k ∈ rs.map keyW then some k else none) = some k
      rw [if_pos (List.mem_map.mpr ⟨row2, hrow, hk⟩)]
    · refine ⟨rfl, _, rfl, iteF ?_⟩
      refine ⟨.str t, rfl, .ref rp, rfl, ?_⟩
      refine tupB' (Q := fun x H1 => [V.str t, x].length ≤ sizeLine ∧ ∀ p, H1 p = none → [V.ref p].length ≤ sizeLine ∧ ∀ p1, upd H1 p (.tup [.str t, x]) p1 = none → Q (.ref p1) (upd (upd H1 p (.tup [.str t, x])) p1 (.lst [.ref p]))) (g3.same s1) ?_
      intro l H2 s2 hl
      refine ⟨(by show 2 ≤ sizeLine; decide), fun p np => ⟨(by show 1 ≤ sizeLine; decide), fun D nD => ?_⟩⟩
      have s3 := s2.trans ((same_upd (o := .tup [.str t, .ref l]) np).trans (same_upd (o := .lst [.ref p]) nD))
      have npD : p ≠ D := ne_of_none upd_same nD
      refine yes (show (if k ∈ rs.map keyW then some k else none) = none by rw [if_neg hk]) D _ _ (s1.trans s3) (Same.free (s1.trans (s2.trans (same_upd np))) nD) upd_same ?_
      exact .cons (.tup (.inl (.inl (by rw [upd_ne npD, upd_same]))) (.cons (.str _) (.cons (.tup (sameT ((same_upd np).trans (same_upd nD)) hl) (dp_ws (some k :: t0))) .nil))) .nil
  | drop _ _ => exact absurd (show ("drop" : Str) = "put" from hw) (by decide)
  | sweep _ _ _ => exact absurd (show ("sweep" : Str) = "put" from hw) (by decide)
  | shift _ _ _ => exact absurd (show ("shift" : Str) = "put" from hw) (by decide)
  | set _ _ _ _ => exact absurd (show ("set" : Str) = "put" from hw) (by decide)
def noRow' (rs : List Rw) : Deed → Option Int
  | .drop _ k => if k ∈ rs.map keyW then none else some k
  | .set _ k _ _ => if k ∈ rs.map keyW then none else some k
  | _ => none
def rDrop (_ : List Str) (_ : List Rw) : Deed → List PyData
  | .drop t k => [.tuple [.str t, .int k]]
  | _ => []
abbrev s_rows_dropped : Stmt := topS 33
abbrev N_rows_dropped : List Str := ["tables", "content", "deed", "_", "table", "key"]
theorem sc_rows_dropped : FnScope N_rows_dropped ["tables", "content", "deed"] (defScope s_rows_dropped) := ⟨rfl, rfl, rfl, by decide +kernel, rfl, by decide +kernel, by decide +kernel⟩

theorem ok_rows_dropped {CN : Addr} {f : Addr} {fd : FuncData} (F : Fun K "_rows_dropped" "_rows_dropped" s_rows_dropped f fd) (D_row_there : DefX P w K mg base 4 "_row_there" ["tables", "content", "table", "key"] (spRowThere K CN)) : FnOk P w K mg base (L2.CX P w) 5 f fd ["tables", "content", "deed"] (spPart K CN "drop" rDrop noRow') := by
  refine F.okX sc_rows_dropped (fun vs H Q E h => ?_) (fun cdv A outer sh H vs Q E hr h => ?_)
  · obtain ⟨tp, ts, v, u, o, i, r, b, ct, dd, rs, rfl, _⟩ := h
    rfl
  obtain ⟨tp, ts, v, u, o, i, r, b, ct, dd, rs, rfl, hT, hd, hA, okd, hu', hw, yes, no⟩ := h
  have nd := sc_rows_dropped.nd
  refine ⟨_, (pss_cons (ps_asg (pv 2) (pg_seqB rfl (pgs_cons (pg_name (i := 3) nd rfl (Or.inl rfl)) (pgs_cons (pg_name (i := 4) nd rfl (Or.inl rfl)) (pgs_cons (pg_name (i := 5) nd rfl (Or.inl rfl)) pgs_nil)))))
      (pss_cons (ps_expr (pe_ownX D_row_there hr (takes_of rfl rfl rfl rfl) (pa_cons (pv 0) (pa_cons (pv 1) (pa_cons (pv 4) (pa_cons (pv 5) pa_nil))))))
      (pss_one (ps_ret (pe_lst (pa_cons (pe_tup (pa_cons (pv 4) (pa_cons (pv 5) pa_nil))) pa_nil)))))), ?_⟩
  cases dd with
  | drop t k =>
    obtain ⟨q, xs, rfl, g1, g2⟩ := seq_dp hu'
    cases g2 with
    | cons a1 g2 =>
    cases g2 with
    | cons a2 g2 =>
    cases g2 with
    | cons a3 g2 =>
    cases g2
    cases a1
    cases a2
    cases a3
    refine ⟨.ref q, rfl, b, q, _, rfl, g1, rfl, .str "drop", _, rfl, .str t, _, rfl, .int k, _, rfl, rfl, ?_⟩
    refine ⟨.ref tp, rfl, v, rfl, .str t, rfl, .int k, rfl, tp, ts, v, o, i, r, ct, t, k, rs, rfl, hT, hd, hA, fun row2 p H1 hrow hk s1 hp => ?_, fun hk d H1 s1 hd => no k ?_ d H1 s1 hd⟩
    · refine ⟨.str t, rfl, .int k, rfl, (by show 2 ≤ sizeLine; decide), fun p2 np => ⟨(by show 1 ≤ sizeLine; decide), fun D nD => ?_⟩⟩
      have s3 := (same_upd (o := .tup [.str t, .int k]) np).trans (same_upd (o := .lst [.ref p2]) nD)
      have npD : p2 ≠ D := ne_of_none upd_same nD
      refine yes (show (if k ∈ rs.map keyW then none else some k) = none by rw [if_pos (List.mem_map.mpr ⟨row2, hrow, hk⟩)]) D _ _ (s1.trans s3) (Same.free (s1.trans (same_upd np)) nD) upd_same ?_
      exact .cons (.tup (.inl (.inl (by rw [upd_ne npD, upd_same]))) (.cons (.str _) (.cons (.int _) .nil))) .nil
    · show (if k ∈ rs.map keyW then none else some k) = some k
      rw [if_neg hk]
  | put _ _ => exact absurd (show ("put" : Str) = "drop" from hw) (by decide)
  | sweep _ _ _ => exact absurd (show ("sweep" : Str) = "drop" from hw) (by decide)
  | shift _ _ _ => exact absurd (show ("shift" : Str) = "drop" from hw) (by decide)
  | set _ _ _ _ => exact absurd (show ("set" : Str) = "drop" from hw) (by decide)
def rSet (zs : List Str) (rs : List Rw) : Deed → List PyData
  | .set t k col o => (rs.filter fun r => decide (keyW r = k) && !decide (cellAt zs col r = o)).map fun _ => .tuple [.str t, .int k, .str col, wD o]
  | _ => []
theorem filt_key {n : Nat} {rs : List Rw} (h : RwsOk n rs) {row : Rw} (hm : row ∈ rs) (p : Rw → Bool) : (rs.filter fun r => decide (keyW r = keyW row) && p r) = if p row = true then [row] else [] := by
  obtain ⟨i, hi⟩ := List.getElem?_of_mem hm
  have hl := (List.getElem?_eq_some_iff.mp hi).1
  have e : rs = rs.take i ++ row :: rs.drop (i + 1) := by
    rw [← (List.getElem?_eq_some_iff.mp hi).2]
    exact (List.take_append_drop i rs).symm.trans (by rw [List.drop_eq_getElem_cons hl])
  have no1 : ∀ r ∈ rs.take i, (decide (keyW r = keyW row) && p r) = false := fun r hr => by
    obtain ⟨j, hj⟩ := List.getElem?_of_mem hr
    have hji : j < i := by have := (List.getElem?_eq_some_iff.mp hj).1; rw [List.length_take] at this; omega
    rw [List.getElem?_take_of_lt hji] at hj
    rw [decide_eq_false (fun z => by have := key_one h hj hi z; omega)]; rfl
  have no2 : ∀ r ∈ rs.drop (i + 1), (decide (keyW r = keyW row) && p r) = false := fun r hr => by
    obtain ⟨j, hj⟩ := List.getElem?_of_mem hr
    rw [List.getElem?_drop] at hj
    rw [decide_eq_false (fun z => by have := key_one h hj hi z; omega)]; rfl
  have f1 : (rs.take i).filter (fun r => decide (keyW r = keyW row) && p r) = [] := List.filter_eq_nil_iff.mpr fun r hr => by rw [no1 r hr]; exact Bool.false_ne_true
  have f2 : (rs.drop (i + 1)).filter (fun r => decide (keyW r = keyW row) && p r) = [] := List.filter_eq_nil_iff.mpr fun r hr => by rw [no2 r hr]; exact Bool.false_ne_true
  have e2 : rs.filter (fun r => decide (keyW r = keyW row) && p r) = (rs.take i ++ row :: rs.drop (i + 1)).filter (fun r => decide (keyW r = keyW row) && p r) := by rw [← e]
  rw [e2, List.filter_append, List.filter_cons, f1, f2, decide_eq_true rfl, Bool.true_and]
  rfl
theorem cell_row {n : Nat} {r : Rw} (h : RwOk n r) {zs : List Str} (hn : n = zs.length) {col : Str} (hc : col ∈ zs) : (r.map wV)[zs.idxOf col]? = some (wV (cellAt zs col r)) := by
  have hj : zs.idxOf col < r.length := by rw [h.len, hn]; exact List.idxOf_lt_length_of_mem hc
  have e : r[zs.idxOf col]? = some r[zs.idxOf col] := List.getElem?_eq_getElem hj
  unfold cellAt
  rw [getD_of e, List.getElem?_map, e]; rfl
abbrev s_cells_set : Stmt := topS 34
abbrev N_cells_set : List Str := ["tables", "content", "deed", "_", "table", "key", "column", "worth", "row"]
theorem sc_cells_set : FnScope N_cells_set ["tables", "content", "deed"] (defScope s_cells_set) := ⟨rfl, rfl, rfl, by decide +kernel, rfl, by decide +kernel, by decide +kernel⟩

theorem ok_cells_set {CN : Addr} {f : Addr} {fd : FuncData} (F : Fun K "_cells_set" "_cells_set" s_cells_set f fd) (D_row_there : DefX P w K mg base 4 "_row_there" ["tables", "content", "table", "key"] (spRowThere K CN)) (D_column_place : Def P w K mg base 3 "column_place" ["tables", "table", "column"] (spColPlace K)) : FnOk P w K mg base (L2.CX P w) 5 f fd ["tables", "content", "deed"] (spPart K CN "set" rSet noRow') := by
  refine F.okX sc_cells_set (fun vs H Q E h => ?_) (fun cdv A outer sh H vs Q E hr h => ?_)
  · obtain ⟨tp, ts, v, u, o, i, r, b, ct, dd, rs, rfl, _⟩ := h
    rfl
  obtain ⟨tp, ts, v, u, o, i, r, b, ct, dd, rs, rfl, hT, hd, hA, okd, hu', hw, yes, no⟩ := h
  have nd := sc_cells_set.nd
  refine ⟨_, (pss_cons (ps_asg (pv 2) (pg_seqB rfl (pgs_cons (pg_name (i := 3) nd rfl (Or.inl rfl)) (pgs_cons (pg_name (i := 4) nd rfl (Or.inl rfl)) (pgs_cons (pg_name (i := 5) nd rfl (Or.inl rfl)) (pgs_cons (pg_name (i := 6) nd rfl (Or.inl rfl)) (pgs_cons (pg_name (i := 7) nd rfl (Or.inl rfl)) pgs_nil)))))))
      (pss_cons (ps_set (i := 8) nd rfl (Or.inl rfl) (pe_ownX D_row_there hr (takes_of rfl rfl rfl rfl) (pa_cons (pv 0) (pa_cons (pv 1) (pa_cons (pv 4) (pa_cons (pv 5) pa_nil))))))
      (pss_cons (ps_if (pt_cmpR (op_eqD hr.units) (pe_ix ix_tup (pv 8) (pe_own D_column_place hr (pa_cons (pv 0) (pa_cons (pv 4) (pa_cons (pv 6) pa_nil)))) (fun _ _ => rfl)) (pv 7) (nomark _))
        (pss_one (ps_ret (pe_lst pa_nil)))
        pss_nil)
      (pss_one (ps_ret (pe_lst (pa_cons (pe_tup (pa_cons (pv 4) (pa_cons (pv 5) (pa_cons (pv 6) (pa_cons (pv 7) pa_nil))))) pa_nil))))))), ?_⟩
  cases dd with
  | set t k col wo =>
    obtain ⟨q, xs, rfl, g1, g2⟩ := seq_dp hu'
    cases g2 with
    | cons a1 g2 =>
    cases g2 with
    | cons a2 g2 =>
    cases g2 with
    | cons a3 g2 =>
    cases g2 with
    | cons a4 g2 =>
    cases g2 with
    | cons a5 g2 =>
    cases g2
    cases a1
    cases a2
    cases a3
    cases a4
    rename_i w5
    have ew : w5 = wV wo := by cases wo <;> cases a5 <;> rfl
    subst ew
    obtain ⟨ht, hc, _⟩ := okd
    refine ⟨.ref q, rfl, b, q, _, rfl, g1, rfl, .str "set", _, rfl, .str t, _, rfl, .int k, _, rfl, .str col, _, rfl, wV wo, _, rfl, rfl, ?_⟩
    refine ⟨.ref tp, rfl, v, rfl, .str t, rfl, .int k, rfl, tp, ts, v, o, i, r, ct, t, k, rs, rfl, hT, hd, hA, fun row2 p H1 hrow hk s1 hp => ?_, fun hk d H1 s1 hd => no k ?_ d H1 s1 hd⟩
    · subst hk
      have okr := hA.ok.row row2 hrow
      refine ⟨.ref p, rfl, .ref tp, rfl, .str t, rfl, .str col, rfl, tp, ts, t, col, rfl, hT.same s1, ht, hc, fun H2 s2 => ?_⟩
      have hno : noRow' rs (.set t (keyW row2) col wo) = none := by
        show (if keyW row2 ∈ rs.map keyW then none else some (keyW row2)) = none
        rw [if_pos (List.mem_map.mpr ⟨row2, hrow, rfl⟩)]
      have eR : rSet (cns ts t) rs (.set t (keyW row2) col wo) = (if (!decide (cellAt (cns ts t) col row2 = wo)) = true then [row2] else []).map fun _ => .tuple [.str t, .int (keyW row2), .str col, wD wo] := by
        show (rs.filter fun r => decide (keyW r = keyW row2) && !decide (cellAt (cns ts t) col r = wo)).map _ = _
        rw [filt_key hA.ok hrow]
      refine ⟨p, _, _, _, rfl, rfl, sameT s2 hp, atI_nat (cell_row okr rfl hc), wV wo, rfl, wD (cellAt (cns ts t) col row2), wD wo, dp_w _, dp_w _, shaped_w _, shaped_w _, _, rfl, ?_⟩
      rw [eqv_w]
      cases hw : decide (cellAt (cns ts t) col row2 = wo) with
      | true =>
        refine iteT ⟨Nat.zero_le _, fun D nD => ?_⟩
        refine yes hno D [] _ ((s1.trans s2).trans (same_upd nD)) (Same.free (s1.trans s2) nD) upd_same ?_
        rw [show tabOf (Deed.set t (keyW row2) col wo) = t from rfl, eR, hw]
        exact .nil
      | false =>
        refine iteF ?_
        refine ⟨.str t, rfl, .int (keyW row2), rfl, .str col, rfl, wV wo, rfl, (by show 4 ≤ sizeLine; decide), fun p2 np => ⟨(by show 1 ≤ sizeLine; decide), fun D nD => ?_⟩⟩
        have s3 := (same_upd (o := .tup [.str t, .int (keyW row2), .str col, wV wo]) np).trans (same_upd (o := .lst [.ref p2]) nD)
        have npD : p2 ≠ D := ne_of_none upd_same nD
        refine yes hno D _ _ ((s1.trans s2).trans s3) (Same.free ((s1.trans s2).trans (same_upd np)) nD) upd_same ?_
        rw [show tabOf (Deed.set t (keyW row2) col wo) = t from rfl, eR, hw]
        exact .cons (.tup (.inl (.inl (by rw [upd_ne npD, upd_same]))) (.cons (.str _) (.cons (.int _) (.cons (.str _) (.cons (dp_w wo) .nil))))) .nil
    · show (if k ∈ rs.map keyW then none else some k) = some k
      rw [if_neg hk]
  | put _ _ => exact absurd (show ("put" : Str) = "set" from hw) (by decide)
  | sweep _ _ _ => exact absurd (show ("sweep" : Str) = "set" from hw) (by decide)
  | shift _ _ _ => exact absurd (show ("shift" : Str) = "set" from hw) (by decide)
  | drop _ _ => exact absurd (show ("drop" : Str) = "set" from hw) (by decide)
end
end TT

set_option Elab.async false
set_option linter.all false
set_option maxRecDepth 100000
namespace TT
open PySem PySem.Spec PyProof.Rows L2
theorem kept_same {H H' : Hp} {D : Addr} (k : Kept [D] H H') (n : H D = none) : Same H H' := fun b o e => k b o e fun z => by rw [List.mem_singleton.mp z, n] at e; cases e
theorem kept_msk {H H' : Hp} {D : Addr} (k : Kept [D] H H') (n : H D = none) : Same H (msk [D] H') := fun b o e => by
  have ne : b ∉ [D] := fun z => by rw [List.mem_singleton.mp z, n] at e; cases e
  exact msk_at (k b o e ne) ne
/-- a comprehension over rows: some of them, of each something -/
theorem lc_rows {K : PySem.W.Frag} {J : It} {n : Nat} {G : Hp → Prop} {xs : List V} (w : Walk J n G (YAt xs)) {rs : List Rw} (hn : n = rs.length) (few : rs.length ≤ 900) (p : Rw → Bool) (f : Rw → PyData)
    {g : TG} {tt : TT} {te : TE} {vs : List Nat} {σ : L2.St} {H1 : Hp} {D : Addr} {Qd : Hp → Prop} (nD : H1 D = none) (hG : ∀ H', Kept [D] H1 H' → G H') (hx : ∀ (i : Nat) (x : V), xs[i]? = some x → ∃ row rp, rs[i]? = some row ∧ x = .ref rp ∧ SqT K H1 rp (row.map wV))
    (step : ∀ (row : Rw) (rp : Addr) (H' : Hp) (C : V → Hp → Prop) (N : Hp → Prop), row ∈ rs → Kept [D] H1 H' → (∃ ws, H' D = some (.lst ws)) → SqT K (msk [D] H') rp (row.map wV) → (p row = true → ∀ y H4, Kept [] H' H4 → Dp K (msk [D] H4) y (f row) → C y H4) → (p row = false → N H') →
      g (.ref rp) (wipe σ vs) H' fun σ2 H2 => wipe σ2 vs = wipe σ vs ∧ tt σ2 H2 fun b H3 => if b = true then te σ2 H3 C else N H3)
    (fin : ∀ us H2, Grow K [] H2 D us ((rs.filter p).map f) → Kept [D] H1 H2 → Qd H2) :
    ∃ W : Nat → Nat → Hp → Prop, (∃ m, W 0 m (upd H1 D (.lst []))) ∧ ∀ i m H, W i m H →
      (J.stop i H ∧ Qd H) ∨ (J.go i H ∧ ∃ Nx : Hp → Prop, (∀ H', Nx H' → ∃ m', m' < m ∧ W (i + 1) m' H') ∧ ∀ x H', J.yld i H x H' → g x (wipe σ vs) H' fun σ2 H2 => wipe σ2 vs = wipe σ vs ∧ tt σ2 H2 fun b H3 =>
        if b = true then te σ2 H3 fun y H4 => ∃ acc, H4 D = some (.lst acc) ∧ acc.length < sizeLine ∧ Nx (upd H4 D (.lst (acc ++ [y]))) else Nx H3) := by
  refine lc_it w (fun i H' => ∃ us, Grow K [] H' D us (((rs.take i).filter p).map f) ∧ Kept [D] H1 H') ⟨[], .start, Kept.upd_new nD⟩ (fun i H' _ hP => let ⟨_, _, kk⟩ := hP; hG H' kk) (fun i x H' H'' hi hP hY => ?_) (fun H2 hP => ?_)
  · obtain ⟨rfl, hx1⟩ := hY
    obtain ⟨us, gr, kk⟩ := hP
    obtain ⟨row, rp, h1, rfl, h2⟩ := hx i x hx1
    have et : (rs.take (i + 1)).filter p = (rs.take i).filter p ++ (if p row then [row] else []) := by
      rw [List.take_add_one, h1, List.filter_append]
      congr 1
      show List.filter p [row] = _
      rw [List.filter_cons, List.filter_nil]
    refine step row rp H'' _ _ (List.mem_of_getElem? h1) kk ⟨_, gr.at'⟩ (sameT (kept_msk kk nD) h2) (fun hp y H4 k4 hd => ?_) (fun hp => ?_)
    · have g4 := gr.kept k4 List.not_mem_nil
      refine ⟨us, g4.at', ?_, us ++ [y], ?_, kk.trans ((k4.mono (fun _ h => absurd h List.not_mem_nil)).trans (Kept.upd_in (List.mem_cons_self ..)))⟩
      · rw [gr.len, List.length_map]
        have := List.length_filter_le p (rs.take i)
        rw [List.length_take] at this
        exact small1000 (by omega)
      · rw [et, hp, if_pos rfl, List.map_append]
        exact g4.put hd
    · refine ⟨us, ?_, kk⟩
      rw [et, hp, if_neg Bool.false_ne_true, List.append_nil]
      exact gr
  · obtain ⟨us, gr, kk⟩ := hP
    rw [hn, List.take_length] at gr
    exact fin us H2 gr kk
theorem dp_rows {K : PySem.W.Frag} {H : Hp} {us : List V} {rs : List Rw} (h : DpAll K H us (rs.map rowD)) {i : Nat} {x : V} (hx : us[i]? = some x) : ∃ row rp, rs[i]? = some row ∧ x = .ref rp ∧ SqT K H rp (row.map wV) := by
  obtain ⟨d, h1, h2⟩ := dpAll_get i h hx
  rw [List.getElem?_map] at h1
  obtain ⟨row, hr, rfl⟩ := Option.map_eq_some_iff.mp h1
  obtain ⟨rp, xs, rfl, h3, h4⟩ := seq_dp (b := true) (show Dp K H x (seqD true (row.map wD)) from h2)
  have := dpAll_ws h4
  subst this
  exact ⟨row, rp, hr, rfl, h3⟩
section
variable {P : Program} {w : World} {K : PySem.W.Frag} {mg : Str → Option Value} {base : Heap}
def rSweep (zs : List Str) (rs : List Rw) : Deed → List PyData
  | .sweep t col o => (rs.filter fun r => decide (cellAt zs col r = o)).map fun r => .tuple [.str t, .int (keyW r)]
  | _ => []
def noNo (_ : List Rw) (_ : Deed) : Option Int := none
abbrev s_rows_swept : Stmt := topS 35
abbrev N_rows_swept : List Str := ["tables", "content", "deed", "_", "table", "column", "worth", "place", "rows", "row"]
theorem sc_rows_swept : FnScope N_rows_swept ["tables", "content", "deed"] (defScope s_rows_swept) := ⟨rfl, rfl, rfl, by decide +kernel, rfl, by decide +kernel, by decide +kernel⟩

theorem ok_rows_swept {CN : Addr} {f : Addr} {fd : FuncData} (F : Fun K "_rows_swept" "_rows_swept" s_rows_swept f fd) (D_column_place : Def P w K mg base 3 "column_place" ["tables", "table", "column"] (spColPlace K)) (D_rows_of : Def P w K mg base 3 "rows_of" ["tables", "content", "table"] (spRowsOf K)) : FnOk P w K mg base (L2.CX P w) 4 f fd ["tables", "content", "deed"] (spPart K CN "sweep" rSweep noNo) := by
  refine F.okX sc_rows_swept (fun vs H Q E h => ?_) (fun cdv A outer sh H vs Q E hr h => ?_)
  · obtain ⟨tp, ts, v, u, o, i, r, b, ct, dd, rs, rfl, _⟩ := h
    rfl
  obtain ⟨tp, ts, v, u, o, i, r, b, ct, dd, rs, rfl, hT, hd, hA, okd, hu', hw, yes, no⟩ := h
  have nd := sc_rows_swept.nd
  refine ⟨_, (pss_cons (ps_asg (pv 2) (pg_seqB rfl (pgs_cons (pg_name (i := 3) nd rfl (Or.inl rfl)) (pgs_cons (pg_name (i := 4) nd rfl (Or.inr rfl)) (pgs_cons (pg_name (i := 5) nd rfl (Or.inl rfl)) (pgs_cons (pg_name (i := 6) nd rfl (Or.inr rfl)) pgs_nil))))))
      (pss_cons (ps_set (i := 7) nd rfl (Or.inr rfl) (pe_own D_column_place hr (pa_cons (pv 0) (pa_cons (pv 4) (pa_cons (pv 5) pa_nil)))))
      (pss_cons (ps_set (i := 8) nd rfl (Or.inl rfl) (pe_own D_rows_of hr (pa_cons (pv 0) (pa_cons (pv 1) (pa_cons (pv 4) pa_nil)))))
      (pss_one (ps_ret (pe_lc (own := [("row", 9)]) (g := (gName 9)) rfl nd (pi_list (pv 8)) (blkOk_by (N := N_rows_swept) (sc := defScope s_rows_swept) (by decide +kernel)) (fun _ _ _ _ _ => (pg_name (i := 9) nd rfl (Or.inl rfl))) (fun _ _ _ _ _ => (pts_one (pt_cmpR (r := rEqD K) (op_eqD hr.units) (pe_ix (r := rIxT K) ix_tup (pv 9) (pv 7) (fun _ _ => rfl)) (pv 6) (nomark _)))) (fun _ _ _ _ _ => (pe_tup (pa_cons (pv 4) (pa_cons (pe_ix (r := rIxT K) ix_tup (pv 9) pe_int (fun _ _ => rfl)) pa_nil)))))))))), ?_⟩
  cases dd with
  | sweep t col wo =>
    obtain ⟨q, xs, rfl, g1, g2⟩ := seq_dp hu'
    cases g2 with
    | cons a1 g2 =>
    cases g2 with
    | cons a2 g2 =>
    cases g2 with
    | cons a3 g2 =>
    cases g2 with
    | cons a4 g2 =>
    cases g2
    cases a1
    cases a2
    cases a3
    rename_i w5
    have ew : w5 = wV wo := by cases wo <;> cases a4 <;> rfl
    subst ew
    obtain ⟨ht, hc⟩ := okd
    refine ⟨.ref q, rfl, b, q, _, rfl, g1, rfl, .str "sweep", _, rfl, .str t, _, rfl, .str col, _, rfl, wV wo, _, rfl, rfl, ?_⟩
    refine ⟨.ref tp, rfl, .str t, rfl, .str col, rfl, tp, ts, t, col, rfl, hT, ht, hc, fun H1 s1 => ?_⟩
    refine ⟨.ref tp, rfl, v, rfl, .str t, rfl, tp, ts, v, o, i, r, ct, t, rs, rfl, hT.same s1, dp_same s1 hd, hA, fun D0 us H2 s2 n0 e0 hus => ?_⟩
    refine ⟨.ref D0, rfl, D0, rfl, ⟨us, .inl (.inl e0)⟩, fun D nD => ?_⟩
    have n0D : D0 ≠ D := ne_of_none e0 nD
    refine lc_rows (K := K) (walk_list (xs := us)) (by rw [dpAll_len hus, List.length_map]) hA.few (fun r => decide (cellAt (cns ts t) col r = wo)) (fun r => .tuple [.str t, .int (keyW r)]) nD (fun H' k => .inl (.inl (k.at e0 (by simp [n0D])))) (fun i x hx => ?_) (fun row rp H' C N hrow kk eD hS yesC noN => ?_) (fun us2 H3 gr kk => ?_)
    · obtain ⟨row, rp, h1, h2, h3⟩ := dp_rows hus hx
      exact ⟨row, rp, h1, h2, sameT (msk_sub _ _) h3⟩
    · have okr := hA.ok.row row hrow
      have hS' : SqT K H' rp (row.map wV) := sameT (msk_sub _ _) hS
      obtain ⟨k, t0, rfl⟩ := okr.key
      refine ⟨rfl, ?_⟩
      refine ⟨.ref rp, rfl, _, rfl, rp, _, _, _, rfl, rfl, hS', atI_nat (cell_row okr rfl hc), wV wo, rfl, wD (cellAt (cns ts t) col (some k :: t0)), wD wo, dp_w _, dp_w _, shaped_w _, shaped_w _, _, rfl, ?_⟩
      rw [eqv_w]
      refine ite2 (fun e => ?_) (fun e => ?_)
      · refine ⟨.str t, rfl, .ref rp, rfl, rp, _, 0, .int k, rfl, rfl, hS', atI_nat (j := 0) rfl, (by show 2 ≤ sizeLine; decide), fun p np => ?_⟩
        obtain ⟨ws, eD⟩ := eD
        exact yesC e _ _ (Kept.upd_new np) (.tup (.inl (.inl (msk_at upd_same (by simp [(ne_of_none eD np).symm])))) (.cons (.str _) (.cons (.int _) .nil)))
      · exact noN (by simpa using e)
    · exact yes rfl D us2 H3 (s1.trans (s2.trans (kept_same kk nD))) (Same.free (s1.trans s2) nD) gr.at' (dpAll_same (msk_sub _ _) gr.dp)
  | put _ _ => exact absurd (show ("put" : Str) = "sweep" from hw) (by decide)
  | drop _ _ => exact absurd (show ("drop" : Str) = "sweep" from hw) (by decide)
  | shift _ _ _ => exact absurd (show ("shift" : Str) = "sweep" from hw) (by decide)
  | set _ _ _ _ => exact absurd (show ("set" : Str) = "sweep" from hw) (by decide)
def rShift (zs : List Str) (rs : List Rw) : Deed → List PyData
  | .shift t col b => if b = 0 then [] else (rs.filter fun r => !decide (cellAt zs col r = none)).map fun r => .tuple [.str t, .int (keyW r), .str col, wD ((cellAt zs col r).map (· + b))]
  | _ => []
abbrev s_cells_shifted : Stmt := topS 36
abbrev N_cells_shifted : List Str := ["tables", "content", "deed", "_", "table", "column", "by", "place", "rows", "row"]
theorem sc_cells_shifted : FnScope N_cells_shifted ["tables", "content", "deed"] (defScope s_cells_shifted) := ⟨rfl, rfl, rfl, by decide +kernel, rfl, by decide +kernel, by decide +kernel⟩

theorem ok_cells_shifted {CN : Addr} {f : Addr} {fd : FuncData} (F : Fun K "_cells_shifted" "_cells_shifted" s_cells_shifted f fd) (D_column_place : Def P w K mg base 3 "column_place" ["tables", "table", "column"] (spColPlace K)) (D_rows_of : Def P w K mg base 3 "rows_of" ["tables", "content", "table"] (spRowsOf K)) : FnOk P w K mg base (L2.CX P w) 4 f fd ["tables", "content", "deed"] (spPart K CN "shift" rShift noNo) := by
  refine F.okX sc_cells_shifted (fun vs H Q E h => ?_) (fun cdv A outer sh H vs Q E hr h => ?_)
  · obtain ⟨tp, ts, v, u, o, i, r, b, ct, dd, rs, rfl, _⟩ := h
    rfl
  obtain ⟨tp, ts, v, u, o, i, r, b, ct, dd, rs, rfl, hT, hd, hA, okd, hu', hw, yes, no⟩ := h
  have nd := sc_cells_shifted.nd
  refine ⟨_, (pss_cons (ps_asg (pv 2) (pg_seqB rfl (pgs_cons (pg_name (i := 3) nd rfl (Or.inl rfl)) (pgs_cons (pg_name (i := 4) nd rfl (Or.inr rfl)) (pgs_cons (pg_name (i := 5) nd rfl (Or.inr rfl)) (pgs_cons (pg_name (i := 6) nd rfl (Or.inr rfl)) pgs_nil))))))
      (pss_cons (ps_if (pt_cmpR op_eq (pv 6) pe_int (nomark _))
        (pss_one (ps_ret (pe_lst pa_nil)))
        pss_nil)
      (pss_cons (ps_set (i := 7) nd rfl (Or.inr rfl) (pe_own D_column_place hr (pa_cons (pv 0) (pa_cons (pv 4) (pa_cons (pv 5) pa_nil)))))
      (pss_cons (ps_setLc (i := 8) (own := [("row", 9)]) (g := (gName 9)) rfl nd rfl rfl (sw_true rfl rfl rfl (by decide +kernel)) (pi_list (pe_own D_rows_of hr (pa_cons (pv 0) (pa_cons (pv 1) (pa_cons (pv 4) pa_nil))))) (blkOk_by (N := N_cells_shifted) (sc := defScope s_cells_shifted) (by decide +kernel)) (fun _ _ _ _ _ => (pg_name (i := 9) nd rfl (Or.inl rfl))) (fun _ _ _ _ _ => (pts_one (pt_cmpR op_notN (pe_ix (r := rIxT K) ix_tup (pv 9) (pv 7) (fun _ _ => rfl)) pe_non (nomark _)))) (fun _ _ _ _ _ => (pv 9)))
      (pss_one (ps_ret (pe_lc (own := [("row", 9)]) (g := (gName 9)) (tt := tYes) rfl nd (pi_list (pv 8)) (blkOk_by (N := N_cells_shifted) (sc := defScope s_cells_shifted) (by decide +kernel)) (fun _ _ _ _ _ => (pg_name (i := 9) nd rfl (Or.inl rfl))) (fun _ _ _ _ _ => pts_nil) (fun _ _ _ _ _ => (pe_tup (pa_cons (pv 4) (pa_cons (pe_ix (r := rIxT K) ix_tup (pv 9) pe_int (fun _ _ => rfl)) (pa_cons (pv 5) (pa_cons (pe_op op_add (pe_ix (r := rIxT K) ix_tup (pv 9) (pv 7) (fun _ _ => rfl)) (pv 6)) pa_nil))))))))))))), ?_⟩
  cases dd with
  | shift t col by' =>
    obtain ⟨q, xs, rfl, g1, g2⟩ := seq_dp hu'
    cases g2 with
    | cons a1 g2 =>
    cases g2 with
    | cons a2 g2 =>
    cases g2 with
    | cons a3 g2 =>
    cases g2 with
    | cons a4 g2 =>
    cases g2
    cases a1
    cases a2
    cases a3
    cases a4
    obtain ⟨ht, hc⟩ := okd
    refine ⟨.ref q, rfl, b, q, _, rfl, g1, rfl, .str "shift", _, rfl, .str t, _, rfl, .str col, _, rfl, .int by', _, rfl, rfl, ?_⟩
    refine ⟨.int by', rfl, rfl, _, rfl, ite2 (fun e => ?_) (fun e => ?_)⟩
    · have e : by' = 0 := V.int.inj (of_decide_eq_true e)
      refine ⟨Nat.zero_le _, fun D nD => ?_⟩
      refine yes rfl D [] _ (same_upd nD) nD upd_same ?_
      rw [show rShift (cns ts (tabOf (Deed.shift t col by'))) rs (Deed.shift t col by') = [] by show (if by' = 0 then _ else _) = _; rw [if_pos e]]
      exact .nil
    have e : ¬ by' = 0 := fun z => e (decide_eq_true (congrArg V.int z))
    refine ⟨.ref tp, rfl, .str t, rfl, .str col, rfl, tp, ts, t, col, rfl, hT, ht, hc, fun H1 s1 => ?_⟩
    refine ⟨.ref tp, rfl, v, rfl, .str t, rfl, tp, ts, v, o, i, r, ct, t, rs, rfl, hT.same s1, dp_same s1 hd, hA, fun D0 us H2 s2 n0 e0 hus => ?_⟩
    refine ⟨D0, rfl, ⟨us, .inl (.inl e0)⟩, fun D nD => ?_⟩
    have n0D : D0 ≠ D := ne_of_none e0 nD
    refine lc_rows (K := K) (walk_list (xs := us)) (by rw [dpAll_len hus, List.length_map]) hA.few (fun r => !decide (cellAt (cns ts t) col r = none)) rowD nD (fun H' k => .inl (.inl (k.at e0 (by simp [n0D])))) (fun i x hx => ?_) (fun row rp H' C N hrow kk eD hS yesC noN => ?_) (fun us2 H3 gr kk => ?_)
    · obtain ⟨row, rp, h1, h2, h3⟩ := dp_rows hus hx
      exact ⟨row, rp, h1, h2, sameT (msk_sub _ _) h3⟩
    · have okr := hA.ok.row row hrow
      have hS' : SqT K H' rp (row.map wV) := sameT (msk_sub _ _) hS
      refine ⟨rfl, ?_⟩
      refine ⟨.ref rp, rfl, _, rfl, rp, _, _, _, rfl, rfl, hS', atI_nat (cell_row okr rfl hc), rfl, _, rfl, ?_⟩
      have ec : (!decide (wV (cellAt (cns ts t) col row) = .non)) = !decide (cellAt (cns ts t) col row = none) := by
        cases cellAt (cns ts t) col row with
        | none => rfl
        | some z => rfl
      refine ite2 (c := (!decide (wV (cellAt (cns ts t) col row) = V.non)) = true) (fun e => ?_) (fun e => ?_) <;> rw [ec] at e
      · exact ⟨_, rfl, yesC e _ _ (Kept.refl _ _) (.tup hS (dp_ws row))⟩
      · exact noN (by simpa using e)
    have s3 : Same H2 H3 := kept_same kk nD
    have hus2 := gr.dp
    refine ⟨.ref D, rfl, D, rfl, ⟨us2, .inl (.inl gr.at')⟩, fun E' nE => ?_⟩
    have nDE : D ≠ E' := ne_of_none gr.at' nE
    have fw := List.length_filter_le (fun r => !decide (cellAt (cns ts t) col r = none)) rs
    have few := hA.few
    refine lc_rows (K := K) (rs := rs.filter fun r => !decide (cellAt (cns ts t) col r = none)) (walk_list (xs := us2)) (by rw [gr.len, List.length_map]) (by omega) (fun _ => true) (fun r => .tuple [.str t, .int (keyW r), .str col, wD ((cellAt (cns ts t) col r).map (· + by'))]) nE (fun H' k => .inl (.inl (k.at gr.at' (by simp [nDE])))) (fun i x hx => ?_) (fun row rp H' C N hrow kk eD hS yesC noN => ?_) (fun us3 H4 gr4 kk4 => ?_)
    · obtain ⟨row, rp, h1, h2, h3⟩ := dp_rows hus2 hx
      exact ⟨row, rp, h1, h2, sameT (msk_sub _ _) h3⟩
    · obtain ⟨hrow, hp⟩ := List.mem_filter.mp hrow
      have okr := hA.ok.row row hrow
      have hS' : SqT K H' rp (row.map wV) := sameT (msk_sub _ _) hS
      have cr : (row.map wV)[(cns ts t).idxOf col]? = some (wV (cellAt (cns ts t) col row)) := cell_row okr rfl hc
      obtain ⟨z, hz⟩ : ∃ z, cellAt (cns ts t) col row = some z := by
        cases h : cellAt (cns ts t) col row with
        | none => rw [h] at hp; exact absurd hp (by decide)
        | some z => exact ⟨z, rfl⟩
      rw [hz] at yesC cr
      obtain ⟨k, t0, rfl⟩ := okr.key
      refine ⟨rfl, ?_⟩
      unfold tYes
      dsimp only
      refine iteT ?_
      refine ⟨.str t, rfl, .ref rp, rfl, rp, _, 0, .int k, rfl, rfl, hS', atI_nat (j := 0) rfl, .str col, rfl, .ref rp, rfl, _, rfl, rp, _, _, _, rfl, rfl, hS', atI_nat cr, .int by', rfl, z, by', rfl, rfl, (by show 4 ≤ sizeLine; decide), fun p np => ?_⟩
      obtain ⟨ws, eD⟩ := eD
      exact yesC rfl _ _ (Kept.upd_new np) (.tup (.inl (.inl (msk_at upd_same (by simp [(ne_of_none eD np).symm])))) (.cons (.str _) (.cons (.int _) (.cons (.str _) (.cons (.int _) .nil)))))
    · refine yes rfl E' us3 H4 (s1.trans (s2.trans (s3.trans (kept_same kk4 nE)))) (Same.free (s1.trans (s2.trans s3)) nE) gr4.at' ?_
      rw [show rShift (cns ts (tabOf (Deed.shift t col by'))) rs (Deed.shift t col by') = ((rs.filter fun r => !decide (cellAt (cns ts t) col r = none)).filter fun _ => true).map fun r => .tuple [.str t, .int (keyW r), .str col, wD ((cellAt (cns ts t) col r).map (· + by'))] by
        show (if by' = 0 then _ else _) = _
        rw [if_neg e, List.filter_eq_self.mpr fun _ _ => rfl]; rfl]
      exact dpAll_same (msk_sub _ _) gr4.dp
  | put _ _ => exact absurd (show ("put" : Str) = "shift" from hw) (by decide)
  | drop _ _ => exact absurd (show ("drop" : Str) = "shift" from hw) (by decide)
  | sweep _ _ _ => exact absurd (show ("sweep" : Str) = "shift" from hw) (by decide)
  | set _ _ _ _ => exact absurd (show ("set" : Str) = "shift" from hw) (by decide)
theorem deed0 {H : Hp} {u : V} {b : Bool} {dd : Deed} (h : Dp K H u (deedF b dd)) : ∃ q xs, u = .ref q ∧ SqB b K H q xs ∧ xs[0]? = some (.str (wordOf dd)) := by
  cases dd with
  | put _ _ => obtain ⟨q, xs, rfl, g1, g2⟩ := seq_dp h; cases g2 with | cons a _ => cases a; exact ⟨q, _, rfl, g1, rfl⟩
  | drop _ _ => obtain ⟨q, xs, rfl, g1, g2⟩ := seq_dp h; cases g2 with | cons a _ => cases a; exact ⟨q, _, rfl, g1, rfl⟩
  | sweep _ _ _ => obtain ⟨q, xs, rfl, g1, g2⟩ := seq_dp h; cases g2 with | cons a _ => cases a; exact ⟨q, _, rfl, g1, rfl⟩
  | shift _ _ _ => obtain ⟨q, xs, rfl, g1, g2⟩ := seq_dp h; cases g2 with | cons a _ => cases a; exact ⟨q, _, rfl, g1, rfl⟩
  | set _ _ _ _ => obtain ⟨q, xs, rfl, g1, g2⟩ := seq_dp h; cases g2 with | cons a _ => cases a; exact ⟨q, _, rfl, g1, rfl⟩
/-- told: a new tuple of three new lists -/
def toldP (K : PySem.W.Frag) (Q : VK) (g c r : List PyData) (H : Hp) : Prop := ∀ (p D1 D2 D3 : Addr) (u1 u2 u3 : List V) (H' : Hp), Same H H' → H p = none → H D1 = none → H D2 = none → H D3 = none →
  H' p = some (.tup [.ref D1, .ref D2, .ref D3]) → H' D1 = some (.lst u1) → H' D2 = some (.lst u2) → H' D3 = some (.lst u3) → DpAll K H' u1 g → DpAll K H' u2 c → DpAll K H' u3 r → Q (.ref p) H'
def spOwn (K : PySem.W.Frag) (CN CT : Addr) : Sp := fun vs H Q E => ∃ (tp : Addr) (ts : List Tab) (v u : V) (o i r b : Bool) (ct : List (List Rw)) (dd : Deed) (rs : List Rw), vs = [.ref tp, v, u] ∧ Tabs K H tp ts ∧ Dp K H v (handD o i r ct) ∧ At ts ct (tabOf dd) rs ∧
  DeedOk ts dd ∧ Dp K H u (deedF b dd) ∧ (∀ g c r, own (cns ts (tabOf dd)) rs dd = .told g c r → toldP K Q g c r H) ∧ (∀ t k, own (cns ts (tabOf dd)) rs dd = .norow t k → raisedTK E CN t k H) ∧ (∀ t k, own (cns ts (tabOf dd)) rs dd = .taken t k → raisedTK E CT t k H)
abbrev s_own_part : Stmt := topS 31
abbrev N_own_part : List Str := ["tables", "content", "deed", "kind"]
theorem sc_own_part : FnScope N_own_part ["tables", "content", "deed"] (defScope s_own_part) := ⟨rfl, rfl, rfl, by decide +kernel, rfl, by decide +kernel, by decide +kernel⟩

theorem ok_own_part {CN CT : Addr} {f : Addr} {fd : FuncData} (F : Fun K "own_part" "own_part" s_own_part f fd)
    (D_rows_put : DefX P w K mg base 4 "_rows_put" ["tables", "content", "deed"] (spPart K CT "put" rPut noPut)) (D_rows_dropped : DefX P w K mg base 5 "_rows_dropped" ["tables", "content", "deed"] (spPart K CN "drop" rDrop noRow'))
    (D_cells_set : DefX P w K mg base 5 "_cells_set" ["tables", "content", "deed"] (spPart K CN "set" rSet noRow')) (D_rows_swept : DefX P w K mg base 4 "_rows_swept" ["tables", "content", "deed"] (spPart K CN "sweep" rSweep noNo))
    (D_cells_shifted : DefX P w K mg base 4 "_cells_shifted" ["tables", "content", "deed"] (spPart K CN "shift" rShift noNo)) : FnOk P w K mg base (L2.CX P w) 6 f fd ["tables", "content", "deed"] (spOwn K CN CT) := by
  refine F.okX sc_own_part (fun vs H Q E h => ?_) (fun cdv A outer sh H vs Q E hr h => ?_)
  · obtain ⟨tp, ts, v, u, o, i, r, b, ct, dd, rs, rfl, _⟩ := h
    rfl
  obtain ⟨tp, ts, v, u, o, i, r, b, ct, dd, rs, rfl, hT, hd, hA, okd, hu', yes, noR, taken⟩ := h
  have nd := sc_own_part.nd
  refine ⟨_, (pss_cons (ps_set (i := 3) nd rfl (Or.inl rfl) (pe_ix ix_seq (pv 2) pe_int (fun _ _ => rfl)))
      (pss_cons (ps_if (pt_cmpR op_eq (pv 3) pe_str (nomark _))
        (pss_one (ps_ret (pe_tup (pa_cons (pe_lst pa_nil) (pa_cons (pe_lst pa_nil) (pa_cons (pe_ownX D_rows_put hr (takes_of rfl rfl rfl rfl) (pa_cons (pv 0) (pa_cons (pv 1) (pa_cons (pv 2) pa_nil)))) pa_nil))))))
        pss_nil)
      (pss_cons (ps_if (pt_cmpR op_eq (pv 3) pe_str (nomark _))
        (pss_one (ps_ret (pe_tup (pa_cons (pe_ownX D_rows_dropped hr (takes_of rfl rfl rfl rfl) (pa_cons (pv 0) (pa_cons (pv 1) (pa_cons (pv 2) pa_nil)))) (pa_cons (pe_lst pa_nil) (pa_cons (pe_lst pa_nil) pa_nil))))))
        pss_nil)
      (pss_cons (ps_if (pt_cmpR op_eq (pv 3) pe_str (nomark _))
        (pss_one (ps_ret (pe_tup (pa_cons (pe_lst pa_nil) (pa_cons (pe_ownX D_cells_set hr (takes_of rfl rfl rfl rfl) (pa_cons (pv 0) (pa_cons (pv 1) (pa_cons (pv 2) pa_nil)))) (pa_cons (pe_lst pa_nil) pa_nil))))))
        pss_nil)
      (pss_cons (ps_if (pt_cmpR op_eq (pv 3) pe_str (nomark _))
        (pss_one (ps_ret (pe_tup (pa_cons (pe_ownX D_rows_swept hr (takes_of rfl rfl rfl rfl) (pa_cons (pv 0) (pa_cons (pv 1) (pa_cons (pv 2) pa_nil)))) (pa_cons (pe_lst pa_nil) (pa_cons (pe_lst pa_nil) pa_nil))))))
        pss_nil)
      (pss_one (ps_ret (pe_tup (pa_cons (pe_lst pa_nil) (pa_cons (pe_ownX D_cells_shifted hr (takes_of rfl rfl rfl rfl) (pa_cons (pv 0) (pa_cons (pv 1) (pa_cons (pv 2) pa_nil)))) (pa_cons (pe_lst pa_nil) pa_nil))))))))))), ?_⟩
  obtain ⟨q, xs, rfl, g1, g0⟩ := deed0 hu'
  refine ⟨.ref q, rfl, ixB (i := 0) g1 g0 ?_⟩
  -- a list of its own, then two empty ones
  have first : ∀ (G : List PyData), toldP K Q G [] [] H → toldL K (fun x H1 => ∀ b, H1 b = none → ∀ c, upd H1 b (.lst []) c = none → ∀ p, upd (upd H1 b (.lst [])) c (.lst []) p = none → Q (.ref p) (upd (upd (upd H1 b (.lst [])) c (.lst [])) p (.tup [x, .ref b, .ref c]))) G H := fun G tp D us H1 s1 n0 e0 hg b nb c nc p np => by
    have s2 := s1.trans (same_upd (o := .lst []) nb)
    have s3 := s2.trans (same_upd (o := .lst []) nc)
    have s4 := s3.trans (same_upd (o := .tup [.ref D, .ref b, .ref c]) np)
    have bc : b ≠ c := ne_of_none upd_same nc
    have k3 := (same_upd (o := .lst []) nb).trans ((same_upd (o := .lst []) nc).trans (same_upd (o := .tup [.ref D, .ref b, .ref c]) np))
    exact tp p D b c us [] [] _ s4 (Same.free s3 np) n0 (Same.free s1 nb) (Same.free s2 nc) upd_same (k3 _ _ e0) (((same_upd (o := .lst []) nc).trans (same_upd (o := .tup [.ref D, .ref b, .ref c]) np)) _ _ upd_same) ((same_upd (o := .tup [.ref D, .ref b, .ref c]) np) _ _ upd_same) (dpAll_same k3 hg) .nil .nil
  have second : ∀ (G : List PyData) (a : Addr), H a = none → toldP K Q [] G [] H → toldL K (fun x H1 => ∀ c, H1 c = none → ∀ p, upd H1 c (.lst []) p = none → Q (.ref p) (upd (upd H1 c (.lst [])) p (.tup [.ref a, x, .ref c]))) G (upd H a (.lst [])) := fun G a na tp D us H1 s1 n0 e0 hg c nc p np => by
    have s1' := (same_upd (o := .lst []) na).trans s1
    have k2 := (same_upd (o := .lst []) nc).trans (same_upd (o := .tup [.ref a, .ref D, .ref c]) np)
    exact tp p a D c [] us [] _ (s1'.trans k2) (Same.free (s1'.trans (same_upd nc)) np) na (Same.free (same_upd na) n0) (Same.free s1' nc) upd_same (k2 _ _ (s1 _ _ upd_same)) (k2 _ _ e0) ((same_upd (o := .tup [.ref a, .ref D, .ref c]) np) _ _ upd_same) .nil (dpAll_same k2 hg) .nil
  have third : ∀ (G : List PyData) (a b : Addr), H a = none → upd H a (.lst []) b = none → toldP K Q [] [] G H → toldL K (fun x H1 => ∀ p, H1 p = none → Q (.ref p) (upd H1 p (.tup [.ref a, .ref b, x]))) G (upd (upd H a (.lst [])) b (.lst [])) := fun G a b na nb tp D us H1 s1 n0 e0 hg p np => by
    have s0 := (same_upd (o := .lst []) na).trans (same_upd (o := .lst []) nb)
    have s1' := s0.trans s1
    have k1 := same_upd (o := .tup [.ref a, .ref b, .ref D]) np
    exact tp p a b D [] [] us _ (s1'.trans k1) (Same.free s1' np) na (Same.free (same_upd na) nb) (Same.free s0 n0) upd_same (k1 _ _ (s1 _ _ ((same_upd (o := .lst []) nb) _ _ upd_same))) (k1 _ _ (s1 _ _ upd_same)) (k1 _ _ e0) .nil .nil (dpAll_same k1 hg)
  cases dd with
  | put t row =>
    refine ⟨.str "put", rfl, rfl, _, rfl, ite2 (fun _ => ?_) (fun e => absurd (decide_eq_true rfl) e)⟩
    refine ⟨Nat.zero_le _, fun a na => ⟨Nat.zero_le _, fun b' nb' => ?_⟩⟩
    have s0 := (same_upd (o := .lst []) na).trans (same_upd (o := .lst []) nb')
    refine ⟨.ref tp, rfl, v, rfl, .ref q, rfl, tp, ts, v, .ref q, o, i, r, b, ct, .put t row, rs, rfl, hT.same s0, dp_same s0 hd, hA, okd, dp_same s0 hu', rfl, fun hn => ?_, fun k hk d H' s n => ?_⟩
    · have hk : ¬ keyW row ∈ rs.map keyW := fun z => by
        have : (if keyW row ∈ rs.map keyW then some (keyW row) else none) = none := hn
        rw [if_pos z] at this; cases this
      intro D us H1 s1 n0 e0 hg
      exact ⟨(by show 3 ≤ sizeLine; decide), fun p np => third _ a b' na nb' (yes _ _ _ (show (if keyW row ∈ rs.map keyW then OwnR.taken t (keyW row) else _) = _ by rw [if_neg hk]; rfl)) D us H1 s1 n0 e0 hg p np⟩
    · have hk2 : (if keyW row ∈ rs.map keyW then some (keyW row) else none) = some k := hk
      by_cases z : keyW row ∈ rs.map keyW
      · rw [if_pos z] at hk2
        cases hk2
        exact taken t _ (show (if keyW row ∈ rs.map keyW then OwnR.taken t (keyW row) else _) = _ by rw [if_pos z]) d H' (s0.trans s) n
      · rw [if_neg z] at hk2; cases hk2
  | drop t k =>
    refine ⟨.str "drop", rfl, rfl, _, rfl, ite2 (fun e => absurd (V.str.inj (of_decide_eq_true e)) (by decide)) (fun _ => ?_)⟩
    refine ⟨.str "drop", rfl, rfl, _, rfl, ite2 (fun _ => ?_) (fun e => absurd (decide_eq_true rfl) e)⟩
    refine ⟨.ref tp, rfl, v, rfl, .ref q, rfl, tp, ts, v, .ref q, o, i, r, b, ct, .drop t k, rs, rfl, hT, hd, hA, okd, hu', rfl, fun hn => ?_, fun k2 hk d H' s n => ?_⟩
    · have hk : k ∈ rs.map keyW := by
        have h2 : (if k ∈ rs.map keyW then none else some k) = none := hn
        by_cases z : k ∈ rs.map keyW
        · exact z
        · rw [if_neg z] at h2; cases h2
      intro D us H1 s1 n0 e0 hg
      exact ⟨Nat.zero_le _, fun b' nb' => ⟨Nat.zero_le _, fun c nc => ⟨(by show 3 ≤ sizeLine; decide), fun p np => first _ (yes _ _ _ (show (if k ∈ rs.map keyW then _ else OwnR.norow t k) = _ by rw [if_pos hk]; rfl)) D us H1 s1 n0 e0 hg b' nb' c nc p np⟩⟩⟩
    · have hk2 : (if k ∈ rs.map keyW then none else some k) = some k2 := hk
      by_cases z : k ∈ rs.map keyW
      · rw [if_pos z] at hk2; cases hk2
      · rw [if_neg z] at hk2
        cases hk2
        exact noR t _ (show (if k ∈ rs.map keyW then _ else OwnR.norow t k) = _ by rw [if_neg z]) d H' s n
  | sweep t col wo =>
    refine ⟨.str "sweep", rfl, rfl, _, rfl, ite2 (fun e => absurd (V.str.inj (of_decide_eq_true e)) (by decide)) (fun _ => ?_)⟩
    refine ⟨.str "sweep", rfl, rfl, _, rfl, ite2 (fun e => absurd (V.str.inj (of_decide_eq_true e)) (by decide)) (fun _ => ?_)⟩
    refine ⟨.str "sweep", rfl, rfl, _, rfl, ite2 (fun e => absurd (V.str.inj (of_decide_eq_true e)) (by decide)) (fun _ => ?_)⟩
    refine ⟨.str "sweep", rfl, rfl, _, rfl, ite2 (fun _ => ?_) (fun e => absurd (decide_eq_true rfl) e)⟩
    refine ⟨.ref tp, rfl, v, rfl, .ref q, rfl, tp, ts, v, .ref q, o, i, r, b, ct, .sweep t col wo, rs, rfl, hT, hd, hA, okd, hu', rfl, fun hn => ?_, fun k2 hk d H' s n => nomatch hk⟩
    intro D us H1 s1 n0 e0 hg
    exact ⟨Nat.zero_le _, fun b' nb' => ⟨Nat.zero_le _, fun c nc => ⟨(by show 3 ≤ sizeLine; decide), fun p np => first _ (yes _ _ _ rfl) D us H1 s1 n0 e0 hg b' nb' c nc p np⟩⟩⟩
  | shift t col y =>
    refine ⟨.str "shift", rfl, rfl, _, rfl, ite2 (fun e => absurd (V.str.inj (of_decide_eq_true e)) (by decide)) (fun _ => ?_)⟩
    refine ⟨.str "shift", rfl, rfl, _, rfl, ite2 (fun e => absurd (V.str.inj (of_decide_eq_true e)) (by decide)) (fun _ => ?_)⟩
    refine ⟨.str "shift", rfl, rfl, _, rfl, ite2 (fun e => absurd (V.str.inj (of_decide_eq_true e)) (by decide)) (fun _ => ?_)⟩
    refine ⟨.str "shift", rfl, rfl, _, rfl, ite2 (fun e => absurd (V.str.inj (of_decide_eq_true e)) (by decide)) (fun _ => ?_)⟩
    refine ⟨Nat.zero_le _, fun a na => ?_⟩
    have s0 := same_upd (o := .lst []) na
    refine ⟨.ref tp, rfl, v, rfl, .ref q, rfl, tp, ts, v, .ref q, o, i, r, b, ct, .shift t col y, rs, rfl, hT.same s0, dp_same s0 hd, hA, okd, dp_same s0 hu', rfl, fun hn => ?_, fun k2 hk d H' s n => nomatch hk⟩
    intro D us H1 s1 n0 e0 hg
    exact ⟨Nat.zero_le _, fun c nc => ⟨(by show 3 ≤ sizeLine; decide), fun p np => second _ a na (yes _ _ _ rfl) D us H1 s1 n0 e0 hg c nc p np⟩⟩
  | set t k col wo =>
    refine ⟨.str "set", rfl, rfl, _, rfl, ite2 (fun e => absurd (V.str.inj (of_decide_eq_true e)) (by decide)) (fun _ => ?_)⟩
    refine ⟨.str "set", rfl, rfl, _, rfl, ite2 (fun e => absurd (V.str.inj (of_decide_eq_true e)) (by decide)) (fun _ => ?_)⟩
    refine ⟨.str "set", rfl, rfl, _, rfl, ite2 (fun _ => ?_) (fun e => absurd (decide_eq_true rfl) e)⟩
    refine ⟨Nat.zero_le _, fun a na => ?_⟩
    have s0 := same_upd (o := .lst []) na
    refine ⟨.ref tp, rfl, v, rfl, .ref q, rfl, tp, ts, v, .ref q, o, i, r, b, ct, .set t k col wo, rs, rfl, hT.same s0, dp_same s0 hd, hA, okd, dp_same s0 hu', rfl, fun hn => ?_, fun k2 hk d H' s n => ?_⟩
    · have hk : k ∈ rs.map keyW := by
        have h2 : (if k ∈ rs.map keyW then none else some k) = none := hn
        by_cases z : k ∈ rs.map keyW
        · exact z
        · rw [if_neg z] at h2; cases h2
      intro D us H1 s1 n0 e0 hg
      exact ⟨Nat.zero_le _, fun c nc => ⟨(by show 3 ≤ sizeLine; decide), fun p np => second _ a na (yes _ _ _ (show (if k ∈ rs.map keyW then _ else OwnR.norow t k) = _ by rw [if_pos hk]; rfl)) D us H1 s1 n0 e0 hg c nc p np⟩⟩
    · have hk2 : (if k ∈ rs.map keyW then none else some k) = some k2 := hk
      by_cases z : k ∈ rs.map keyW
      · rw [if_pos z] at hk2; cases hk2
      · rw [if_neg z] at hk2
        cases hk2
        exact noR t _ (show (if k ∈ rs.map keyW then _ else OwnR.norow t k) = _ by rw [if_neg z]) d H' (s0.trans s) n
end
end TT

set_option Elab.async false
set_option linter.all false
set_option maxRecDepth 100000
namespace TT
open PySem PySem.Spec PyProof.Rows L2 LamX
/-! ### sorted(xs, key=lambda x: x[0]) -/
section
variable {prog : Program} {w : World} {A : Around} {E : Value → Shared → Prop} {s : Shared}
/-- x[0], x a tuple -/
theorem ev_item0 {cenv : Env} {x : Str} {m : Str → Option Value} {t : Addr} {its : Array Value} {w0 : Value} {Q : Value → Shared → Prop} {p1 p2 p3 : Pos} {j : Nat} (hk : cenv.scope.kind = .function) (hl : cenv.scope.names.lookup x = some .local) (hn : s.heap.Ns cenv.locals m) (hm : m x = some (.ref t)) (hd : (x == ("__debug__" : Str)) = false)
    (pl : IsTup s.heap t its) (hz : its.size ≤ sizeLine) (h0 : its[0]? = some w0) (h : ∀ k, Q w0 { s with toks := k }) : wpAny (model prog w) A (eval (.Subscript (.Name x p1) (.Constant (.int 0) j p2) p3) cenv) Q E s := by
  refine Subscript_Constant (wpAny_Name (wpAny_loadName_local hk hl hn hm ?_) hd)
  refine wpAny_Constant_int ?_
  have hlt : 0 < its.size := (Array.getElem?_eq_some_iff.mp h0).1
  have h0' : its.toList[0]? = some w0 := by simpa using h0
  have he : atI its.toList 0 = some w0 := by
    unfold atI ixN
    rw [if_pos (by omega), if_pos (by simpa using hlt)]
    exact h0'
  obtain ⟨i, h1, h2, h3, h4, h5⟩ := atI_get he
  have e0 : its.toList.length = its.size := by simp
  rw [e0] at h1
  refine ⟨"tuple", _, slot_tuple_getitem.lookup, IsTup.typeIs (s := { s with toks := _ }) pl, getItem_tuple (s := { s with toks := _ }) pl (by decide) (by decide) h1 (by simpa using h2) (h _)⟩
/-- the key's turn -/
theorem key_turn {f c' t : Addr} {qual x : Str} {params : Arguments} {scope : Scope} {cl : List (Str × Addr)} {pm ctv : Value} {p1 p2 p3 : Pos} {j : Nat} {its : Array Value} {i : Int} {tk0 : Tok} (hroom : A.depth < recursionLimit)
    (of1 : s.heap.get? f = some (PySem.W.kla_obj "<lambda>" qual params (.Subscript (.Name x p1) (.Constant (.int 0) j p2) p3) scope cl pm c' ctv)) (co : scope.isCoroutine = false) (gen : scope.isGenerator = false) (kind : scope.kind = .function)
    (own : ∀ y ∈ scope.names, y.2 ≠ .cell) (loc : scope.names.lookup x = some .local) (hd : (x == ("__debug__" : Str)) = false) (rc : s.heap.CodeRec (.ref c') qual) (lim : s.heap.NoLimit)
    (hbind : ∀ v : Value, bindArgs (PySem.W.kla_fn "<lambda>" qual params (.Subscript (.Name x p1) (.Constant (.int 0) j p2) p3) scope cl pm (.ref c') ctv) ⟨[v], []⟩ = pure [(x, v)])
    (pl : IsTup s.heap t its) (hz : its.size ≤ sizeLine) (h0 : its[0]? = some (.int i tk0)) :
    wpAny (model prog w) A (call (.ref f) [.ref t]) (PySem.W.KeyPure (.int i) s) E s := by
  have rcd : codeAny (model prog w) A (.call (.ref f) ⟨[.ref t], []⟩) (fun r s' => ∃ v, r = .ok (.ret v) ∧ PySem.W.KeyPure (.int i) s v s') s := by
    refine PySem.W.kla_callFunE hroom of1 rfl co gen rfl rc ?_
    rw [hbind]
    refine wpAny_pure (wpAny_newFunctionEnv own (fun y hy => by rw [List.mem_singleton.mp hy]; exact loc) (fun h₁ hns hsb => ⟨lim.fresh _ hsb, ?_⟩) kind)
    have kp : ∀ d od, s.heap.get? d = some od → h₁.get? d = some od := fun d od ed => hsb.extBut d od (Nat.ne_of_lt (Heap.lt_size ed)) (Heap.get?_push_of_some _ ed)
    show codeAny _ _ (.expr (.Subscript (.Name x p1) (.Constant (.int 0) j p2) p3) (PySem.W.envX qual scope s.heap.objs.size f (.ref c') cl)) _ _
    refine PySem.W.kla_codeExpr (ev_item0 (t := t) (m := fun y => ([(x, Value.ref t)] : List (Str × Value)).reverse.lookup y) kind loc hns ?_ hd ?_ hz h0 fun k => ⟨_, rfl, h₁, k, rfl, kp, .int i tk0⟩)
    · show List.lookup x [(x, Value.ref t)] = _
      simp [List.lookup]
    · obtain ⟨o, e, r⟩ := pl
      exact ⟨o, kp _ _ e, r⟩
  refine wpAny_call (codeAny_mono rcd fun r s' hq => ?_)
  obtain ⟨v, rfl, hv⟩ := hq
  exact hv
end
theorem each_vals {β : Type} {R : Value → β → Prop} {f : β → V} (hR : ∀ v b, R v b → RelV (f b) v) {us : List Value} {bs : List β} (e : PySem.W.EachIs R us bs) : Vals (bs.map f) us := by
  induction e with
  | nil => exact .nil
  | cons h t ih => exact .cons (hR _ _ h) ih
theorem vals_each {β : Type} {R : Value → β → Prop} {f : β → V} : ∀ {bs : List β} {us : List Value}, Vals (bs.map f) us → (∀ b ∈ bs, ∀ u, RelV (f b) u → R u b) → PySem.W.EachIs R us bs
  | [], us, a, _ => by cases a; exact .nil
  | b :: bs, us, a, hh => by
    cases a with
    | cons h t => exact .cons (hh b (List.mem_cons_self ..) _ h) (vals_each t fun x hx => hh x (List.mem_cons_of_mem _ hx))
/-- a lambda is made: of what was tracked its table alone changes -/
theorem lam_own {X : Cx} {pins : List (Addr × Obj)} {σ : L2.St} {H : Hp} {s : Shared} {c P : Addr} {q : Str} {params : Arguments} {body : Expr} {scope : Scope} {pos : Pos} {E : Value → Shared → Prop} {Q : Value → Shared → Prop} (I : Inv X pins σ H s) (TB : TabB X.base X.mg c P) (hcode : X.env.code = .ref c)
    (hq : X.env.qual ++ "<lambda>" = q) (hT : TabS H P q) (hdef : defaultsOf params X.env = ([], [])) (frees : ∀ y ∈ scope.names, y.2 = .free → ∃ d, X.env.cells.lookup y.1 = some d)
    (fin : ∀ (f c' : Addr) (pm ctv : Value) (H1 : Hp) (s' : Shared), Inv X pins σ H1 s' → Kept [P] H H1 → TabS H1 P q → s'.heap.get? f = some (PySem.W.kla_obj "<lambda>" q params body scope (cloFrom X.env.cells scope.names []) pm c' ctv) → H1 c' = some (CodeO c' q) → Q (.ref f) s') : wpAny (model X.prog X.w) X.A (eval (.Lambda params body scope pos) X.env) Q E s := by
  obtain ⟨ps, eP, ok, all⟩ := hT
  refine PySem.W.kla_eval hdef ?_
  rw [hq]
  have blt : s.heap.BuiltinsAt X.mg P := TB.bm.keeps I.bk
  have aP : s.heap.get? P = some { cls := .none, data := .fields ps } := I.hok P _ eP
  cases e : codeAmong pos ps.toList with
  | some cv =>
    -- found in the table
    obtain ⟨c', rfl, hc'⟩ := all pos cv e
    refine PySem.W.kla_makeFunctionHit (mg := X.mg) (c := c) (P := P) (ps := ps) (closure_ok frees) I.ok.glob (I.mod.glob.keeps I.bk) hcode (TB.code.keeps I.bk) aP ok e blt fun ctv h' tk hx _ => ?_
    exact fin h'.objs.size c' _ ctv H _ (I.kept (t' := tk) fun b o z => Heap.get?_push_of_some _ (hx b o z)) (Kept.refl _ _) ⟨ps, eP, ok, all⟩ (Heap.get?_push_size _ rfl) hc'
  | none =>
    -- made, and told by the table from now on
    refine PySem.W.kla_makeFunction (mg := X.mg) (c := c) (P := P) (ps := ps) (closure_ok frees) I.ok.glob (I.mod.glob.keeps I.bk) hcode (TB.code.keeps I.bk) aP ok e TB.gP blt fun c' ctv h' tk hx hge _ hrec htb => ?_
    obtain ⟨_, oc, vs, t, ec, r1, r2, r3⟩ := hrec
    cases ec
    have fresh : H c' = none := I.hok.fresh hge
    have nP : P ≠ c' := ne_of_none eP fresh
    refine fin h'.objs.size c' _ ctv _ _ (inv_table (t' := tk) (more := #[rawInt pos.line, rawInt pos.col, .ref c']) I eP (fun b o hb z => Heap.get?_push_of_some _ (hx b o hb z)) (Heap.get?_push_of_some _ htb) hge ⟨oc, vs, t, Heap.get?_push_of_some _ r1, r2, r3⟩)
      ((Kept.upd_in (List.mem_cons_self ..)).trans (Kept.upd_new (by rw [upd_ne nP.symm]; exact fresh))) ⟨_, by rw [upd_ne nP, upd_same], ?_, fun p' cv z => ?_⟩ (Heap.get?_push_size _ rfl) upd_same
    · simpa using PySem.TriplesOk_snoc _ _ _ _ ok
    · have z' : codeAmong p' (ps.toList ++ [rawInt pos.line, rawInt pos.col, .ref c']) = some cv := by simpa using z
      rcases among_app _ ok z' with z1 | z1
      · obtain ⟨d, e1, e2⟩ := all p' cv z1
        have n1 : d ≠ P := fun w => codeO_ne ps (Option.some.inj (e2.symm.trans (by rw [w]; exact eP)))
        exact ⟨d, e1, by rw [upd_ne (ne_of_none e2 fresh), upd_ne n1]; exact e2⟩
      · exact ⟨c', z1, upd_same⟩
theorem sqT_tab {K : PySem.W.Frag} {H H' : Hp} {P : Addr} {ps : Array Value} (k : Kept [P] H H') (eP : H P = some (.tbl ps)) {a : Addr} {xs : List V} (h : SqT K H a xs) : SqT K H' a xs := by
  have n : ∀ o, H a = some o → (∀ qs, o ≠ .tbl qs) → a ∉ [P] := fun o e1 e2 z => by
    rw [List.mem_singleton.mp z, eP] at e1
    exact e2 ps (Option.some.inj e1).symm
  rcases h with (h | ⟨o, h⟩) | h
  · exact .inl (.inl (k.at h (n _ h fun qs z => by cases z)))
  · exact .inl (.inr ⟨o, k.at h (n _ h fun qs z => by cases z)⟩)
  · exact .inr h
/-- another table stays -/
theorem TabS.other {H H' : Hp} {P P' : Addr} {q : Str} (t : TabS H P' q) (k : Kept [P] H H') (n : P' ≠ P) (hP : ∃ ps, H P = some (.tbl ps)) : TabS H' P' q := by
  obtain ⟨ps, e1, e2, e3⟩ := t
  obtain ⟨qs, eP⟩ := hP
  refine ⟨ps, k.at e1 (by simpa using n), e2, fun pos cv h => ?_⟩
  obtain ⟨d, z1, z2⟩ := e3 pos cv h
  have n1 : d ≠ P := fun w => codeO_ne qs (Option.some.inj (z2.symm.trans (by rw [w]; exact eP)))
  exact ⟨d, z1, k.at z2 (by simpa using n1)⟩
def tSortLam (K : PySem.W.Frag) (P : Addr) (q : Str) (ta : TA) : TE := fun σ H Q => ta σ H fun vs H1 => TabS H1 P q ∧ ∃ (a : Addr) (β : Type) (bs : List β) (f : β → V) (k : β → Int), vs = [.ref a] ∧ SqL K H1 a (bs.map f) ∧ a ≠ P ∧ (∀ x ∈ bs, ∃ p ys, f x = .ref p ∧ SqT K H1 p ys ∧ ys[0]? = some (.int (k x))) ∧
  ∀ (S : Addr) (H2 : Hp), Kept [P] H1 H2 → TabS H2 P q → H2 S = none → Q (.ref S) (upd H2 S (.lst ((bs.mergeSort fun a b => decide (k a ≤ k b)).map f)))
section
variable {X : Cx}
theorem pe_sortLam {c P : Addr} {q : Str} {e : Expr} {ta : TA} {x : Str} {params : Arguments} {scope : Scope} {p p1 p2 p3 lp kp pos : Pos} {j n : Nat} (hm : X.mg "sorted" = none) (ha : PA X [e] ta) (hr : Room n X.A)
    (TB : TabB X.base X.mg c P) (hcode : X.env.code = .ref c) (hq : X.env.qual ++ "<lambda>" = q) (hdef : defaultsOf params X.env = ([], []))
    (co : scope.isCoroutine = false) (gen : scope.isGenerator = false) (kind : scope.kind = .function) (nm : scope.names = [(x, .local)]) (hd : (x == ("__debug__" : Str)) = false)
    (hbind : ∀ (q : Str) (cl : List (Str × Addr)) (pm cv ctv v : Value), bindArgs (PySem.W.kla_fn "<lambda>" q params (.Subscript (.Name x p1) (.Constant (.int 0) j p2) p3) scope cl pm cv ctv) ⟨[v], []⟩ = pure [(x, v)])
    (hg : Gl X "sorted" := by rfl)
    (he : backTo pos (starEach [e] X.env) = (false, eval e X.env) :: backTo pos (starEach [] X.env) := by rfl) (hpl : (backTo pos (starEach [e] X.env)).any (·.1) = false := by rfl) :
    PE X (.Call (.Name "sorted" p) [e] [⟨some "key", .Lambda params (.Subscript (.Name x p1) (.Constant (.int 0) j p2) p3) scope lp, kp⟩] pos) (tSortLam X.K P q ta) := by
  refine ⟨fun pins s σ H Q I h => ?_⟩
  refine wpAny_Call_Name_kw (ld_blt I hg hm (show bootBuiltins ("sorted" : Str) = some (.builtin "sorted") by decide +kernel) ?_)
  refine PyProof.Rows.callWith_kw (thn (ha.run pos pins s σ H _ I h) fun us s1 ⟨vs, H1, I1, r1, q1⟩ => ?_) he hpl
  obtain ⟨hT, a, β, bs, fv, k, rfl, hs, naP, hx, qq⟩ := q1
  obtain rfl := Vals.ref1 r1
  show wpAny _ _ (evalAll [do let v ← eval (.Lambda params (.Subscript (.Name x p1) (.Constant (.int 0) j p2) p3) scope lp) X.env; standAt pos; pure v]) _ _ s1
  have hfree : ∀ y ∈ scope.names, y.2 = .free → ∃ d, X.env.cells.lookup y.1 = some d := fun y hy e => by
    rw [nm] at hy
    rw [List.mem_singleton.mp hy] at e
    cases e
  refine wpAny_evalAll_cons (wpAny_bind (lam_own I1 TB hcode hq hT hdef hfree fun f c' pm ctv H2 s2 I2 eN T2 hf hco => wpAny_bind (wpAny_standAt (wpAny_pure (wpAny_evalAll_nil ?_)))))
  obtain ⟨tps, eP, _, _⟩ := id hT
  have hs2 : SqL X.K H2 a (bs.map fv) := Kept.seqL eN (by simpa using naP) hs
  obtain ⟨its, rv, hl, hz⟩ := I2.list hs2
  have each : PySem.W.EachIs (fun (v : Value) (y : β) => RelV (fv y) v ∧ ∃ (t : Addr) (it : Array Value) (tk0 : Tok), v = .ref t ∧ IsTup s2.heap t it ∧ it.size ≤ sizeLine ∧ it[0]? = some (.int (k y) tk0)) its bs := vals_each rv fun y hy u ru => by
    obtain ⟨t, ys, ey, hq, h0⟩ := hx y hy
    have ru' := ru
    rw [ey] at ru
    obtain rfl : u = Value.ref t := ru
    obtain ⟨it, r', pl, hz'⟩ := I2.tuple (sqT_tab eN eP hq)
    obtain ⟨w0, hw, rw0⟩ := r'.get h0
    obtain ⟨tk0, rfl⟩ := rw0
    exact ⟨ru', t, it.toArray, tk0, rfl, pl, by rw [List.size_toArray, ← r'.length]; exact hz', by simpa using hw⟩
  obtain ⟨⟨oc, cvs, ct, hoc, hdc, hvc⟩, _, _⟩ := I2.hok c' _ hco
  have hroom : X.A.in1.in1.depth < recursionLimit := by have := hr.depth; simpa using this
  show wpAny _ _ (call (.builtin "sorted") [.ref a] [(Str.ofString "key", .ref f)]) _ _ s2
  refine PySem.W.sorted_key_data (b := false) (fun y : β => .int (k y)) hl.isList each (PySem.W.AllAlike.of fun _ _ => rfl) (PySem.W.Sortable.others fun _ => ⟨(fun z => by cases z), (fun _ z => by cases z)⟩) (by rw [List.length_map] at hz; exact hz) (fun y _ => ?_) (PyProof.Rows.ksk_s1 _ _) (fun _ => PyProof.Rows.ksk_l1 _ _) (fun _ => PyProof.Rows.ksk_t1 _ _)
    (fun v y hR hy h tk kp => ?_) fun out c2 h' tk kp fr hD hlen eo => ?_
  · have h1 := hr.un
    show X.A.units + 2 + 0 < cLine
    omega
  · obtain ⟨_, t, it, tk0, rfl, pl, hz', h0⟩ := hR
    refine key_turn (s := { s2 with heap := h, toks := tk }) hroom (kp _ _ hf) co gen kind (fun y hy => by rw [nm] at hy; rw [List.mem_singleton.mp hy]; exact fun z => by cases z) (by rw [nm]; simp [List.lookup]) hd ⟨c', oc, cvs, ct, rfl, kp _ _ hoc, hdc, hvc⟩ (I2.nolimit.keeps kp) (hbind _ _ _ _ _) ?_ hz' h0
    obtain ⟨o, e1, r⟩ := pl
    exact ⟨o, kp _ _ e1, r⟩
  · rw [PySem.W.dataLe_int] at eo
    have hv := each_vals (f := fv) (fun _ _ z => z.1) eo
    have hl2 : ((bs.mergeSort fun a b => decide (k a ≤ k b)).map fv).length ≤ sizeLine := by rw [List.length_map, List.length_mergeSort]; rw [List.length_map] at hz; exact hz
    exact ⟨.ref _, upd H2 (s2.heap.objs.size + 1) (.lst ((bs.mergeSort fun a b => decide (k a ≤ k b)).map fv)), I2.laid (t' := tk) kp (Nat.le_succ _) ⟨hl2, out, c2, hv, hD⟩, rfl, qq _ H2 eN T2 (I2.hok.fresh (Nat.le_succ _))⟩
end
end TT

set_option Elab.async false
set_option linter.all false
set_option maxRecDepth 100000
namespace TT
open PySem PySem.Spec PyProof.Rows L2
/-! ### d.setdefault(k, x), k a tuple of numbers and texts -/
section
variable {X : Cx} {pins : List (Addr × Obj)} {σ : L2.St} {H : Hp} {s : Shared} {a b : Addr} {d : V} {r : Value} {A : Around} {E : Value → Shared → Prop}
theorem tup_setd {kvs : List (List Key × V)} {k : List Key} {Q : Value → Shared → Prop} (hu : A.units + 1 < cLine) (I : Inv X pins σ H s) (ea : H a = some (.dT kvs)) (eb : H b = some (.tup (k.map kV))) (rd : RelV d r) (few : kvs.length < sizeLine)
    (there : ∀ v, valV kvs k = some v → ∀ (u : Value) (s' : Shared), Inv X pins σ H s' → RelV v u → Q u s') (lacks : valV kvs k = none → ∀ (u : Value) (s' : Shared), Inv X pins σ (upd H a (.dT (putK kvs k d))) s' → RelV d u → Q u s') :
    wpAny (model X.prog X.w) A (call (.builtin "dict.setdefault") [.ref a, .ref b, r]) Q E s := by
  obtain ⟨z, hsys, xs, rel, dd⟩ := dt_of I.hok ea
  have lx : xs.length ≤ sizeLine := Nat.le_trans (Nat.le_of_eq (Paired.length rel).symm) z
  have lput : (putK kvs k d).length ≤ sizeLine := Nat.le_trans (length_putK kvs k d) few
  have rk := rel.val k
  refine call_setdefault_heap (hsz := lx) (tupleKind_room_in1 hu) (key_of I.hok eb) hsys dd (fun p hp => ?_) (fun hn h' dd' hs => ?_)
  · rw [hp] at rk
    cases ev : valV kvs k with
    | none => rw [ev] at rk; exact (show False from rk).elim
    | some v =>
      rw [ev] at rk
      exact there v ev _ _ (I.tok _) rk
  · rw [hn] at rk
    have ev : valV kvs k = none := by
      cases ev : valV kvs k with
      | none => rfl
      | some v => rw [ev] at rk; exact (show False from rk).elim
    obtain ⟨ob, es, ep, hob, c1, c2, c3, _, c5⟩ := dd'
    refine lacks ev _ _ (d_write I (by rw [ea]; exact True.intro) hs ⟨ob, hob⟩ ⟨lput, hsys, _, (rel.put k eb rd).keeps fun c ys ec => ?_, ob, es, ep, hob, c1, c2, c3, c5⟩) rd
    have nca : c ≠ a := fun q => by rw [q, ea] at ec; cases ec
    rw [upd_ne nca]
    exact ec
end
def tSetdT (td ty tx : TE) : TE := fun σ H Q => td σ H fun x H1 => ∃ a, x = .ref a ∧ IsD H1 a ∧ ty σ H1 fun y H2 => tx σ H2 fun z H3 => ∃ (b : Addr) (kvs : List (List Key × V)) (k : List Key), H3 a = some (.dT kvs) ∧ y = .ref b ∧ H3 b = some (.tup (k.map kV)) ∧ kvs.length < sizeLine ∧
  (∀ v, valV kvs k = some v → Q v H3) ∧ (valV kvs k = none → Q z (upd H3 a (.dT (putK kvs k z))))
section
variable {X : Cx} {o e f : Expr} {td ty tx : TE} {p q : Pos}
theorem pe_setdT (hu : X.A.units + 65 < cLine) (ho : PE X o td) (he : PE X e ty) (hf : PE X f tx) (m : M2 X o "setdefault" p e f q) : PE X (.Call (.Attribute o "setdefault" p) [e, f] [] q) (tSetdT td ty tx) := by
  refine ⟨fun pins s σ H Q I h => ?_⟩
  refine wpAny_Call_method m.base m.few m.line PySem.F.plainAttrs_dict PySem.F.slot_dict_setdefault PySem.F.type_dict_setdefault (thn (ho.run pins s σ H _ I h) fun u sa hA => ?_)
  obtain ⟨x, HA, IA, rx, a, rfl, isd, hA⟩ := hA
  obtain rfl : u = Value.ref a := rx
  have at1 := isD_at IA isd
  refine ⟨at1.1, at1.2.1, ?_⟩
  rw [m.trees]
  refine Calls.callWith_builtin rfl (Calls.evalArgs_plain (Calls.spliced_cons (thn (he.run pins sa σ HA _ IA hA) fun iv sb hB => ?_)))
  obtain ⟨y, HB, IB, ry, hB⟩ := hB
  refine Calls.spliced_cons (thn (hf.run pins sb σ HB _ IB hB) fun fv sc hC => Calls.spliced_nil ?_)
  obtain ⟨z, HC, IC, rz, b, kvs, k, ea, rfl, eb, few, q1, q2⟩ := hC
  obtain rfl : iv = Value.ref b := ry
  exact tup_setd (by omega) IC ea eb rz few (fun v hv u sd ID ru => ⟨v, HC, ID, ru, q1 v hv⟩) fun hn u sd ID ru => ⟨z, _, ID, ru, q2 hn⟩
end
end TT

set_option Elab.async false
set_option linter.all false
set_option maxRecDepth 100000
namespace TT
open PySem PySem.Spec PyProof.Rows L2
/-! ### {(a, b): v for .. in ..}: keys that are tuples of numbers and texts -/
theorem tup_store {X : Cx} {pins : List (Addr × Obj)} {σ : L2.St} {H : Hp} {s : Shared} {E : Value → Shared → Prop} {D b : Addr} {kvs : List (List Key × V)} {k : List Key} {v : V} {r : Value} {Q : Unit → Shared → Prop} (hu : X.A.units < cLine) (I : Inv X pins σ H s)
    (eD : H D = some (.dT kvs)) (eb : H b = some (.tup (k.map kV))) (few : kvs.length < sizeLine) (rv : RelV v r) (q : ∀ s', Inv X pins σ (upd H D (.dT (putK kvs k v))) s' → Q () s') : wpAny (model X.prog X.w) X.A (dictSet D (.ref b) r) Q E s := by
  obtain ⟨z, hsys, xs, rel, dd⟩ := dt_of I.hok eD
  have lx : xs.length ≤ sizeLine := Nat.le_trans (Nat.le_of_eq (Paired.length rel).symm) z
  have lput : (putK kvs k v).length ≤ sizeLine := Nat.le_trans (length_putK kvs k v) few
  refine wpAny_dictSet_heap (hsz := lx) hu (key_of I.hok eb) dd fun h' dd' hs => q _ ?_
  obtain ⟨ob, es, ep, hob, c1, c2, c3, _, c5⟩ := dd'
  refine d_write I (by rw [eD]; exact True.intro) hs ⟨ob, hob⟩ ⟨lput, hsys, _, (rel.put k eb rv).keeps fun c ys ec => ?_, ob, es, ep, hob, c1, c2, c3, c5⟩
  have nc : c ≠ D := fun w => by rw [w, eD] at ec; cases ec
  rw [upd_ne nc]
  exact ec
/-- what one turn puts -/
def putT (D : Addr) (y z : V) (H : Hp) (N : Hp → Prop) : Prop := ∃ (b : Addr) (kvs : List (List Key × V)) (k : List Key), y = .ref b ∧ H b = some (.tup (k.map kV)) ∧ H D = some (.dT kvs) ∧ kvs.length < sizeLine ∧ N (upd H D (.dT (putK kvs k z)))
def tDcT (wi : TI) (g : TG) (tt : TT) (tk tv : TE) (vs : List Nat) : TE := fun σ H Q => wi σ H fun J H1 => ∀ D, H1 D = none → ∃ W : Nat → Nat → Hp → Prop, (∃ m, W 0 m (upd H1 D (.dT []))) ∧ ∀ i m H2, W i m H2 →
  (J.stop i H2 ∧ Q (.ref D) H2) ∨ (J.go i H2 ∧ ∃ N : Hp → Prop, (∀ H3, N H3 → ∃ l, l < m ∧ W (i + 1) l H3) ∧ ∀ x H3, J.yld i H2 x H3 → g x (wipe σ vs) H3 fun σ4 H4 => wipe σ4 vs = wipe σ vs ∧ tt σ4 H4 fun t H5 => if t = true then tk σ4 H5 fun y H6 => tv σ4 H6 fun z H7 => putT D y z H7 N else N H5)
section
variable {X : Cx}
theorem dcT_core {pins : List (Addr × Obj)} {s : Shared} {σ : L2.St} {H : Hp} {Q : VK} {kx vx tg iter : Expr} {ifs : List Expr} {scope : Scope} {own : List (Str × Nat)} {pos pos' : Pos} {wi : TI} {g : TG} {tt : TT} {tk tv : TE} {use : Option (Value → Sem Unit)} {Qf : Value → Shared → Prop} (hc : X.calm = true) (hN : X.N.Nodup) (hu : X.A.units + 65 < cLine) (I : Inv X pins σ H s) (hi : PI X tg iter wi) (ok : BlkOk X.N X.env.scope scope own)
    (pg : ∀ (s : Shared) (H : Hp) (C : Addr) (cl : List (Str × Addr)) (fp : List Addr), PG (X.blk s H scope (compEnvC scope cl C X.env) fp) tg g) (pt : ∀ (s : Shared) (H : Hp) (C : Addr) (cl : List (Str × Addr)) (fp : List Addr), PTs (X.blk s H scope (compEnvC scope cl C X.env) fp) ifs tt)
    (pk : ∀ (s : Shared) (H : Hp) (C : Addr) (cl : List (Str × Addr)) (fp : List Addr), PE (X.blk s H scope (compEnvC scope cl C X.env) fp) kx tk) (pv : ∀ (s : Shared) (H : Hp) (C : Addr) (cl : List (Str × Addr)) (fp : List Addr), PE (X.blk s H scope (compEnvC scope cl C X.env) fp) vx tv)
    (same : ∀ x, foldedSetIterable iter X.env x = pure x) (h : tDcT wi g tt tk tv (own.map (·.2)) σ H Q) (tell : ∀ D C s' m H', Inv X pins σ H' s' → Q (.ref D) H' → s'.heap.Ns C m → FpOk X pins H' C → compPost (model X.prog X.w) X.A X.xe use Qf (.ref D) C (.ok .next) s') : wpAny (model X.prog X.w) X.A (comprehension (.DictComp kx vx [⟨tg, iter, ifs, 0⟩] scope pos) scope X.env pos' newDict false (eval iter X.env) use) Qf X.xe s := by
  have frees : ∀ y ∈ scope.names, y.2 = .free → ∃ c, X.env.cells.lookup y.1 = some c := fun y hy e => (ok.free y hy e).elim (fun z => I.ok.has _ (.inl z)) (fun z => I.ok.has _ (.inr z))
  refine wpAny_comprehension_free (use := use) rfl same (closure_ok frees) ok.kind (fun y hy e => by rw [ok.uniq y hy, e]) (thn (hi.run pins s σ H _ I h) fun xv sa ha => thn ha fun itv sb hb => ?_)
  obtain ⟨it, fp, tn, J, HB, rfl, IB, T, t0, f0, w⟩ := hb
  refine wpAny_newObj_type (newEnv_comp ?_)
  have fresh : HB sb.heap.objs.size = none := IB.hok.fresh (Nat.le_refl _)
  obtain ⟨W, ⟨m0, w0⟩, turn⟩ := w _ fresh
  -- the new dict
  have IC : Inv X pins σ (upd HB sb.heap.objs.size (.dT [])) { sb with heap := sb.heap.push { cls := .type "dict", data := .dict #[] } } := IB.laid (t' := sb.toks) (fun _ _ e => Heap.get?_push_of_some _ e) (Nat.le_refl _) (dt_empty sb.heap IB.big)
  have lo : ∀ c ∈ fp, c < sb.heap.objs.size := fun c hc => let ⟨_, e, _⟩ := T.obj _ _ t0 c hc; Heap.lt_size e
  generalize eD : sb.heap.objs.size = D at fresh w0 turn IC lo
  have f1 : ∀ c ∈ fp, FpOk X pins (upd HB D (.dT [])) c ∧ c < (sb.heap.push { cls := .type "dict", data := .dict #[] }).objs.size := fun c hc => by
    have ne : c ≠ D := Nat.ne_of_lt (lo c hc)
    exact ⟨⟨by rw [upd_ne ne]; exact (f0 c hc).1, (f0 c hc).2⟩, by rw [Heap.size_push, eD]; exact Nat.lt_succ_of_lt (lo c hc)⟩
  have t1 : tn 0 (sb.heap.push { cls := .type "dict", data := .dict #[] }) := T.keep _ _ _ t0 fun _ _ _ e => Heap.get?_push_of_some _ e
  show codeAny _ _ (.compStart (.DictComp kx vx [⟨tg, iter, ifs, 0⟩] scope pos) 0 (.ref it) (.ref D) (compEnvC scope (cellsFrom ((sb.heap.push { cls := .type "dict", data := .dict #[] }).objs.size + 1) scope.names (cloFrom X.env.cells scope.names [])) (sb.heap.push { cls := .type "dict", data := .dict #[] }).objs.size X.env)) _ { sb with heap := pushCells ((sb.heap.push { cls := .type "dict", data := .dict #[] }).push { cls := .type "dict", data := .dict #[] }) scope.names }
  generalize sb.heap.push { cls := .type "dict", data := .dict #[] } = hp at IC f1 t1 ⊢
  have ID : Inv (X.blk { sb with heap := hp } (upd HB D (.dT [])) scope (compEnvC scope (cellsFrom (hp.objs.size + 1) scope.names (cloFrom X.env.cells scope.names [])) hp.objs.size X.env) fp) [] (wipe σ (own.map (·.2))) (upd HB D (.dT [])) { sb with heap := pushCells (hp.push { cls := .type "dict", data := .dict #[] }) scope.names } := block_start IC ok hN f1
  have pg := pg { sb with heap := hp } (upd HB D (.dT [])) hp.objs.size (cellsFrom (hp.objs.size + 1) scope.names (cloFrom X.env.cells scope.names [])) fp
  have pt := pt { sb with heap := hp } (upd HB D (.dT [])) hp.objs.size (cellsFrom (hp.objs.size + 1) scope.names (cloFrom X.env.cells scope.names [])) fp
  have pk := pk { sb with heap := hp } (upd HB D (.dT [])) hp.objs.size (cellsFrom (hp.objs.size + 1) scope.names (cloFrom X.env.cells scope.names [])) fp
  have pv := pv { sb with heap := hp } (upd HB D (.dT [])) hp.objs.size (cellsFrom (hp.objs.size + 1) scope.names (cloFrom X.env.cells scope.names [])) fp
  have n1 : ∀ c ∈ fp, (upd HB D (.dT [])) c = none := fun c hc => (f1 c hc).1.1
  generalize eE : compEnvC scope (cellsFrom (hp.objs.size + 1) scope.names (cloFrom X.env.cells scope.names [])) hp.objs.size X.env = ce at ID pg pt pk pv ⊢
  have eL : ce.locals = hp.objs.size := by rw [← eE]; rfl
  have t2 : tn 0 (pushCells (hp.push { cls := .type "dict", data := .dict #[] }) scope.names) := T.keep _ _ _ t1 fun _ _ _ e => pushCells_keeps _ _ _ _ (Heap.get?_push_of_some _ e)
  generalize upd HB D (.dT []) = HC at IC ID pg pt pk pv w0 n1 f1
  -- in the block
  have still : ∀ {σ' : L2.St} {H' : Hp} {s' : Shared}, Inv (X.blk { sb with heap := hp } HC scope ce fp) [] σ' H' s' → (∀ c ∈ fp, H' c = none) → ∀ c ∈ fp, FpOk (X.blk { sb with heap := hp } HC scope ce fp) [] H' c := fun {σ' H' s'} I' hn c hc =>
    ⟨hn c hc, (I'.ok.exf c hc).1, I'.ok.exfs c hc, .inl hc, (fun x d e => (I'.ok.exf c hc).2 x d e), (fun p hp => absurd (show p ∈ ([] : List (Addr × Obj)) ++ [] from hp) (by simp))⟩
  refine codeAny_compStart_dict ?loop (T.self X.A 0 _ _ _ t2 ?loop)
  refine compLoop_anyD (fun n s' => ∃ i H', Inv (X.blk { sb with heap := hp } HC scope ce fp) [] (wipe σ (own.map (·.2))) H' s' ∧ tn i s'.heap ∧ (∀ c ∈ fp, H' c = none) ∧ W i n H') ?_ m0 ⟨0, HC, ID, t2, n1, w0⟩
  rintro n se ⟨i, HE, IE, te, ne, we⟩
  rcases turn i n HE we with ⟨stop, qd⟩ | ⟨go, N, hN2, step⟩
  · refine thnF (T.done (X.blk { sb with heap := hp } HC scope ce fp) rfl rfl rfl hc i [] se _ HE (fun _ _ => False) IE (still IE ne) te stop) fun r sf hr => ?_
    obtain ⟨rfl, IF⟩ := hr
    have IG : Inv X pins σ HE sf := IC.call' (ch := fp) IF.os IF.base IF.hok IF.bare fun c hc => ⟨(f1 c hc).1.2.2.2.1, (f1 c hc).1.2.1, (f1 c hc).1.2.2.2.2.1, (f1 c hc).1.2.2.2.2.2⟩
    have free : HE hp.objs.size = none := by
      rw [← eL]
      exact IF.free
    obtain ⟨mm, hn, _⟩ := IF.loc
    have hn : sf.heap.Ns ce.locals mm := hn
    rw [eL] at hn
    exact tell D hp.objs.size sf mm HE IG qd hn (IC.fpOk (Nat.le_refl _) free)
  · refine thnF (T.item (X.blk { sb with heap := hp } HC scope ce fp) rfl rfl rfl hc i [] se _ HE (fun _ _ => False) IE (still IE ne) te go) fun r sf hr => ?_
    obtain ⟨u, rfl, hf⟩ := hr
    refine thnF hf fun _ sg hg => ?_
    obtain ⟨x, HG, IG, rx, yl, tg', ng⟩ := hg
    have tr := T.obj _ _ tg'
    refine thnF (pg.run _ sg _ HG x u _ (IG.pinned (still IG ng) tr) rx (step x HG yl)) fun _ sh hh => ?_
    obtain ⟨σ4, H4, I4, wp, hh⟩ := hh
    refine thnF (pt.run _ sh σ4 H4 _ I4 hh) fun t si hh2 => ?_
    obtain ⟨H5, I5, hh2⟩ := hh2
    have fin : ∀ {s' : Shared} {H' : Hp}, Inv (X.blk { sb with heap := hp } HC scope ce fp) ([] ++ pinsAt fp sg.heap) σ4 H' s' → N H' →
        ∃ m, m < n ∧ ∃ i H', Inv (X.blk { sb with heap := hp } HC scope ce fp) [] (wipe σ (own.map (·.2))) H' s' ∧ tn i s'.heap ∧ (∀ c ∈ fp, H' c = none) ∧ W i m H' := fun {s' H'} I' nx => by
      obtain ⟨l, hl, wl⟩ := hN2 H' nx
      have stay : ∀ c ∈ fp, ∀ o, sg.heap.get? c = some o → s'.heap.get? c = some o ∧ H' c = none := fun c hc o e => by
        have z := I'.pin (c, o) (List.mem_append_right _ (List.mem_append_right _ (mem_pinsAt hc e)))
        exact ⟨z.1, z.2.1⟩
      refine ⟨l, hl, i + 1, H', (I'.unpinned (pins := [])).weak (by rw [← wp, wipe_length]) (fun jj v e => (wipe_some (by rw [wp]; exact e)).1), T.keep _ _ _ tg' (fun c hc o e => (stay c hc o e).1), (fun c hc => ?_), wl⟩
      obtain ⟨o, e, _⟩ := tr c hc
      exact (stay c hc o e).2
    cases t with
    | false => exact fin I5 (by simpa using hh2)
    | true =>
      have hh2 := (show (if true = true then _ else _) from hh2)
      rw [if_pos rfl] at hh2
      show wpAny _ _ (eval kx ce) _ _ _
      refine thnF (pk.run _ si σ4 H5 _ I5 hh2) fun kvv sj hh3 => ?_
      obtain ⟨y, H6, I6, ry, hh3⟩ := hh3
      refine thnF (pv.run _ sj σ4 H6 _ I6 hh3) fun vvv sk hh4 => ?_
      obtain ⟨z, H7, I7, rz, b, kvs, k, rfl, eb, eD7, few, nx⟩ := hh4
      obtain rfl : kvv = Value.ref b := ry
      exact tup_store (X := X.blk { sb with heap := hp } HC scope ce fp) (show X.A.units < cLine by omega) I7 eD7 eb few rz fun sl IL => fin IL nx
theorem pe_dcT {kx vx tg iter : Expr} {ifs : List Expr} {scope : Scope} {own : List (Str × Nat)} {pos : Pos} {wi : TI} {g : TG} {tt : TT} {tk tv : TE} (hc : X.calm = true) (hN : X.N.Nodup) (hu : X.A.units + 65 < cLine) (hi : PI X tg iter wi) (ok : BlkOk X.N X.env.scope scope own)
    (pg : ∀ (s : Shared) (H : Hp) (C : Addr) (cl : List (Str × Addr)) (fp : List Addr), PG (X.blk s H scope (compEnvC scope cl C X.env) fp) tg g) (pt : ∀ (s : Shared) (H : Hp) (C : Addr) (cl : List (Str × Addr)) (fp : List Addr), PTs (X.blk s H scope (compEnvC scope cl C X.env) fp) ifs tt)
    (pk : ∀ (s : Shared) (H : Hp) (C : Addr) (cl : List (Str × Addr)) (fp : List Addr), PE (X.blk s H scope (compEnvC scope cl C X.env) fp) kx tk) (pv : ∀ (s : Shared) (H : Hp) (C : Addr) (cl : List (Str × Addr)) (fp : List Addr), PE (X.blk s H scope (compEnvC scope cl C X.env) fp) vx tv)
    (same : ∀ x, foldedSetIterable iter X.env x = pure x := by intro _; rfl) : PE X (.DictComp kx vx [⟨tg, iter, ifs, 0⟩] scope pos) (tDcT wi g tt tk tv (own.map (·.2))) := by
  refine ⟨fun pins s σ H Q I h => ?_⟩
  rw [arm_eval_DictComp]
  refine dcT_core hc hN hu I hi ok pg pt pk pv same h fun D C s' m H' I' q hn f => ⟨m, hn, fun h'' so => ?_⟩
  obtain ⟨z0, z1, z2, z3, z4, z5⟩ := f
  exact ⟨.ref D, H', I'.turned (t' := s'.toks) (fun c o hcn e => (so.2 c hcn).trans e) z0 z1 z3 z4 z5, rfl, q⟩
/-- y = {..}, y a name of the def that no block takes up -/
theorem ps_setDcT {i : Nat} {y : Str} {py spos : Pos} {kx vx tg iter : Expr} {ifs : List Expr} {scope : Scope} {own : List (Str × Nat)} {pos : Pos} {wi : TI} {g : TG} {tt : TT} {tk tv : TE} (hc : X.calm = true) (hN : X.N.Nodup) (hu : X.A.units + 65 < cLine) (hy : X.N[i]? = some y) (loc : X.env.scope.names.lookup y = some .local)
    (sw : swapsWith (.DictComp kx vx [⟨tg, iter, ifs, 0⟩] scope pos) (some (.Name y py)) spos.line X.env = pure true) (hi : PI X tg iter wi) (ok : BlkOk X.N X.env.scope scope own)
    (pg : ∀ (s : Shared) (H : Hp) (C : Addr) (cl : List (Str × Addr)) (fp : List Addr), PG (X.blk s H scope (compEnvC scope cl C X.env) fp) tg g) (pt : ∀ (s : Shared) (H : Hp) (C : Addr) (cl : List (Str × Addr)) (fp : List Addr), PTs (X.blk s H scope (compEnvC scope cl C X.env) fp) ifs tt)
    (pk : ∀ (s : Shared) (H : Hp) (C : Addr) (cl : List (Str × Addr)) (fp : List Addr), PE (X.blk s H scope (compEnvC scope cl C X.env) fp) kx tk) (pv : ∀ (s : Shared) (H : Hp) (C : Addr) (cl : List (Str × Addr)) (fp : List Addr), PE (X.blk s H scope (compEnvC scope cl C X.env) fp) vx tv)
    (same : ∀ x, foldedSetIterable iter X.env x = pure x := by intro _; rfl) : PS X (.Assign [.Name y py] (.DictComp kx vx [⟨tg, iter, ifs, 0⟩] scope pos) spos) (tAsg (tDcT wi g tt tk tv (own.map (·.2))) (gName i)) := by
  refine ⟨fun pins s σ H D0 I h => ?_⟩
  rw [exec_Assign_Name_used _ _ _ _ sw]
  refine wpAny_bind (wpAny_standAt (wpAny_bind ?_))
  have h : tDcT wi g tt tk tv (own.map (·.2)) σ H (fun x H1 => gName i x σ H1 D0.nx) := h
  show wpAny _ X.A (do let _ ← comprehension (.DictComp kx vx [⟨tg, iter, ifs, 0⟩] scope pos) scope X.env (firstIterPos [⟨tg, iter, ifs, 0⟩] pos) newDict false (eval iter X.env) (some (assign (.Name y py) X.env))) _ _ s
  refine wpAny_bind (thn (dcT_core (Qf := fun _ s' => SP X pins D0 .next s') hc hN hu I hi ok pg pt pk pv same h fun D C s' m H' I' q hn f => ?_) fun _ _ w => wpAny_pure (wpAny_pure w))
  show wpAny _ _ (assign (.Name y py) X.env (.ref D)) _ _ _
  obtain ⟨z0, z1, z2, z3, z4, z5⟩ := f
  refine wpAny_assign_Name (store_ok2 (v := V.ref D) I' hN hy (.inl loc) rfl (fun s2 I2 ⟨a, so, ha⟩ => ?_) (.inr loc))
  have nC : C ≠ a := by
    rcases ha with w | w
    · rw [w]; exact z1
    · exact fun e => z4 y a w e.symm
  exact ⟨m, hn.sameBut so nC, fun _ so2 => ⟨_, H', I2.turned (t' := s2.toks) (fun c o hcn e => (so2.2 c hcn).trans e) z0 z1 z3 z4 z5, q⟩⟩
theorem sw_dict {kx vx : Expr} {gs : List Comprehension} {scope : Scope} {pos py : Pos} {y : Str} {l : Nat} {env : Env} (hk : env.scope.kind = .function) (hy : env.scope.names.lookup y = some .local) (hl : (py.line == pos.line) = true)
    (no : (scope.names.any fun (n, k) => n == y && (k == .local || k == .cell)) = false) : swapsWith (.DictComp kx vx gs scope pos) (some (.Name y py)) l env = pure true := by
  have k1 : env.kindOf y = some .local := hy
  have k2 : env.blockKind = .function := by unfold Env.blockKind; rw [hk]; rfl
  unfold swapsWith
  simp only [k2, k1, no, Expr.pos, hl]
  rfl
end
end TT

set_option Elab.async false
set_option linter.all false
set_option maxRecDepth 100000
namespace TT
open PySem PySem.Spec PyProof.Rows L2 LamX
theorem stillL {K : PySem.W.Frag} {H H' : Hp} {a : Addr} {xs : List V} (e : Same H H') (h : SqL K H a xs) : SqL K H' a xs := (Kept.seqL (M := []) (fun p o h1 _ => e p o h1) List.not_mem_nil h)
theorem keptS {H H' : Hp} {D : Addr} (k : Kept [D] H H') (n : H D = none) : Same H H' := fun b o e => k b o e fun z => by rw [List.mem_singleton.mp z, n] at e; cases e
/-- a def whose code object is known: it makes lambdas -/
structure FunC (K : PySem.W.Frag) (x qual : Str) (st : Stmt) (c f : Addr) (fd : FuncData) : Prop where
  ex : ∃ (oc : Value) (od : Option Addr) (kV dc pm : Value) (an : Option Addr) (ct : Value) (sl : Array (Option Value)), fd = PySem.W.fnOf x qual (defArgs st) (defBody st) (defScope st) .none kV dc pm an (.ref c) ct ∧ K.lookup f = some ⟨oc, od, .func fd, sl⟩ ∧ PySem.W.codeIn K (.ref c) qual = true
theorem FunC.okX {P : Program} {w : World} {K : PySem.W.Frag} {mg : Str → Option Value} {base : Heap} {x qual : Str} {st : Stmt} {c f : Addr} {fd : FuncData} {N ps : List Str} {k : Nat} {sp : Sp} (F : FunC K x qual st c f fd) (S : FnScope N ps (defScope st)) (len : ∀ vs H Q E, sp vs H Q E → vs.length = ps.length)
    (body : ∀ (A : Around) (outer : List Env) (s : Shared) (H : Hp) (vs : List V) (Q : VK) (E : XK), Room k (A.deeper (envOfC qual (defScope st) s.heap.objs.size f (.ref c))) → sp vs H Q E →
      ∃ t, PSs (cxOf (L2.CX P w) P w K mg base N qual (defScope st) f (.ref c) A outer s H E) (defBody st) t ∧ t { nx := fun _ H' => Q .non H', rt := Q } (L2.start N vs) H) : FnOk P w K mg base (L2.CX P w) (k + 1) f fd ps sp := by
  obtain ⟨oc, od, kV, dc, pm, an, ct, sl, rfl, lk, hcd⟩ := F.ex
  exact fn_of lk hcd S len fun A outer s H vs Q E hr hsp => body A outer s H vs Q E hr hsp
/-! ### a row with worths set -/
def setRw (s : Nat × Option Int) : Rw := [some (s.1 : Int), s.2]
def setsR (r : Rw) (ss : List (Nat × Option Int)) : Rw := ss.foldl (fun r s => r.set s.1 s.2) r
theorem setsR_len (ss : List (Nat × Option Int)) : ∀ r : Rw, (setsR r ss).length = r.length := by
  induction ss with
  | nil => intro r; rfl
  | cons s ss ih => intro r; show (setsR (r.set s.1 s.2) ss).length = _; rw [ih, List.length_set]
theorem setsR_snoc (r : Rw) (ss : List (Nat × Option Int)) (s : Nat × Option Int) : setsR r (ss ++ [s]) = (setsR r ss).set s.1 s.2 := by
  unfold setsR; rw [List.foldl_append]; rfl
section
variable {P : Program} {w : World} {K : PySem.W.Frag} {mg : Str → Option Value} {base : Heap}
def spWithSets (K : PySem.W.Frag) : Sp := fun vs H Q _ => ∃ (rp sp : Addr) (r : Rw) (ss : List (Nat × Option Int)) (us : List V), vs = [.ref rp, .ref sp] ∧ SqT K H rp (r.map wV) ∧ SqL K H sp us ∧ DpAll K H us ((ss.map setRw).map rowD) ∧ (∀ s ∈ ss, s.1 < r.length) ∧
  ∀ (t : Addr) (H' : Hp), Same H H' → H t = none → H' t = some (.tup ((setsR r ss).map wV)) → Q (.ref t) H'
abbrev s_with_sets : Stmt := topS 24
abbrev N_with_sets : List Str := ["row", "sets", "worths", "place", "worth"]
theorem sc_with_sets : FnScope N_with_sets ["row", "sets"] (defScope s_with_sets) := ⟨rfl, rfl, rfl, by decide +kernel, rfl, by decide +kernel, by decide +kernel⟩

set_option maxHeartbeats 4000000 in
theorem ok_with_sets {f : Addr} {fd : FuncData} (F : Fun K "with_sets" "with_sets" s_with_sets f fd) (nb : NB mg) : FnOk P w K mg base CX0 1 f fd ["row", "sets"] (spWithSets K) := by
  refine F.ok sc_with_sets (fun vs H Q E h => ?_) (fun cdv A outer sh H vs Q E hr h => ?_)
  · obtain ⟨rp, sp, r, ss, us, rfl, _⟩ := h
    rfl
  obtain ⟨rp, sp, r, ss, us, rfl, hR, hS, hU, hlt, q⟩ := h
  have nd := sc_with_sets.nd
  refine ⟨_, (pss_cons (ps_set (i := 2) nd rfl (Or.inl rfl) (pe_callTy call_list_of (by rfl) nb.b_list (by decide +kernel) (pa_cons (pv 0) pa_nil)))
      (pss_cons (ps_for PassesOwn.never rfl (pi_list (pv 1)) (pg_tup rfl (pgs_cons (pg_name (i := 3) nd rfl (Or.inl rfl)) (pgs_cons (pg_name (i := 4) nd rfl (Or.inl rfl)) pgs_nil)))
        (pss_one (ps_asg (pv 4) (pg_sub (pv 2) (pv 3) set_list))))
      (pss_one (ps_ret (pe_callTy call_tuple_of (by rfl) nb.b_tuple (by decide +kernel) (pa_cons (pv 2) pa_nil)))))), ?_⟩
  refine ⟨.ref rp, rfl, rp, _, rfl, .inr hR, fun D nD => ?_⟩
  have sD := same_upd (o := .lst (r.map wV)) nD
  have lus : us.length = ss.length := by rw [dpAll_len hU, List.length_map, List.length_map]
  dsimp only [List.set]
  refine ⟨.ref sp, rfl, sp, rfl, ⟨us, stillL sD hS⟩, ?_⟩
  refine for_it (walk_list (xs := us)) (fun j σ H' => (∃ y3 y4, σ = [some (.ref rp), some (.ref sp), some (.ref D), y3, y4]) ∧ H' D = some (.lst ((setsR r (ss.take j)).map wV)) ∧ Kept [D] H H') ⟨⟨_, _, rfl⟩, upd_same, Kept.upd_new nD⟩ (fun j σ H' _ hP => stillL (keptS hP.2.2 nD) hS) (fun j y σ H1 H1' hj hP hY => ?_) (fun σ H1 hP => ?_)
  · obtain ⟨rfl, hy⟩ := hY
    obtain ⟨⟨y3, y4, rfl⟩, eD, kk⟩ := hP
    obtain ⟨row, p, hrow, rfl, hp⟩ := row_at' hU hy
    rw [List.getElem?_map] at hrow
    obtain ⟨s, hs, rfl⟩ := Option.map_eq_some_iff.mp hrow
    have lt := hlt s (List.mem_of_getElem? hs)
    have lt2 : s.1 < ((setsR r (ss.take j)).map wV).length := by rw [List.length_map, setsR_len]; exact lt
    refine ⟨p, _, rfl, sameT (keptS kk nD) hp, rfl, _, _, rfl, _, _, rfl, rfl, ?_⟩
    refine ⟨wV s.2, rfl, .ref D, rfl, .int (s.1 : Int), rfl, D, _, _, s.1, rfl, rfl, eD, ixN_nat lt2, ⟨_, _, rfl⟩, ?_, kk.trans (Kept.upd_in (List.mem_cons_self ..))⟩
    rw [upd_same, List.take_add_one, hs, Option.toList_some, setsR_snoc, List.map_set]
  · obtain ⟨⟨y3, y4, rfl⟩, eD, kk⟩ := hP
    rw [lus, List.take_length] at eD
    have s1 := keptS kk nD
    refine ⟨.ref D, rfl, D, _, rfl, .inl ⟨.inl (.inl eD), fun t nt => ?_⟩⟩
    exact q t _ (s1.trans (same_upd nt)) (Same.free s1 nt) upd_same
end
/-! ### rising keys -/
def twiceR : List Rw → Option Int
  | r :: s :: t => if keyW r = keyW s then some (keyW r) else twiceR (s :: t)
  | _ => none
def riseR (rs : List Rw) : List Rw := rs.mergeSort fun a b => decide (keyW a ≤ keyW b)
section
variable {P : Program} {w : World} {K : PySem.W.Frag} {mg : Str → Option Value} {base : Heap}
theorem zip_at {α β : Type} {l : List α} {m : List β} {x : α × β} (h : x ∈ l.zip m) : ∃ i : Nat, l[i]? = some x.1 ∧ m[i]? = some x.2 := by
  obtain ⟨i, hi⟩ := List.getElem?_of_mem h
  exact ⟨i, List.getElem?_zip_eq_some.mp hi⟩
theorem dpAll_of {α : Type} {K : PySem.W.Frag} {H : Hp} {f : α → V} {g : α → PyData} : ∀ {l : List α}, (∀ x ∈ l, Dp K H (f x) (g x)) → DpAll K H (l.map f) (l.map g)
  | [], _ => .nil
  | x :: l, h => .cons (h x (List.mem_cons_self ..)) (dpAll_of fun y hy => h y (List.mem_cons_of_mem _ hy))
theorem twice_drop {rs : List Rw} {j : Nat} {r1 r2 : Rw} (h1 : rs[j]? = some r1) (h2 : rs[j + 1]? = some r2) : twiceR (rs.drop j) = if keyW r1 = keyW r2 then some (keyW r1) else twiceR (rs.drop (j + 1)) := by
  obtain ⟨l1, e1⟩ := List.getElem?_eq_some_iff.mp h1
  obtain ⟨l2, e2⟩ := List.getElem?_eq_some_iff.mp h2
  rw [List.drop_eq_getElem_cons l1, List.drop_eq_getElem_cons l2, e1, e2]
  rfl
theorem twice_end {rs : List Rw} {j : Nat} (h : rs.length ≤ j + 1) : twiceR (rs.drop j) = none := by
  have hl : (rs.drop j).length ≤ 1 := by rw [List.length_drop]; omega
  generalize rs.drop j = l at hl
  match l, hl with
  | [], _ => rfl
  | [_], _ => rfl
  | _ :: _ :: _, h => simp at h
def lamQ : Str := ("_risen" ++ ".<locals>." : Str) ++ ("<lambda>" : Str)
/-- rows told by rising keys; a key twice is told by the error. Pt: the table of the code object that makes the lambda -/
def spRisen (K : PySem.W.Frag) (Pt C : Addr) : Sp := fun vs H Q E => ∃ (t : Str) (ap : Addr) (rs : List Rw) (us : List V), vs = [.str t, .ref ap] ∧ TabS H Pt lamQ ∧ H ap = some (.lst us) ∧ DpAll K (msk [Pt] H) us (rs.map rowD) ∧ (∀ r ∈ rs, ∃ k t0, r = some k :: t0) ∧ rs.length ≤ 900 ∧
  (twiceR (riseR rs) = none → ∀ (S : Addr) (vs' : List V) (H' : Hp), Kept [Pt] H H' → TabS H' Pt lamQ → H S = none → H' S = some (.lst vs') → DpAll K (msk [Pt] H') vs' ((riseR rs).map rowD) → Q (.ref S) H') ∧
  ∀ k, twiceR (riseR rs) = some k → ∀ (d : Addr) (H' : Hp), Kept [Pt] H H' → TabS H' Pt lamQ → H' d = none → E (.ref C) (some d) (upd H' d (.xd [(("key" : Str), .int k), (("table" : Str), .str t)]))
abbrev s_risen : Stmt := topS 26
abbrev N_risen : List Str := ["table", "rows", "risen", "row", "after"]
theorem sc_risen : FnScope N_risen ["table", "rows"] (defScope s_risen) := ⟨rfl, rfl, rfl, by decide +kernel, rfl, by decide +kernel, by decide +kernel⟩

set_option maxHeartbeats 4000000 in
theorem ok_risen {CN c Pt f : Addr} {fd : FuncData} (N : Ers P w K mg base "Taken" "table" "key" CN) (F : FunC K "_risen" "_risen" s_risen c f fd) (nb : NB mg) (TB : TabB base mg c Pt) : FnOk P w K mg base (L2.CX P w) 3 f fd ["table", "rows"] (spRisen K Pt CN) := by
  refine F.okX sc_risen (fun vs H Q E h => ?_) (fun A outer sh H vs Q E hr h => ?_)
  · obtain ⟨t, ap, rs, us, rfl, _⟩ := h
    rfl
  obtain ⟨t, ap, rs, us, rfl, hT, eA, hU, hkey, few, q1, q2⟩ := h
  have nd := sc_risen.nd
  refine ⟨_, (pss_cons (ps_set (i := 2) nd rfl (Or.inl rfl) (pe_sortLam (q := lamQ) nb.b_sorted (pa_cons (pv 1) pa_nil) hr TB rfl rfl rfl rfl rfl rfl rfl rfl (fun _ _ _ _ _ _ => rfl)))
      (pss_cons (ps_for (passes_of rfl) rfl (pi_zipB (by rfl) nb.b_zip (pa_cons (pv 2) (pa_cons (pe_slice sl_list (pv 2) (po_some pe_int) po_none) pa_nil))) (pg_tup rfl (pgs_cons (pg_name (i := 3) nd rfl (Or.inl rfl)) (pgs_cons (pg_name (i := 4) nd rfl (Or.inl rfl)) pgs_nil)))
        (pss_one (ps_if (pt_cmpR op_eq (pe_ix ix_tup (pv 3) pe_int (fun _ _ => rfl)) (pe_ix ix_tup (pv 4) pe_int (fun _ _ => rfl)) (nomark _))
          (pss_one (ps_ers N rfl hr (takes_of rfl rfl rfl rfl) (pa_cons (pv 0) (pa_cons (pe_ix ix_tup (pv 3) pe_int (fun _ _ => rfl)) pa_nil))))
          pss_nil)))
      (pss_one (ps_ret (pv 2))))), ?_⟩
  obtain ⟨tps, eP, tok, tall⟩ := id hT
  have lus : us.length = rs.length := by rw [dpAll_len hU, List.length_map]
  have naP : ap ≠ Pt := fun z => by rw [z, eP] at eA; cases eA
  have ef : (us.zip rs).map Prod.fst = us := List.map_fst_zip (Nat.le_of_eq lus)
  have es : (us.zip rs).map Prod.snd = rs := List.map_snd_zip (Nat.le_of_eq lus.symm)
  have mem : ∀ x ∈ us.zip rs, Dp K (msk [Pt] H) x.1 (rowD x.2) := fun x hx => by
    obtain ⟨i, h1, h2⟩ := zip_at hx
    obtain ⟨d, hd1, hd2⟩ := dpAll_get i hU h1
    rw [List.getElem?_map, h2] at hd1
    cases hd1
    exact hd2
  have sqs : ∀ x ∈ us.zip rs, ∃ p ys, x.1 = .ref p ∧ SqT K H p ys ∧ ys[0]? = some (.int (keyW x.2)) := fun x hx => by
    obtain ⟨i, h1, h2⟩ := zip_at hx
    obtain ⟨r, p, h3, h4, h5⟩ := row_at' hU h1
    rw [h2] at h3
    cases h3
    obtain ⟨k, t0, e⟩ := hkey x.2 (List.mem_of_getElem? h2)
    exact ⟨p, _, h4, sameT (msk_sub [Pt] H) h5, by rw [e]; rfl⟩
  refine ⟨.ref ap, rfl, hT, ap, V × Rw, us.zip rs, Prod.fst, fun x => keyW x.2, rfl, by rw [ef]; exact .inl (.inl eA), naP, sqs, fun S H1 k1 T1 nS => ?_⟩
  have eR : ((us.zip rs).mergeSort fun a b => decide (keyW a.2 ≤ keyW b.2)).map Prod.snd = riseR rs := by
    rw [PySem.W.sort_maps Prod.snd (s := fun a b => decide (keyW a ≤ keyW b)) (fun _ _ _ _ => rfl), es]
    rfl
  have mem2 : ∀ x ∈ (us.zip rs).mergeSort (fun a b => decide (keyW a.2 ≤ keyW b.2)), x ∈ us.zip rs := fun x hx => List.mem_mergeSort.mp hx
  generalize (us.zip rs).mergeSort (fun a b => decide (keyW a.2 ≤ keyW b.2)) = sp at eR mem2 ⊢
  have d1 : DpAll K (msk [Pt] H) (sp.map Prod.fst) ((sp.map Prod.snd).map rowD) := by
    rw [List.map_map]
    exact dpAll_of fun x hx => mem x (mem2 x hx)
  rw [eR] at d1
  have lsp : (sp.map Prod.fst).length = (riseR rs).length := by rw [← eR, List.length_map, List.length_map]
  have hk2 : ∀ r ∈ riseR rs, ∃ k t0, r = some k :: t0 := fun r hr => hkey r (List.mem_mergeSort.mp hr)
  have few2 : (riseR rs).length ≤ 900 := by unfold riseR; rw [List.length_mergeSort]; exact few
  generalize sp.map Prod.fst = vs' at d1 lsp ⊢
  generalize riseR rs = rs' at q1 q2 d1 lsp hk2 few2
  have s1 := same_upd (o := .lst vs') nS
  have eS : (upd H1 S (.lst vs')) S = some (.lst vs') := upd_same
  have T2 := T1.ext s1
  have k2 : Kept [Pt] H (upd H1 S (.lst vs')) := k1.trans (Kept.of_same s1)
  have nS0 : H S = none := by
    cases e : H S with
    | none => rfl
    | some o =>
      by_cases z : S = Pt
      · obtain ⟨ps1, z1, _⟩ := T1
        rw [z, z1] at nS; cases nS
      · have z1 := k1 S o e (by simpa using z)
        rw [nS] at z1; cases z1
  dsimp only [List.set]
  generalize upd H1 S (.lst vs') = H2 at eS T2 k2 ⊢
  refine ⟨.ref S, rfl, .ref S, rfl, 1, rfl, S, _, rfl, .inl (.inl eS), fun L nL => ⟨false, false, S, L, vs', vs'.drop 1, rfl, .inl (.inl ((same_upd nL) _ _ eS)), .inl (.inl (by rw [upd_same, show cutV vs' (some 1) none = vs'.drop 1 from cutV_hi vs' 1])), ?_⟩⟩
  have sL := same_upd (o := .lst (cutV vs' (some 1) none)) nL
  have eL : (upd H2 L (.lst (cutV vs' (some 1) none))) L = some (.lst (vs'.drop 1)) := by rw [upd_same, show cutV vs' (some 1) none = vs'.drop 1 from cutV_hi vs' 1]
  generalize upd H2 L (.lst (cutV vs' (some 1) none)) = H3 at sL eL ⊢
  have hlen : vs'.length - 1 = min vs'.length (vs'.drop 1).length := by rw [List.length_drop]; omega
  refine for_it (walk_zipB (xs := vs') (ys := vs'.drop 1) (n := vs'.length - 1) hlen) (fun j σ H' => (∃ y3 y4, σ = [some (.str t), some (.ref ap), some (.ref S), y3, y4]) ∧ Same H3 H' ∧ twiceR rs' = twiceR (rs'.drop j)) ⟨⟨_, _, rfl⟩, Same.refl _, rfl⟩ (fun j σ H' _ hP => ⟨.inl (.inl (hP.2.1 _ _ (sL _ _ eS))), .inl (.inl (hP.2.1 _ _ eL))⟩) (fun j x σ H4 H4' hj hP hY => ?_) (fun σ H4 hP => ?_)
  · obtain ⟨TT, x1, y1, rfl, nT, e8, hx, hy⟩ := hY
    obtain ⟨⟨y3, y4, rfl⟩, s4, eqs⟩ := hP
    have s44 : Same H4 H4' := by rw [e8]; exact same_upd nT
    have eT : H4' TT = some (.tup [x1, y1]) := by rw [e8]; exact upd_same
    clear e8
    have hy : (vs'.drop 1)[j]? = some y1 := hy
    rw [List.getElem?_drop, Nat.add_comm] at hy
    have hx : vs'[j]? = some x1 := hx
    obtain ⟨r1, p1, h1, rfl, w1⟩ := row_at' d1 hx
    obtain ⟨r2, p2, h2, rfl, w2⟩ := row_at' d1 hy
    obtain ⟨kk1, t1, rfl⟩ := hk2 r1 (List.mem_of_getElem? h1)
    obtain ⟨kk2, t2, rfl⟩ := hk2 r2 (List.mem_of_getElem? h2)
    have kp4 : Kept [Pt] H H4' := k2.trans (Kept.of_same (sL.trans (s4.trans s44)))
    have m4 : Same (msk [Pt] H) H4' := (msk_same kp4).trans (msk_sub [Pt] H4')
    have td := twice_drop h1 h2
    refine ⟨TT, _, rfl, .inl (.inl eT), rfl, _, _, rfl, _, _, rfl, rfl, ?_⟩
    refine ⟨.ref p1, rfl, p1, _, 0, .int kk1, rfl, rfl, sameT m4 w1, atI_nat (j := 0) rfl, .ref p2, rfl, p2, _, 0, .int kk2, rfl, rfl, sameT m4 w2, atI_nat (j := 0) rfl, rfl, _, rfl, ite2 (fun e => ?_) (fun e => ?_)⟩
    · have e : kk1 = kk2 := V.int.inj (of_decide_eq_true e)
      refine ⟨.str t, rfl, .ref p1, rfl, p1, _, 0, .int kk1, rfl, rfl, sameT m4 w1, atI_nat (j := 0) rfl, ers_raise fun d hd => q2 kk1 ?_ d H4' kp4 (T2.ext (sL.trans (s4.trans s44))) hd⟩
      rw [eqs, td]
      exact if_pos e
    · have ne : ¬ kk1 = kk2 := fun z => e (by rw [z]; exact decide_eq_true rfl)
      exact ⟨⟨_, _, rfl⟩, s4.trans s44, by rw [eqs, td]; exact if_neg ne⟩
  · obtain ⟨⟨y3, y4, rfl⟩, s4, eqs⟩ := hP
    have no : twiceR rs' = none := by rw [eqs]; exact twice_end (by omega)
    have s24 := sL.trans s4
    have kp4 : Kept [Pt] H H4 := k2.trans (Kept.of_same s24)
    exact ⟨.ref S, rfl, q1 no S vs' H4 kp4 (T2.ext s24) nS0 (s24 _ _ eS) (dpAll_same (msk_same kp4) d1)⟩
end
end TT

set_option Elab.async false
set_option linter.all false
set_option maxRecDepth 100000
namespace TT
open PySem PySem.Spec PyProof.Rows L2 LamX
/-! ### cells to be set, row by row -/
abbrev Cell := Str × Int × Str × Option Int
def cellsD (o i : Bool) (cs : List Cell) : PyData := seqD o (cs.map fun x => seqD i [.str x.1, .int x.2.1, .str x.2.2.1, wD x.2.2.2])
def keyTK (t : Str) (k : Int) : List Key := [.inr t, .inl k]
theorem keyTK_eq {t t' : Str} {k k' : Int} : keyTK t k = keyTK t' k' ↔ t = t' ∧ k = k' := by
  unfold keyTK
  constructor
  · intro h
    injection h with h1 h2
    injection h2 with h2 _
    exact ⟨Sum.inr.inj h1, Sum.inl.inj h2⟩
  · rintro ⟨rfl, rfl⟩; rfl
def setsFor (ts : List Tab) (cs : List Cell) (t : Str) (k : Int) : List (Nat × Option Int) := cs.filterMap fun x => if x.1 = t ∧ x.2.1 = k then some ((cns ts t).idxOf x.2.2.1, x.2.2.2) else none
theorem dps_row {K : PySem.W.Frag} {H : Hp} : ∀ r : Rw, DpAll K H (r.map wV) (r.map wD)
  | [] => .nil
  | o :: r => .cons (dp_w o) (dps_row r)
/-- tuples stay where a list or a dict is written -/
theorem rows_write {K : PySem.W.Frag} {H H' : Hp} {us : List V} {rs : List Rw} (h : DpAll K H us (rs.map rowD)) (k : ∀ p ys, H p = some (.tup ys) → H' p = some (.tup ys)) (kf : ∀ p o ys, H p = some (.frz o (.tup ys)) → H' p = some (.frz o (.tup ys))) : DpAll K H' us (rs.map rowD) := by
  induction rs generalizing us with
  | nil => cases h; exact .nil
  | cons r rs ih =>
    cases h with
    | cons h1 h2 =>
      obtain ⟨p, rfl, hp⟩ := row_dp h1
      refine .cons (.tup ?_ (dps_row r)) (ih h2)
      rcases hp with (e | ⟨o, e⟩) | e
      · exact .inl (.inl (k _ _ e))
      · exact .inl (.inr ⟨o, kf _ _ _ e⟩)
      · exact .inr e
/-- what writes lists and dicts alone, and makes new things -/
def KeepT (H H' : Hp) : Prop := (∀ p ys, H p = some (.tup ys) → H' p = some (.tup ys)) ∧ ∀ p o ys, H p = some (.frz o (.tup ys)) → H' p = some (.frz o (.tup ys))
theorem KeepT.same {H H' : Hp} (s : Same H H') : KeepT H H' := ⟨fun _ _ e => s _ _ e, fun _ _ _ e => s _ _ e⟩
theorem KeepT.write {H : Hp} {a : Addr} {o o' : HO} (e : H a = some o) (n1 : ∀ ys, o ≠ .tup ys) (n2 : ∀ b ys, o ≠ .frz b (.tup ys)) : KeepT H (upd H a o') := by
  refine ⟨fun p ys z => ?_, fun p b ys z => ?_⟩
  · have ne : p ≠ a := fun q => by rw [q, e] at z; exact n1 ys (Option.some.inj z)
    rw [upd_ne ne]; exact z
  · have ne : p ≠ a := fun q => by rw [q, e] at z; exact n2 b ys (Option.some.inj z)
    rw [upd_ne ne]; exact z
/-- a dict of lists of worths to be set: Dm its keys, H0 the heap ahead of it -/
def DomAt (K : PySem.W.Frag) (H0 H : Hp) (D : Addr) (n : Nat) (Dm : Str → Int → Prop) (f : Str → Int → List (Nat × Option Int)) : Prop := ∃ (kvs : List (List Key × V)) (Lf : Str → Int → Addr), H D = some (.dT kvs) ∧ kvs.length ≤ n ∧ (∀ t k, ¬ Dm t k → valV kvs (keyTK t k) = none) ∧
  (∀ t k, Dm t k → valV kvs (keyTK t k) = some (.ref (Lf t k)) ∧ H0 (Lf t k) = none ∧ ∃ us, H (Lf t k) = some (.lst us) ∧ DpAll K H us (((f t k).map setRw).map rowD)) ∧ ∀ t k t' k', Dm t k → Dm t' k' → Lf t k = Lf t' k' → t = t' ∧ k = k'
def SetsAt (K : PySem.W.Frag) (H0 H : Hp) (D : Addr) (n : Nat) (f : Str → Int → List (Nat × Option Int)) : Prop := DomAt K H0 H D n (fun t k => f t k ≠ []) f
section
variable {K : PySem.W.Frag} {H0 H H' : Hp} {D : Addr} {n : Nat} {Dm : Str → Int → Prop} {f : Str → Int → List (Nat × Option Int)}
theorem DomAt.same (h : DomAt K H0 H D n Dm f) (s : Same H H') : DomAt K H0 H' D n Dm f := by
  obtain ⟨kvs, Lf, e, l, a, b, c⟩ := h
  refine ⟨kvs, Lf, s _ _ e, l, a, fun t k d => ?_, c⟩
  obtain ⟨x, y, us, z1, z2⟩ := b t k d
  exact ⟨x, y, us, s _ _ z1, dpAll_same s z2⟩
theorem DomAt.new {H2 : Hp} (h2 : DomAt K H0 H2 D n Dm f) (s : Same H2 H) {t : Str} {k : Int} (no : ¬ Dm t k) (fe : f t k = []) {e : Addr} (ee : H e = some (.lst [])) (e0 : H0 e = none) (e2 : H2 e = none) :
    ∃ kvs, H D = some (.dT kvs) ∧ DomAt K H0 (upd H D (.dT (putK kvs (keyTK t k) (.ref e)))) D (n + 1) (fun t' k' => (t' = t ∧ k' = k) ∨ Dm t' k') f := by
  obtain ⟨kvs, Lf, eD2, l, a, b2, c⟩ := h2
  have eD := s _ _ eD2
  have b : ∀ t k, Dm t k → valV kvs (keyTK t k) = some (.ref (Lf t k)) ∧ H0 (Lf t k) = none ∧ ∃ us, H (Lf t k) = some (.lst us) ∧ DpAll K H us (((f t k).map setRw).map rowD) := fun t k d => by
    obtain ⟨x, y, us, z1, z2⟩ := b2 t k d
    exact ⟨x, y, us, s _ _ z1, dpAll_same s z2⟩
  have nDe : e ≠ D := fun z => by rw [z, eD] at ee; cases ee
  have kt : KeepT H (upd H D (.dT (putK kvs (keyTK t k) (.ref e)))) := .write eD (fun _ z => by cases z) (fun _ _ z => by cases z)
  have nf : ∀ t' k', Dm t' k' → Lf t' k' ≠ e := fun t' k' d => by
    obtain ⟨_, _, us, z1, _⟩ := b2 t' k' d
    exact ne_of_none z1 e2
  refine ⟨kvs, eD, putK kvs (keyTK t k) (.ref e), fun t' k' => if t' = t ∧ k' = k then e else Lf t' k', upd_same, Nat.le_trans (length_putK _ _ _) (by omega), fun t' k' d => ?_, fun t' k' d => ?_, fun t1 k1 t2 k2 d1 d2 q => ?_⟩
  · have n1 : ¬ (t' = t ∧ k' = k) := fun z => d (.inl z)
    rw [valV_put, if_neg (fun z => n1 (keyTK_eq.mp z))]
    exact a t' k' fun z => d (.inr z)
  · rw [valV_put]
    dsimp only
    by_cases z : t' = t ∧ k' = k
    · rw [if_pos (keyTK_eq.mpr z), if_pos z]
      obtain ⟨rfl, rfl⟩ := z
      exact ⟨rfl, e0, [], by rw [upd_ne nDe]; exact ee, by rw [fe]; exact .nil⟩
    · rw [if_neg (fun w => z (keyTK_eq.mp w)), if_neg z]
      have d' : Dm t' k' := d.resolve_left z
      obtain ⟨x, y, us, z1, z2⟩ := b t' k' d'
      have nL : Lf t' k' ≠ D := fun w => by rw [w, eD] at z1; cases z1
      exact ⟨x, y, us, by rw [upd_ne nL]; exact z1, rows_write z2 kt.1 kt.2⟩
  · dsimp only at q
    by_cases z1 : t1 = t ∧ k1 = k
    · by_cases z2 : t2 = t ∧ k2 = k
      · exact ⟨z1.1.trans z2.1.symm, z1.2.trans z2.2.symm⟩
      · rw [if_pos z1, if_neg z2] at q
        exact absurd q.symm (nf t2 k2 (d2.resolve_left z2))
    · by_cases z2 : t2 = t ∧ k2 = k
      · rw [if_neg z1, if_pos z2] at q
        exact absurd q (nf t1 k1 (d1.resolve_left z1))
      · rw [if_neg z1, if_neg z2] at q
        exact c t1 k1 t2 k2 (d1.resolve_left z1) (d2.resolve_left z2) q
theorem DomAt.put (h : DomAt K H0 H D n Dm f) {t : Str} {k : Int} (d : Dm t k) {g : Str → Int → List (Nat × Option Int)} {s : Nat × Option Int} (g1 : g t k = f t k ++ [s]) (g2 : ∀ t' k', ¬ (t' = t ∧ k' = k) → g t' k' = f t' k') {L : Addr} {q : Addr} {us : List V}
    (eq : H q = some (.tup [.int (s.1 : Int), wV s.2])) (eL : H L = some (.lst us)) (val : ∀ kvs, H D = some (.dT kvs) → valV kvs (keyTK t k) = some (.ref L)) : DomAt K H0 (upd H L (.lst (us ++ [.ref q]))) D n Dm g := by
  obtain ⟨kvs, Lf, eD, l, a, b, c⟩ := h
  have v := val kvs eD
  obtain ⟨x, y, us', z1, z2⟩ := b t k d
  rw [x] at v
  obtain rfl : Lf t k = L := V.ref.inj (Option.some.inj v)
  rw [eL] at z1
  cases z1
  have kt : KeepT H (upd H (Lf t k) (.lst (us ++ [.ref q]))) := .write eL (fun _ z => by cases z) (fun _ _ z => by cases z)
  have nD : D ≠ Lf t k := fun z => by rw [← z, eD] at eL; cases eL
  refine ⟨kvs, Lf, by rw [upd_ne nD]; exact eD, l, a, fun t' k' d' => ?_, c⟩
  by_cases z : t' = t ∧ k' = k
  · obtain ⟨rfl, rfl⟩ := z
    refine ⟨x, y, us ++ [.ref q], upd_same, ?_⟩
    rw [g1, List.map_append, List.map_append]
    exact dpAll_app (rows_write z2 kt.1 kt.2) (.cons (.tup (.inl (.inl (kt.1 _ _ eq))) (dps_row [some (s.1 : Int), s.2])) .nil)
  · obtain ⟨x', y', us', w1, w2⟩ := b t' k' d'
    have nL : Lf t' k' ≠ Lf t k := fun w => z (c t' k' t k d' d w)
    refine ⟨x', y', us', by rw [upd_ne nL]; exact w1, ?_⟩
    rw [g2 t' k' z]
    exact rows_write w2 kt.1 kt.2
end
theorem setsFor_snoc (ts : List Tab) (cs : List Cell) (x : Cell) (t : Str) (k : Int) : setsFor ts (cs ++ [x]) t k = setsFor ts cs t k ++ (if x.1 = t ∧ x.2.1 = k then [((cns ts t).idxOf x.2.2.1, x.2.2.2)] else []) := by
  unfold setsFor
  rw [List.filterMap_append]
  congr 1
  rw [List.filterMap_cons, List.filterMap_nil]
  split <;> simp_all
section
variable {P : Program} {w : World} {K : PySem.W.Frag} {mg : Str → Option Value} {base : Heap}
def spSetsBy (K : PySem.W.Frag) : Sp := fun vs H Q _ => ∃ (tp : Addr) (ts : List Tab) (v : V) (o i : Bool) (cs : List Cell), vs = [.ref tp, v] ∧ Tabs K H tp ts ∧ Dp K H v (cellsD o i cs) ∧ (∀ x ∈ cs, x.1 ∈ tns ts ∧ x.2.2.1 ∈ cns ts x.1) ∧ cs.length ≤ 900 ∧
  ∀ (D : Addr) (H' : Hp), Same H H' → H D = none → SetsAt K H H' D 900 (setsFor ts cs) → Q (.ref D) H'
abbrev s_sets_by_row : Stmt := topS 23
abbrev N_sets_by_row : List Str := ["tables", "cells", "sets", "table", "key", "column", "worth", "place"]
theorem sc_sets_by_row : FnScope N_sets_by_row ["tables", "cells"] (defScope s_sets_by_row) := ⟨rfl, rfl, rfl, by decide +kernel, rfl, by decide +kernel, by decide +kernel⟩

set_option maxHeartbeats 4000000 in
theorem ok_sets_by_row {f : Addr} {fd : FuncData} (F : Fun K "sets_by_row" "sets_by_row" s_sets_by_row f fd) (D_column_place : Def P w K mg base 3 "column_place" ["tables", "table", "column"] (spColPlace K)) : FnOk P w K mg base CX0 4 f fd ["tables", "cells"] (spSetsBy K) := by
  refine F.ok sc_sets_by_row (fun vs H Q E h => ?_) (fun cdv A outer sh H vs Q E hr h => ?_)
  · obtain ⟨tp, ts, v, o, i, cs, rfl, _⟩ := h
    rfl
  obtain ⟨tp, ts, v, o, i, cs, rfl, hT, hC, hin, few, q⟩ := h
  have nd := sc_sets_by_row.nd
  refine ⟨_, (pss_cons (ps_set (i := 2) nd rfl (Or.inl rfl) pe_dnewT)
      (pss_cons (ps_for PassesOwn.never rfl (pi_seqB (pv 1)) (pg_seqB rfl (pgs_cons (pg_name (i := 3) nd rfl (Or.inl rfl)) (pgs_cons (pg_name (i := 4) nd rfl (Or.inl rfl)) (pgs_cons (pg_name (i := 5) nd rfl (Or.inl rfl)) (pgs_cons (pg_name (i := 6) nd rfl (Or.inl rfl)) pgs_nil)))))
        (pss_cons (ps_set (i := 7) nd rfl (Or.inl rfl) (pe_own D_column_place hr (pa_cons (pv 0) (pa_cons (pv 3) (pa_cons (pv 5) pa_nil)))))
        (pss_one (ps_expr (pe_bm PySem.F.plainAttrs_list PySem.F.slot_list_append PySem.F.type_list_append mt_append (pe_setdT (u65 hr) (pv 2) (pe_tup (pa_cons (pv 3) (pa_cons (pv 4) pa_nil))) (pe_lst pa_nil) ⟨by rfl, by rfl, by rfl, by rfl⟩) (pa_cons (pe_tup (pa_cons (pv 7) (pa_cons (pv 6) pa_nil))) pa_nil))))))
      (pss_one (ps_ret (pv 2))))), ?_⟩
  intro D nD
  obtain ⟨vp, xs, rfl, hX, hA⟩ := seq_dp hC
  have lxs : xs.length = cs.length := by rw [dpAll_len hA, List.length_map]
  dsimp only [List.set]
  refine ⟨.ref vp, rfl, o, vp, rfl, ⟨xs, hX.same (same_upd nD)⟩, ?_⟩
  refine for_it (walk_seqB (b := o) (xs := xs)) (fun j σ H' => (∃ y3 y4 y5 y6 y7, σ = [some (.ref tp), some (.ref vp), some (.ref D), y3, y4, y5, y6, y7]) ∧ SetsAt K H H' D j (setsFor ts (cs.take j)) ∧ Same H H') ⟨⟨_, _, _, _, _, rfl⟩, ⟨[], fun _ _ => 0, upd_same, Nat.le_refl _, (fun _ _ _ => rfl), (fun t k h => absurd rfl h), (fun t k _ _ h => absurd rfl h)⟩, same_upd nD⟩ (fun j σ H' _ hP => hX.same hP.2.2) (fun j y σ H1 H1' hj hP hY => ?_) (fun σ H1 hP => ?_)
  · obtain ⟨rfl, hy⟩ := hY
    obtain ⟨⟨y3, y4, y5, y6, y7, rfl⟩, hS, s1⟩ := hP
    obtain ⟨d, hd1, hd2⟩ := dpAll_get j hA hy
    rw [List.getElem?_map] at hd1
    obtain ⟨⟨t, k, c, wv⟩, hx, rfl⟩ := Option.map_eq_some_iff.mp hd1
    obtain ⟨ht, hc⟩ := hin _ (List.mem_of_getElem? hx)
    obtain ⟨xp, zs, rfl, hZ, hZA⟩ := seq_dp hd2
    have ez : zs = [.str t, .int k, .str c, wV wv] := by
      cases hZA with
      | cons a1 b1 =>
      cases b1 with
      | cons a2 b2 =>
      cases b2 with
      | cons a3 b3 =>
      cases b3 with
      | cons a4 b4 =>
      cases b4
      cases a1; cases a2; cases a3
      cases wv <;> (cases a4; rfl)
    subst ez
    have e1 : ∀ t' k', setsFor ts (cs.take (j + 1)) t' k' = setsFor ts (cs.take j) t' k' ++ (if t = t' ∧ k = k' then [((cns ts t').idxOf c, wv)] else []) := fun t' k' => by
      rw [List.take_add_one, hx, Option.toList_some, setsFor_snoc]
    refine ⟨i, xp, _, rfl, hZ.same s1, rfl, _, _, rfl, _, _, rfl, _, _, rfl, _, _, rfl, rfl, ?_⟩
    refine ⟨.ref tp, rfl, .str t, rfl, .str c, rfl, tp, ts, t, c, rfl, hT.same s1, ht, hc, fun H2 s2 => ?_⟩
    have hS2 : DomAt K H H2 D j (fun t k => setsFor ts (cs.take j) t k ≠ []) (setsFor ts (cs.take j)) := DomAt.same hS s2
    obtain ⟨kvs, Lf, eD2, lk, none', some', dist⟩ := id hS2
    dsimp only [List.set]
    refine ⟨.ref D, rfl, D, rfl, .inr ⟨kvs, .inl eD2⟩, .str t, rfl, .int k, rfl, (by show 2 ≤ sizeLine; decide), fun b nb => ⟨Nat.zero_le _, fun e ne => ?_⟩⟩
    have nbe : b ≠ e := ne_of_none upd_same ne
    have s3 := (same_upd (o := .tup [.str t, .int k]) nb).trans (same_upd (o := .lst []) ne)
    have eb : (upd (upd H2 b (.tup [.str t, .int k])) e (.lst [])) b = some (.tup [.str t, .int k]) := by rw [upd_ne nbe]; exact upd_same
    have ee : (upd (upd H2 b (.tup [.str t, .int k])) e (.lst [])) e = some (.lst []) := upd_same
    have fe2 : H2 e = none := Same.free (same_upd nb) ne
    have fe0 : H e = none := Same.free (s1.trans s2) fe2
    generalize upd (upd H2 b (.tup [.str t, .int k])) e (.lst []) = H3 at s3 eb ee ⊢
    have s03 := s1.trans (s2.trans s3)
    have hS3 := hS2.same s3
    have lf : ∀ t' k', (setsFor ts (cs.take j) t' k').length ≤ 900 := fun t' k' => by
      unfold setsFor
      have z1 := List.length_filterMap_le (fun x : Cell => if x.1 = t' ∧ x.2.1 = k' then some ((cns ts t').idxOf x.2.2.1, x.2.2.2) else none) (cs.take j)
      rw [List.length_take] at z1
      omega
    have fin : ∀ {H4 : Hp} {Dm : Str → Int → Prop} {L q : Addr} {us : List V}, DomAt K H H4 D (j + 1) Dm (setsFor ts (cs.take j)) → (∀ t' k', Dm t' k' ↔ setsFor ts (cs.take (j + 1)) t' k' ≠ []) → Dm t k → Same H H4 → H L = none → H4 L = some (.lst us) → H4 q = none → (∀ kvs, H4 D = some (.dT kvs) → valV kvs (keyTK t k) = some (.ref L)) →
        SetsAt K H (upd (upd H4 q (.tup [.int ((cns ts t).idxOf c : Nat), wV wv])) L (.lst (us ++ [.ref q]))) D (j + 1) (setsFor ts (cs.take (j + 1))) ∧ Same H (upd (upd H4 q (.tup [.int ((cns ts t).idxOf c : Nat), wV wv])) L (.lst (us ++ [.ref q]))) := fun {H4 Dm L q us} hd hi dm sm l0 eL nq val => by
      have sq := same_upd (o := .tup [.int ((cns ts t).idxOf c : Nat), wV wv]) nq
      have eDm : Dm = fun t k => setsFor ts (cs.take (j + 1)) t k ≠ [] := funext fun t' => funext fun k' => propext (hi t' k')
      have hput := (hd.same sq).put (t := t) (k := k) dm (g := setsFor ts (cs.take (j + 1))) (s := ((cns ts t).idxOf c, wv)) (by rw [e1 t k, if_pos ⟨rfl, rfl⟩]) (fun t' k' z => by rw [e1 t' k', if_neg (fun w => z ⟨w.1.symm, w.2.symm⟩), List.append_nil]) (L := L) (q := q) (us := us) upd_same (sq _ _ eL) (fun kvs' z => val kvs' (by
        obtain ⟨kv2, _, e2, _⟩ := hd
        rw [sq _ _ e2] at z
        cases z
        exact e2))
      rw [eDm] at hput
      refine ⟨hput, fun p o' z => ?_⟩
      have ne : p ≠ L := fun w => by rw [w, l0] at z; cases z
      rw [upd_ne ne]
      exact sq _ _ (sm _ _ z)
    refine ⟨b, kvs, keyTK t k, s3 _ _ eD2, rfl, eb, small1000 (by omega), fun v hv => ?_, fun hn => ?_⟩
    · have dm : setsFor ts (cs.take j) t k ≠ [] := fun z => by rw [none' t k (fun w => w z)] at hv; cases hv
      obtain ⟨x, y, us, z1, z2⟩ := some' t k dm
      rw [x] at hv
      obtain rfl : .ref (Lf t k) = v := Option.some.inj hv
      have lus : us.length ≤ 900 := by rw [dpAll_len z2, List.length_map, List.length_map]; exact lf t k
      have hj1 : DomAt K H H3 D (j + 1) (fun t k => setsFor ts (cs.take j) t k ≠ []) (setsFor ts (cs.take j)) := by
        obtain ⟨kv2, L2', w1, w2, w3⟩ := hS3
        exact ⟨kv2, L2', w1, (by omega), w3⟩
      refine ⟨.inl ⟨rfl, _, .inl (.inl (s3 _ _ z1))⟩, .int ((cns ts t).idxOf c : Nat), rfl, wV wv, rfl, (by show 2 ≤ sizeLine; decide), fun q nq => ?_⟩
      have nqL : Lf t k ≠ q := ne_of_none (s3 _ _ z1) nq
      have F2 := fin (q := q) hj1 (fun t' k' => by
        rw [e1 t' k']
        by_cases z : t = t' ∧ k = k'
        · obtain ⟨rfl, rfl⟩ := z
          rw [if_pos ⟨rfl, rfl⟩]
          exact ⟨fun _ => by simp, fun _ => dm⟩
        · rw [if_neg z, List.append_nil]) dm s03 y (s3 _ _ z1) nq (fun kv2 w => by rw [s3 _ _ eD2] at w; cases w; exact x)
      exact ⟨Lf t k, us, .ref q, rfl, rfl, by rw [upd_ne nqL]; exact s3 _ _ z1, small1000 (by omega), ⟨_, _, _, _, _, rfl⟩, F2.1, F2.2⟩
    · have no : ¬ setsFor ts (cs.take j) t k ≠ [] := fun z => by
        obtain ⟨x, _⟩ := some' t k z
        rw [hn] at x; cases x
      have fe : setsFor ts (cs.take j) t k = [] := Decidable.of_not_not no
      obtain ⟨kv2, w1, hnew⟩ := hS2.new s3 no fe ee fe0 fe2
      rw [s3 _ _ eD2] at w1
      cases w1
      have eDe : e ≠ D := fun z => by rw [z, s3 _ _ eD2] at ee; cases ee
      have s4 : Same H (upd H3 D (.dT (putK kvs (keyTK t k) (.ref e)))) := fun p o' z => by
        have ne : p ≠ D := fun w => by rw [w, nD] at z; cases z
        rw [upd_ne ne]; exact s03 _ _ z
      have ee4 : (upd H3 D (.dT (putK kvs (keyTK t k) (.ref e)))) e = some (.lst []) := by rw [upd_ne eDe]; exact ee
      have eD4 : (upd H3 D (.dT (putK kvs (keyTK t k) (.ref e)))) D = some (.dT (putK kvs (keyTK t k) (.ref e))) := upd_same
      generalize upd H3 D (.dT (putK kvs (keyTK t k) (.ref e))) = H4 at hnew s4 ee4 eD4 ⊢
      refine ⟨.inl ⟨rfl, _, .inl (.inl ee4)⟩, .int ((cns ts t).idxOf c : Nat), rfl, wV wv, rfl, (by show 2 ≤ sizeLine; decide), fun q nq => ?_⟩
      have nqL : e ≠ q := ne_of_none ee4 nq
      have F2 := fin (q := q) hnew (fun t' k' => by
        rw [e1 t' k']
        by_cases z : t = t' ∧ k = k'
        · obtain ⟨rfl, rfl⟩ := z
          rw [if_pos ⟨rfl, rfl⟩]
          exact ⟨fun _ => by simp, fun _ => .inl ⟨rfl, rfl⟩⟩
        · rw [if_neg z, List.append_nil]
          exact ⟨fun w => w.resolve_left fun w2 => z ⟨w2.1.symm, w2.2.symm⟩, fun w => .inr w⟩) (.inl ⟨rfl, rfl⟩) s4 fe0 ee4 nq (fun kv2 w => by rw [eD4] at w; cases w; rw [valV_put, if_pos rfl])
      exact ⟨e, [], .ref q, rfl, rfl, by rw [upd_ne nqL]; exact ee4, small1000 (by show 0 ≤ 1000; decide), ⟨_, _, _, _, _, rfl⟩, F2.1, F2.2⟩
  · obtain ⟨⟨y3, y4, y5, y6, y7, rfl⟩, hS, s1⟩ := hP
    rw [lxs, List.take_length] at hS
    obtain ⟨kvs, Lf, z1, z2, z3⟩ := hS
    exact ⟨.ref D, rfl, q D H1 s1 nD ⟨kvs, Lf, z1, (by omega), z3⟩⟩
end
end TT

set_option Elab.async false
set_option linter.all false
set_option maxRecDepth 100000
namespace TT
open PySem PySem.Spec PyProof.Rows L2 LamX
theorem u1 {k : Nat} {A : Around} (r : Room k A) : A.units + 1 < cLine := by have := r.un; omega
/-! ### a content changed by rows gone, cells set and rows new -/
def goneD (o i : Bool) (gs : List (Str × Int)) : PyData := seqD o (gs.map fun x => seqD i [.str x.1, .int x.2])
def newD (o i r : Bool) (ns : List (Str × Rw)) : PyData := seqD o (ns.map fun x => seqD i [.str x.1, seqD r (x.2.map wD)])
def freshR (ts : List Tab) (ct : List (List Rw)) (gs : List (Str × Int)) (cs : List Cell) (ns : List (Str × Rw)) (t : Str) : List Rw :=
  ((ns.filter fun x => decide (x.1 = t)).map (·.2)) ++ ((((ct[(tns ts).idxOf t]?).getD []).filter fun r => !decide ((t, keyW r) ∈ gs)).map fun r => setsR r (setsFor ts cs t (keyW r)))
/-- the rows table by table, or the first key that stands twice -/
def changedR (ts : List Tab) (ct : List (List Rw)) (gs : List (Str × Int)) (cs : List Cell) (ns : List (Str × Rw)) : List Str → List (List Rw) ⊕ (Str × Int)
  | [] => .inl []
  | t :: l => match twiceR (riseR (freshR ts ct gs cs ns t)) with
    | some k => .inr (t, k)
    | none => match changedR ts ct gs cs ns l with
      | .inl rs => .inl (riseR (freshR ts ct gs cs ns t) :: rs)
      | .inr e => .inr e
theorem dcT_it {J : It} {n : Nat} {G : Hp → Prop} {Y : Nat → Hp → V → Hp → Prop} (w : Walk J n G Y) {g : TG} {tt : TT} {tk tv : TE} {vs : List Nat} {σ : L2.St} {H1 : Hp} {D : Addr} {Qd : Hp → Prop} (Pv : Nat → Hp → Prop) (h0 : Pv 0 (upd H1 D (.dT []))) (hG : ∀ (i : Nat) (H : Hp), i ≤ n → Pv i H → G H)
    (hs : ∀ (i : Nat) (x : V) (H H' : Hp), i < n → Pv i H → Y i H x H' → g x (wipe σ vs) H' fun σ2 H2 => wipe σ2 vs = wipe σ vs ∧ tt σ2 H2 fun b H3 => if b = true then tk σ2 H3 fun y H4 => tv σ2 H4 fun z H5 => putT D y z H5 (Pv (i + 1)) else Pv (i + 1) H3) (hd : ∀ H, Pv n H → Qd H) :
    ∃ W : Nat → Nat → Hp → Prop, (∃ m, W 0 m (upd H1 D (.dT []))) ∧ ∀ i m H, W i m H →
      (J.stop i H ∧ Qd H) ∨ (J.go i H ∧ ∃ N : Hp → Prop, (∀ H3, N H3 → ∃ l, l < m ∧ W (i + 1) l H3) ∧ ∀ x H3, J.yld i H x H3 → g x (wipe σ vs) H3 fun σ4 H4 => wipe σ4 vs = wipe σ vs ∧ tt σ4 H4 fun t H5 => if t = true then tk σ4 H5 fun y H6 => tv σ4 H6 fun z H7 => putT D y z H7 N else N H5) := by
  refine ⟨fun i m H => i ≤ n ∧ m = n - i ∧ Pv i H, ⟨n, Nat.zero_le _, rfl, h0⟩, fun i m H ⟨h1, h2, h3⟩ => ?_⟩
  by_cases hi : i < n
  · exact .inr ⟨w.goes i H hi (hG i H h1 h3), fun H' => Pv (i + 1) H', fun H' h => ⟨n - (i + 1), by omega, hi, rfl, h⟩, fun x H' hy => hs i x H H' hi h3 (w.yields i H x H' hi (hG i H h1 h3) hy)⟩
  · obtain rfl : i = n := by omega
    exact .inl ⟨w.stops H (hG i H h1 h3), hd H h3⟩
def LeftAt (H : Hp) (D : Addr) (n : Nat) (gs : List (Str × Int)) : Prop := ∃ kvs : List (List Key × V), H D = some (.dT kvs) ∧ kvs.length ≤ n ∧ ∀ t k, (valV kvs (keyTK t k)).isSome = decide ((t, k) ∈ gs)
theorem LeftAt.put {H : Hp} {D : Addr} {n : Nat} {gs : List (Str × Int)} {t : Str} {k : Int} {v : V} {kvs : List (List Key × V)} (e : H D = some (.dT kvs)) (h : LeftAt H D n gs) : LeftAt (upd H D (.dT (putK kvs (keyTK t k) v))) D (n + 1) (gs ++ [(t, k)]) := by
  obtain ⟨kv2, e2, l, a⟩ := h
  rw [e] at e2
  cases e2
  refine ⟨_, upd_same, Nat.le_trans (length_putK _ _ _) (by omega), fun t' k' => ?_⟩
  rw [valV_put]
  by_cases z : t' = t ∧ k' = k
  · rw [if_pos (keyTK_eq.mpr z)]
    obtain ⟨rfl, rfl⟩ := z
    simp
  · rw [if_neg (fun w => z (keyTK_eq.mp w)), a]
    have : ((t', k') ∈ gs ++ [(t, k)]) ↔ (t', k') ∈ gs := by
      rw [List.mem_append, List.mem_singleton]
      exact ⟨fun w => w.resolve_right fun q => z ⟨(Prod.mk.inj q).1, (Prod.mk.inj q).2⟩, fun w => .inl w⟩
    exact decide_eq_decide.mpr this.symm
/-- what is new or a table may change: all else stays -/
theorem extN_of {M : List Addr} {H H' : Hp} (k : Kept M H H') (hM : ∀ p ∈ M, H p = none ∨ ∃ ps, H p = some (.tbl ps)) : ExtN H H' := fun p o e n => k p o e fun hp => by
  rcases hM p hp with z | ⟨ps, z⟩
  · rw [z] at e; cases e
  · rw [z] at e; exact n ps (Option.some.inj e).symm
theorem LeftAt.ext {H H' : Hp} {D : Addr} {n : Nat} {gs : List (Str × Int)} (h : LeftAt H D n gs) (x : ExtN H H') : LeftAt H' D n gs := by
  obtain ⟨kvs, e, r⟩ := h
  exact ⟨kvs, x _ _ e (fun _ z => by cases z), r⟩
theorem DomAt.ext {K : PySem.W.Frag} {H0 H H' : Hp} {D : Addr} {n : Nat} {Dm : Str → Int → Prop} {f : Str → Int → List (Nat × Option Int)} (h : DomAt K H0 H D n Dm f) (x : ExtN H H') : DomAt K H0 H' D n Dm f := by
  obtain ⟨kvs, Lf, e, l, a, b, c⟩ := h
  refine ⟨kvs, Lf, x _ _ e (fun _ z => by cases z), l, a, fun t k d => ?_, c⟩
  obtain ⟨y1, y2, us, z1, z2⟩ := b t k d
  exact ⟨y1, y2, us, x _ _ z1 (fun _ z => by cases z), rows_write z2 (fun p ys e => x _ _ e (fun _ z => by cases z)) (fun p o ys e => x _ _ e (fun _ z => by cases z))⟩
/-- rows sit on no table of code objects -/
theorem rows_mask {K : PySem.W.Frag} {M : List Addr} {H : Hp} {Pt : Addr} {ps : Array Value} {us : List V} {rs : List Rw} (h : DpAll K (msk M H) us (rs.map rowD)) (eP : H Pt = some (.tbl ps)) : DpAll K (msk (Pt :: M) H) us (rs.map rowD) := by
  have go : ∀ (p : Addr) (o : HO), (∀ qs, o ≠ .tbl qs) → msk M H p = some o → msk (Pt :: M) H p = some o := fun p o n e => by
    have e2 := msk_sub M H p o e
    have ne : p ≠ Pt := fun w => by rw [w, eP] at e2; exact n ps (Option.some.inj e2).symm
    have nM : p ∉ M := fun w => by unfold msk at e; rw [if_pos w] at e; cases e
    exact msk_at e2 (by simp [ne, nM])
  exact rows_write h (fun p ys e => go p _ (fun _ z => by cases z) e) (fun p o ys e => go p _ (fun _ z => by cases z) e)
def joinR (acc : List (List Rw)) : List (List Rw) ⊕ (Str × Int) → List (List Rw) ⊕ (Str × Int)
  | .inl rs => .inl (acc ++ rs)
  | .inr e => .inr e
theorem joinR_nil (x : List (List Rw) ⊕ (Str × Int)) : joinR [] x = x := by cases x <;> rfl
theorem rows_off {K : PySem.W.Frag} {M : List Addr} {H : Hp} {a : Addr} {zs us : List V} {rs : List Rw} (h : DpAll K (msk M H) us (rs.map rowD)) (e : H a = some (.lst zs)) : DpAll K (msk (a :: M) H) us (rs.map rowD) := by
  have go : ∀ (p : Addr) (o : HO), o ≠ .lst zs → msk M H p = some o → msk (a :: M) H p = some o := fun p o n e1 => by
    have e2 := msk_sub M H p o e1
    have ne : p ≠ a := fun w => by rw [w, e] at e2; exact n (Option.some.inj e2).symm
    have nM : p ∉ M := fun w => by unfold msk at e1; rw [if_pos w] at e1; cases e1
    exact msk_at e2 (by simp [ne, nM])
  exact rows_write h (fun p ys e => go p _ (fun z => by cases z) e) (fun p o ys e => go p _ (fun z => by cases z) e)
theorem tab_write {H : Hp} {Pt a : Addr} {q : Str} {zs zs' : List V} (t : TabS H Pt q) (e : H a = some (.lst zs)) : TabS (upd H a (.lst zs')) Pt q := by
  obtain ⟨ps, e1, e2, e3⟩ := t
  have n : Pt ≠ a := fun w => by rw [w, e] at e1; cases e1
  refine ⟨ps, by rw [upd_ne n]; exact e1, e2, fun pos cv h => ?_⟩
  obtain ⟨c0, z1, z2⟩ := e3 pos cv h
  have nc : c0 ≠ a := fun w => by rw [w, e] at z2; unfold CodeO at z2; cases z2
  exact ⟨c0, z1, by rw [upd_ne nc]; exact z2⟩
theorem changed_step {ts : List Tab} {ct : List (List Rw)} {gs : List (Str × Int)} {cs : List Cell} {ns : List (Str × Rw)} {acc : List (List Rw)} {l : List Str} {t : Str} (no : twiceR (riseR (freshR ts ct gs cs ns t)) = none) : joinR acc (changedR ts ct gs cs ns (t :: l)) = joinR (acc ++ [riseR (freshR ts ct gs cs ns t)]) (changedR ts ct gs cs ns l) := by
  show joinR acc (match twiceR (riseR (freshR ts ct gs cs ns t)) with | some k => _ | none => _) = _
  rw [no]
  cases changedR ts ct gs cs ns l with
  | inl rs => show Sum.inl (acc ++ (_ :: rs)) = Sum.inl ((acc ++ [_]) ++ rs); rw [List.append_assoc]; rfl
  | inr e => rfl
theorem changed_stop {ts : List Tab} {ct : List (List Rw)} {gs : List (Str × Int)} {cs : List Cell} {ns : List (Str × Rw)} {acc : List (List Rw)} {l : List Str} {t : Str} {k : Int} (yes : twiceR (riseR (freshR ts ct gs cs ns t)) = some k) : joinR acc (changedR ts ct gs cs ns (t :: l)) = .inr (t, k) := by
  show joinR acc (match twiceR (riseR (freshR ts ct gs cs ns t)) with | some k => _ | none => _) = _
  rw [yes]
  rfl
section
variable {P : Program} {w : World} {K : PySem.W.Frag} {mg : Str → Option Value} {base : Heap}
/-- a list that was not there ahead -/
def NewL (H H' : Hp) (u : V) : Prop := ∃ (p : Addr) (ws : List V), u = .ref p ∧ H p = none ∧ H' p = some (.lst ws) ∧ ws.length ≤ 900
def spChanged (K : PySem.W.Frag) (Pt C : Addr) : Sp := fun vs H Q E => ∃ (tp : Addr) (ts : List Tab) (vc vg ve vn : V) (o i r og ig oe ie on_ in_ rn : Bool) (ct : List (List Rw)) (gs : List (Str × Int)) (cs : List Cell) (ns : List (Str × Rw)), vs = [.ref tp, vc, vg, ve, vn] ∧ TabS H Pt lamQ ∧
  Tabs K (msk [Pt] H) tp ts ∧ Dp K (msk [Pt] H) vc (handD o i r ct) ∧ Dp K (msk [Pt] H) vg (goneD og ig gs) ∧ Dp K (msk [Pt] H) ve (cellsD oe ie cs) ∧ Dp K (msk [Pt] H) vn (newD on_ in_ rn ns) ∧
  (∀ t ∈ tns ts, ∃ rs, At ts ct t rs ∧ rs.length ≤ 400) ∧ gs.length ≤ 900 ∧ cs.length ≤ 900 ∧ ns.length ≤ 400 ∧ (∀ x ∈ cs, x.1 ∈ tns ts ∧ x.2.2.1 ∈ cns ts x.1) ∧ (∀ x ∈ ns, ∃ k t0, x.2 = some k :: t0) ∧
  (∀ t ∈ tns ts, ∀ r ∈ freshR ts ct gs cs ns t, ∃ k t0, r = some k :: t0) ∧
  (∀ rs, changedR ts ct gs cs ns (tns ts) = .inl rs → ∀ (S : Addr) (us : List V) (H' : Hp), Kept [Pt] H H' → TabS H' Pt lamQ → H S = none → H' S = some (.lst us) → DpAll K (msk [S, Pt] H') us (rs.map rowsD) → (∀ u ∈ us, NewL H H' u) → Q (.ref S) H') ∧
  ∀ t k, changedR ts ct gs cs ns (tns ts) = .inr (t, k) → ∀ (d : Addr) (H' : Hp), Kept [Pt] H H' → TabS H' Pt lamQ → H' d = none → E (.ref C) (some d) (upd H' d (.xd [(("key" : Str), .int k), (("table" : Str), .str t)]))
abbrev s_changed : Stmt := topS 21
abbrev N_changed : List Str := ["tables", "content", "gone", "cells", "rows", "left", "sets", "told", "name", "fresh", "row", "at", "table", "key"]
theorem sc_changed : FnScope N_changed ["tables", "content", "gone", "cells", "rows"] (defScope s_changed) := ⟨rfl, rfl, rfl, by decide +kernel, rfl, by decide +kernel, by decide +kernel⟩

set_option maxHeartbeats 4000000 in
theorem ok_changed {CN Pt f : Addr} {fd : FuncData} (F : Fun K "changed" "changed" s_changed f fd) (nb : NB mg) (D_table_names : Def P w K mg base 1 "table_names" ["tables"] (spNamesOf K)) (D_rows_of : Def P w K mg base 3 "rows_of" ["tables", "content", "table"] (spRowsOf K))
    (D_sets_by_row : Def P w K mg base 4 "sets_by_row" ["tables", "cells"] (spSetsBy K)) (D_with_sets : Def P w K mg base 1 "with_sets" ["row", "sets"] (spWithSets K)) (D_risenX : DefX P w K mg base 3 "_risen" ["table", "rows"] (spRisen K Pt CN)) :
    FnOk P w K mg base (L2.CX P w) 5 f fd ["tables", "content", "gone", "cells", "rows"] (spChanged K Pt CN) := by
  refine F.okX sc_changed (fun vs H Q E h => ?_) (fun cdv A outer sh H vs Q E hr h => ?_)
  · obtain ⟨tp, ts, vc, vg, ve, vn, o, i, r, og, ig, oe, ie, on_, in_, rn, ct, gs, cs, ns, rfl, _⟩ := h
    rfl
  obtain ⟨tp, ts, vc, vg, ve, vn, o, i, r, og, ig, oe, ie, on_, in_, rn, ct, gs, cs, ns, rfl, hTab, hT, hC, hG, hE, hN, hAt, fewG, fewC, fewN, hin, hkN, hkF, q1, q2⟩ := h
  have nd := sc_changed.nd
  refine ⟨_, (pss_cons (ps_setDcT (i := 5) (own := [("table", 12), ("key", 13)]) (g := gSeqB K 2 (gCons (gName 12) (gCons (gName 13) gNil))) (tt := tYes) rfl nd (u65 hr) rfl rfl (sw_dict rfl rfl rfl (by decide +kernel)) (pi_seqB (pv 2)) (blkOk_by (N := N_changed) (sc := defScope s_changed) (by decide +kernel)) (fun _ _ _ _ _ => (pg_seqB rfl (pgs_cons (pg_name (i := 12) nd rfl (Or.inl rfl)) (pgs_cons (pg_name (i := 13) nd rfl (Or.inl rfl)) pgs_nil)))) (fun _ _ _ _ _ => pts_nil) (fun _ _ _ _ _ => (pe_tup (pa_cons (pv 12) (pa_cons (pv 13) pa_nil)))) (fun _ _ _ _ _ => pe_bl))
      (pss_cons (ps_set (i := 6) nd rfl (Or.inl rfl) (pe_own D_sets_by_row hr (pa_cons (pv 0) (pa_cons (pv 3) pa_nil))))
      (pss_cons (ps_set (i := 7) nd rfl (Or.inl rfl) (pe_lst pa_nil))
      (pss_cons (ps_for (passes_of rfl) rfl (pi_list (pe_own D_table_names hr (pa_cons (pv 0) pa_nil))) (pg_name (i := 8) nd rfl (Or.inr rfl))
        (pss_cons (ps_setLc (i := 9) (own := [("table", 12), ("row", 10)]) (g := (gSeqB K 2 (gCons (gName 12) (gCons (gName 10) gNil)))) rfl nd rfl rfl (sw_true rfl rfl rfl (by decide +kernel)) (pi_seqB (pv 4)) (blkOk_by (N := N_changed) (sc := defScope s_changed) (by decide +kernel)) (fun _ _ _ _ _ => (pg_seqB rfl (pgs_cons (pg_name (i := 12) nd rfl (Or.inl rfl)) (pgs_cons (pg_name (i := 10) nd rfl (Or.inl rfl)) pgs_nil)))) (fun _ _ _ _ _ => (pts_one (pt_cmpR op_eq (pv 12) (pv 8) (nomark _)))) (fun _ _ _ _ _ => (pe_callTy (T := "tuple") (r := rTupQ K) call_tuple_of (by rfl) nb.b_tuple (by decide +kernel) (pa_cons (pv 10) pa_nil))))
        (pss_cons (ps_for (passes_of rfl) rfl (pi_list (pe_own D_rows_of hr (pa_cons (pv 0) (pa_cons (pv 1) (pa_cons (pv 8) pa_nil))))) (pg_name (i := 10) nd rfl (Or.inl rfl))
          (pss_cons (ps_set (i := 11) nd rfl (Or.inl rfl) (pe_tup (pa_cons (pv 8) (pa_cons (pe_ix ix_tup (pv 10) pe_int (fun _ _ => rfl)) pa_nil))))
          (pss_one (ps_if (pt_cmp (pc_dnotin (u1 hr) (pv 11) (pv 5)) (by rfl))
            (pss_one (ps_expr (pe_bm PySem.F.plainAttrs_list PySem.F.slot_list_append PySem.F.type_list_append mt_append (pv 9) (pa_cons (pe_own D_with_sets hr (pa_cons (pv 10) (pa_cons (pe_dget2 (u1 hr) (pv 6) (pv 11) (pe_lst pa_nil) ⟨by rfl, by rfl, by rfl, by rfl⟩) pa_nil))) pa_nil))))
            pss_nil))))
        (pss_one (ps_expr (pe_bm PySem.F.plainAttrs_list PySem.F.slot_list_append PySem.F.type_list_append mt_append (pv 7) (pa_cons (pe_ownX D_risenX hr (takes_of rfl rfl rfl rfl) (pa_cons (pv 8) (pa_cons (pv 9) pa_nil))) pa_nil)))))))
      (pss_one (ps_ret (pv 7))))))), ?_⟩
  obtain ⟨tps, eP, tok, tall⟩ := id hTab
  have sub0 := msk_sub [Pt] H
  -- what is gone
  obtain ⟨gp, gx, rfl, hGX, hGA⟩ := seq_dp hG
  have lgx : gx.length = gs.length := by rw [dpAll_len hGA, List.length_map]
  refine ⟨.ref gp, rfl, og, gp, rfl, ⟨gx, hGX.same sub0⟩, fun D1 nD1 => ?_⟩
  refine dcT_it (walk_seqB (b := og) (xs := gx)) (fun j H' => LeftAt H' D1 j (gs.take j) ∧ Same H H') ⟨⟨[], upd_same, Nat.le_refl _, fun _ _ => by simp [valV_nil]⟩, same_upd nD1⟩ (fun j H' _ hP => hGX.same (sub0.trans hP.2)) (fun j y H1 H1' hj hP hY => ?_) (fun H1 hP => ?_)
  · obtain ⟨rfl, hy⟩ := hY
    obtain ⟨hL, s1⟩ := hP
    obtain ⟨d, hd1, hd2⟩ := dpAll_get j hGA hy
    rw [List.getElem?_map] at hd1
    obtain ⟨⟨t, k⟩, hx, rfl⟩ := Option.map_eq_some_iff.mp hd1
    obtain ⟨xp, zs, rfl, hZ, hZA⟩ := seq_dp hd2
    have ez : zs = [.str t, .int k] := by
      cases hZA with
      | cons a1 b1 =>
      cases b1 with
      | cons a2 b2 =>
      cases b2
      cases a1; cases a2; rfl
    subst ez
    refine ⟨ig, xp, _, rfl, hZ.same (sub0.trans s1), rfl, _, _, rfl, _, _, rfl, rfl, rfl, ?_⟩
    unfold tYes
    dsimp only
    refine iteT ⟨.str t, rfl, .int k, rfl, (by show 2 ≤ sizeLine; decide), fun b nb => ?_⟩
    obtain ⟨kvs, eD, lk, ak⟩ := id hL
    have sb := same_upd (o := .tup [.str t, .int k]) nb
    have hL2 : LeftAt (upd H1' b (.tup [.str t, .int k])) D1 j (gs.take j) := ⟨kvs, sb _ _ eD, lk, ak⟩
    refine ⟨b, kvs, keyTK t k, rfl, upd_same, sb _ _ eD, small1000 (by omega), ?_, fun p o' z => ?_⟩
    · rw [List.take_add_one, hx]
      exact hL2.put (sb _ _ eD)
    · have ne : p ≠ D1 := fun w => by rw [w, nD1] at z; cases z
      rw [upd_ne ne]
      exact sb _ _ (s1 _ _ z)
  obtain ⟨hL, s1⟩ := hP
  rw [lgx, List.take_length] at hL
  dsimp only [List.set]
  -- what is to be set
  refine ⟨.ref tp, rfl, ve, rfl, tp, ts, ve, oe, ie, cs, rfl, hT.same (sub0.trans s1), dp_same (sub0.trans s1) hE, hin, fewC, fun D2 H2 s2 nD2 hS => ?_⟩
  dsimp only [List.set]
  refine ⟨Nat.zero_le _, fun D3 nD3 => ?_⟩
  have s3 := same_upd (o := .lst []) nD3
  have eD3 : (upd H2 D3 (.lst [])) D3 = some (.lst []) := upd_same
  have fD3 : H D3 = none := Same.free (s1.trans s2) nD3
  dsimp only [List.set]
  generalize upd H2 D3 (.lst []) = H3 at s3 eD3 ⊢
  obtain ⟨ws, hTS, hTA, lw⟩ := hT.parts
  have s03 := s1.trans (s2.trans s3)
  have m03 := sub0.trans s03
  refine ⟨.ref tp, rfl, tp, ws, ts.map tabD, rfl, sameT m03 hTS, dpAll_same m03 hTA, by rw [List.length_map]; have := hT.l8; omega, strName_tabs ts, fun D4 H4 s4 eD4 => ?_⟩
  rw [namesOf_tabs] at eD4
  have s04 := s03.trans s4
  have eP4 := s04 _ _ eP
  have eD34 := s4 _ _ eD3
  have nP3 : Pt ≠ D3 := fun z => by rw [z, eD34] at eP4; cases eP4
  have nP4 : Pt ≠ D4 := fun z => by rw [z, eD4] at eP4; cases eP4
  have lts : 0 < ts.length := hT.l0
  have n34 : D4 ≠ D3 := fun z => by
    rw [z, eD34] at eD4
    have z1 := congrArg List.length (HO.lst.inj (Option.some.inj eD4))
    rw [List.length_map, List.length_map, List.length_nil] at z1
    omega
  have hL4 : LeftAt H4 D1 gs.length gs := LeftAt.ext (H := H1) (by exact hL) (ExtN.of (s2.trans (s3.trans s4)))
  have hS4 : DomAt K H1 H4 D2 900 (fun t k => setsFor ts cs t k ≠ []) (setsFor ts cs) := DomAt.same hS (s3.trans s4)
  obtain ⟨np, nx, rfl, hNX, hNA⟩ := seq_dp hN
  refine ⟨D4, rfl, ⟨_, .inl (.inl eD4)⟩, ?_⟩
  refine for_it (walk_list (xs := (tns ts).map V.str)) (fun j σ H' => (∃ y8 y9 y10 y11, σ = [some (.ref tp), some vc, some (.ref gp), some ve, some (.ref np), some (.ref D1), some (.ref D2), some (.ref D3), y8, y9, y10, y11, none, none]) ∧
      (∃ us acc, Grow K [Pt] H' D3 us (acc.map rowsD) ∧ acc.length = j ∧ changedR ts ct gs cs ns (tns ts) = joinR acc (changedR ts ct gs cs ns ((tns ts).drop j)) ∧ ∀ u ∈ us, ∃ p ws, u = V.ref p ∧ p ≠ D3 ∧ H p = none ∧ H' p = some (.lst ws) ∧ ws.length ≤ 900) ∧ TabS H' Pt lamQ ∧ Kept [D3, Pt] H4 H')
    ⟨⟨_, _, _, _, rfl⟩, ⟨[], [], ⟨eD34, .nil⟩, rfl, (joinR_nil _).symm, fun _ h => absurd h List.not_mem_nil⟩, hTab.ext s04, Kept.refl _ _⟩ (fun j σ H' _ hP => .inl (.inl (hP.2.2.2.at eD4 (by simp [n34, nP4.symm])))) (fun j y σ H5 H5' hj hP hY => ?_) (fun σ H5 hP => ?_)
  rotate_left
  · obtain ⟨⟨y8, y9, y10, y11, rfl⟩, ⟨us, acc, gr, la, eqc, hnew⟩, hTb, kk⟩ := hP
    rw [List.length_map] at eqc
    have e0 : changedR ts ct gs cs ns ((tns ts).drop (tns ts).length) = .inl [] := by rw [List.drop_length]; rfl
    have k05 : Kept [Pt] H H5 := ((Kept.of_same s04).trans kk).new fD3
    refine ⟨.ref D3, rfl, q1 acc ?_ D3 us H5 k05 hTb fD3 gr.at' gr.dp fun u hu => let ⟨p, ws, e1, _, e2, e3, e4⟩ := hnew u hu; ⟨p, ws, e1, e2, e3, e4⟩⟩
    rw [eqc, e0]
    show Sum.inl (acc ++ []) = _
    rw [List.append_nil]
  obtain ⟨rfl, hy⟩ := hY
  obtain ⟨⟨y8, y9, y10, y11, rfl⟩, ⟨us, acc, gr, la, eqc, hnew⟩, hTb, kk⟩ := hP
  rw [List.getElem?_map] at hy
  obtain ⟨t, ht, rfl⟩ := Option.map_eq_some_iff.mp hy
  have htm : t ∈ tns ts := List.mem_of_getElem? ht
  have k05 : Kept [Pt] H H5' := ((Kept.of_same s04).trans kk).new fD3
  have m5 : Same (msk [Pt] H) H5' := (msk_same k05).trans (msk_sub [Pt] H5')
  obtain ⟨tp5, eP5, _, _⟩ := id hTb
  have x25 : ExtN H2 H5' := extN_of ((Kept.of_same (s3.trans s4)).trans kk) (fun p hp => by
    have hp : p = D3 ∨ p = Pt := by simpa using hp
    rcases hp with rfl | rfl
    · exact .inl nD3
    · exact .inr ⟨_, (s1.trans s2) _ _ eP⟩)
  have hL5 : LeftAt H5' D1 gs.length gs := LeftAt.ext (LeftAt.ext (H := H1) (by exact hL) (ExtN.of s2)) x25
  have hS5 : DomAt K H1 H5' D2 900 (fun t k => setsFor ts cs t k ≠ []) (setsFor ts cs) := DomAt.ext hS x25
  have lnx : nx.length = ns.length := by rw [dpAll_len hNA, List.length_map]
  dsimp only [List.set]
  -- new rows
  refine ⟨.ref np, rfl, on_, np, rfl, ⟨nx, hNX.same m5⟩, fun D5 nD5 => ?_⟩
  have n35 : D3 ≠ D5 := ne_of_none gr.at' nD5
  have nP5 : Pt ≠ D5 := ne_of_none eP5 nD5
  refine lc_it (walk_seqB (b := on_) (xs := nx)) (fun i2 H' => ∃ ws2, Grow K [D3, Pt] H' D5 ws2 ((((ns.take i2).filter fun x => decide (x.1 = t)).map (·.2)).map rowD) ∧ Kept [D5] H5' H') ⟨[], .start, Kept.upd_new nD5⟩ (fun i2 H' _ hP => let ⟨_, _, k6⟩ := hP; hNX.same (m5.trans (keptS k6 nD5))) (fun i2 y2 H6 H6' hi2 hP2 hY2 => ?_) (fun H6 hP2 => ?_)
  · obtain ⟨rfl, hy2⟩ := hY2
    obtain ⟨ws2, gw, k6⟩ := hP2
    obtain ⟨d, hd1, hd2⟩ := dpAll_get i2 hNA hy2
    rw [List.getElem?_map] at hd1
    obtain ⟨⟨t2, row⟩, hx, rfl⟩ := Option.map_eq_some_iff.mp hd1
    obtain ⟨xp, zs, rfl, hZ, hZA⟩ := seq_dp hd2
    have m6 := m5.trans (keptS k6 nD5)
    obtain ⟨x2, ez, hx2⟩ : ∃ x2, zs = [.str t2, x2] ∧ Dp K (msk [Pt] H) x2 (seqD rn (row.map wD)) := by
      cases hZA with
      | cons a1 b1 =>
      cases b1 with
      | cons a2 b2 =>
      cases b2
      cases a1
      exact ⟨_, rfl, a2⟩
    subst ez
    obtain ⟨rp, rus, rfl, hRP, hRA⟩ := seq_dp hx2
    have er : rus = row.map wV := dpAll_ws hRA
    subst er
    have et : (((ns.take (i2 + 1)).filter fun x => decide (x.1 = t)).map (·.2)).map rowD = (((ns.take i2).filter fun x => decide (x.1 = t)).map (·.2)).map rowD ++ (if t2 = t then [rowD row] else []) := by
      rw [List.take_add_one, hx, List.filter_append, List.map_append, List.map_append]
      congr 1
      show ((List.filter _ [(t2, row)]).map _).map _ = _
      rw [List.filter_cons, List.filter_nil]
      by_cases z : t2 = t
      · rw [if_pos (decide_eq_true z), if_pos z]; rfl
      · rw [if_neg (fun q => z (of_decide_eq_true q)), if_neg z]; rfl
    have lws : ws2.length ≤ 900 := by
      rw [gw.len, List.length_map, List.length_map]
      have z1 := List.length_filter_le (fun x : Str × Rw => decide (x.1 = t)) (ns.take i2)
      rw [List.length_take] at z1
      omega
    have o5 : D5 ∉ [D3, Pt] := by simp [n35.symm, nP5.symm]
    have fin : ∀ (a : Addr) (Hq : Hp), Same H6' Hq → SqT K (msk [D5, D3, Pt] Hq) a (row.map wV) → t2 = t → ∃ acc2, Hq D5 = some (.lst acc2) ∧ acc2.length < sizeLine ∧ ∃ ws2, Grow K [D3, Pt] (upd Hq D5 (.lst (acc2 ++ [.ref a]))) D5 ws2 ((((ns.take (i2 + 1)).filter fun x => decide (x.1 = t)).map (·.2)).map rowD) ∧ Kept [D5] H5' (upd Hq D5 (.lst (acc2 ++ [.ref a]))) := by
      intro a Hq sq hq e
      have gq := gw.kept (Kept.of_same sq) o5
      refine ⟨ws2, gq.at', small1000 (by omega), ws2 ++ [.ref a], ?_, k6.trans ((Kept.of_same sq).trans (Kept.upd_in (List.mem_cons_self ..)))⟩
      rw [et, if_pos e]
      exact gq.put (.tup hq (dps_row row))
    have m6m : Same (msk [Pt] H) (msk [D5, D3, Pt] H6') := fun p o' z => by
      have z1 := sub0 p o' z
      have n1 : p ≠ D3 := fun w => by rw [w, fD3] at z1; cases z1
      have n2 : p ≠ D5 := fun w => by have z2 := m5 p o' z; rw [w, nD5] at z2; cases z2
      have n3 : p ≠ Pt := fun w => by rw [w] at z; unfold msk at z; rw [if_pos (List.mem_cons_self ..)] at z; cases z
      exact msk_at (m6 p o' z) (by simp [n1, n2, n3])
    have eD36 : H6' D3 = some (.lst us) := k6.at gr.at' (by simp [n35])
    have eP6 : H6' Pt = some (.tbl tp5) := k6.at eP5 (by simp [nP5])
    refine ⟨in_, xp, _, rfl, hZ.same m6, rfl, _, _, rfl, _, _, rfl, rfl, rfl, ?_⟩
    refine ⟨.str t2, rfl, .str t, rfl, rfl, _, rfl, ite2 (fun e => ?_) (fun e => ?_)⟩
    · have e : t2 = t := V.str.inj (of_decide_eq_true e)
      refine ⟨.ref rp, rfl, rp, row.map wV, rfl, ?_⟩
      cases rn with
      | true => exact .inr ⟨sameT m6 hRP, fin rp H6' (Same.refl _) (sameT m6m hRP) e⟩
      | false =>
        refine .inl ⟨stillL m6 hRP, fun l nl => fin l _ (same_upd nl) (.inl (.inl (msk_at upd_same ?_))) e⟩
        have n1 := ne_of_none gw.at' nl
        have n2 := ne_of_none eD36 nl
        have n3 := ne_of_none eP6 nl
        simp [n1.symm, n2.symm, n3.symm]
    · have e : ¬ t2 = t := fun z => e (by rw [z]; exact decide_eq_true rfl)
      exact ⟨ws2, by rw [et, if_neg e, List.append_nil]; exact gw, k6⟩
  obtain ⟨ws2, gw, k6⟩ := hP2
  rw [lnx, List.take_length] at gw
  have s56 : Same H5' H6 := keptS k6 nD5
  have m6 := m5.trans s56
  have o5 : D5 ∉ [D3, Pt] := by simp [n35.symm, nP5.symm]
  obtain ⟨rs, hA, fewA⟩ := hAt t htm
  refine ⟨.ref tp, rfl, vc, rfl, .str t, rfl, tp, ts, vc, o, i, r, ct, t, rs, rfl, hT.same m6, dp_same m6 hC, hA, fun D6 rus H7 s7 nD6 eD6 hR6 => ?_⟩
  have lrus : rus.length = rs.length := by rw [dpAll_len hR6, List.length_map]
  have g7 := gw.kept (Kept.of_same s7) o5
  have s57 := s56.trans s7
  have n56 : D5 ≠ D6 := ne_of_none gw.at' nD6
  have hL7 := hL5.ext (ExtN.of s57)
  have hS7 := DomAt.ext hS5 (ExtN.of s57)
  refine ⟨D6, rfl, ⟨rus, .inl (.inl eD6)⟩, ?_⟩
  refine for_it (walk_list (xs := rus)) (fun i3 σ H' => (∃ y10 y11, σ = [some (.ref tp), some vc, some (.ref gp), some ve, some (.ref np), some (.ref D1), some (.ref D2), some (.ref D3), some (.str t), some (.ref D5), y10, y11, none, none]) ∧
      (∃ ws3, Grow K [D3, Pt] H' D5 ws3 (((((ns.filter fun x => decide (x.1 = t)).map (·.2))) ++ (((rs.take i3).filter fun r => !decide ((t, keyW r) ∈ gs)).map fun r => setsR r (setsFor ts cs t (keyW r)))).map rowD)) ∧ Kept [D5] H7 H')
    ⟨⟨_, _, rfl⟩, ⟨ws2, by simpa using g7⟩, Kept.refl _ _⟩ (fun i3 σ H' _ hP => .inl (.inl (hP.2.2.at eD6 (by simp [n56.symm])))) (fun i3 y2 σ H8 H8' hi3 hP hY => ?_) (fun σ H8 hP => ?_)
  · obtain ⟨rfl, hy2⟩ := hY
    obtain ⟨⟨y10', y11', rfl⟩, ⟨ws3, g3⟩, k7⟩ := hP
    obtain ⟨row, p, hrow, rfl, hp⟩ := row_at' hR6 hy2
    have okr := hA.ok.row row (List.mem_of_getElem? hrow)
    have lrow := okr.len
    obtain ⟨k, t0, rfl⟩ := okr.key
    have s58 : Same H5' H8' := keptS ((Kept.of_same s57).trans k7) nD5
    have hp8 : SqT K H8' p ((some k :: t0).map wV) := by
      rcases sameT (msk_sub [D6] H7) hp with (z | ⟨o', z⟩) | z
      · exact .inl (.inl (k7.at z (by intro w; rw [List.mem_singleton.mp w, g7.at'] at z; cases z)))
      · exact .inl (.inr ⟨o', k7.at z (by intro w; rw [List.mem_singleton.mp w, g7.at'] at z; cases z)⟩)
      · exact .inr z
    obtain ⟨kl, eL, ll, al⟩ := hL5.ext (ExtN.of s58)
    obtain ⟨kvs, Lf, eD2, lk2, none', some', dist⟩ := DomAt.ext hS5 (ExtN.of s58)
    have et : (((rs.take (i3 + 1)).filter fun r => !decide ((t, keyW r) ∈ gs)).map fun r => setsR r (setsFor ts cs t (keyW r))) = (((rs.take i3).filter fun r => !decide ((t, keyW r) ∈ gs)).map fun r => setsR r (setsFor ts cs t (keyW r))) ++ (if (t, k) ∈ gs then [] else [setsR (some k :: t0) (setsFor ts cs t k)]) := by
      rw [List.take_add_one, hrow, List.filter_append, List.map_append]
      congr 1
      show (List.filter _ [some k :: t0]).map _ = _
      rw [List.filter_cons, List.filter_nil]
      by_cases z : (t, k) ∈ gs
      · rw [if_neg (show ¬ (!decide ((t, keyW (some k :: t0)) ∈ gs)) = true by show ¬ (!decide ((t, k) ∈ gs)) = true; rw [decide_eq_true z]; decide), if_pos z]; rfl
      · rw [if_pos (show (!decide ((t, keyW (some k :: t0)) ∈ gs)) = true by show (!decide ((t, k) ∈ gs)) = true; rw [decide_eq_false z]; rfl), if_neg z]; rfl
    have l3 : ws3.length ≤ 900 := by
      rw [g3.len, List.length_map, List.length_append, List.length_map, List.length_map]
      have z1 := List.length_filter_le (fun x : Str × Rw => decide (x.1 = t)) ns
      have z2 := List.length_filter_le (fun r : Rw => !decide ((t, keyW r) ∈ gs)) (rs.take i3)
      rw [List.length_take] at z2
      omega
    refine ⟨.str t, rfl, .ref p, rfl, p, _, 0, .int k, rfl, rfl, hp8, atI_nat (j := 0) rfl, (by show 2 ≤ sizeLine; decide), fun b nb => ?_⟩
    have sb := same_upd (o := .tup [.str t, .int k]) nb
    have eb : (upd H8' b (.tup [.str t, .int k])) b = some (.tup ((keyTK t k).map kV)) := upd_same
    refine ⟨.ref b, rfl, .ref D1, rfl, D1, valV kl (keyTK t k), rfl, DGet.t (sb _ _ eL) eb, _, rfl, ite2 (fun e => ?_) (fun e => ?_)⟩
    · have ng : (t, k) ∉ gs := fun z => by rw [al t k, decide_eq_true z] at e; cases e
      rw [if_neg ng] at et
      refine ⟨.ref D5, rfl, .inl ⟨rfl, _, .inl (.inl (sb _ _ g3.at'))⟩, .ref p, rfl, .ref D2, rfl, D2, rfl, .inr ⟨kvs, .inl (sb _ _ eD2)⟩, .ref b, rfl, Nat.zero_le _, fun e0 ne0 => ⟨valV kvs (keyTK t k), DGet.t ((same_upd ne0) _ _ (sb _ _ eD2)) ((same_upd ne0) _ _ eb), ?_⟩⟩
      have se := sb.trans (same_upd (o := .lst []) ne0)
      have ee : (upd (upd H8' b (.tup [.str t, .int k])) e0 (.lst [])) e0 = some (.lst []) := upd_same
      generalize upd (upd H8' b (.tup [.str t, .int k])) e0 (.lst []) = H9 at se ee ⊢
      have lt : ∀ s ∈ setsFor ts cs t k, s.1 < (some k :: t0).length := fun s hs => by
        obtain ⟨x, hx, hx2⟩ := List.mem_filterMap.mp hs
        by_cases z : x.1 = t ∧ x.2.1 = k
        · rw [if_pos z] at hx2
          cases hx2
          rw [lrow, ← z.1]
          exact List.idxOf_lt_length_of_mem (hin x hx).2
        · rw [if_neg z] at hx2; cases hx2
      have tail : ∀ (t' : Addr) (Ha : Hp), Same H9 Ha → H9 t' = none → Ha t' = some (.tup ((setsR (some k :: t0) (setsFor ts cs t k)).map wV)) → ∃ ws4, Grow K [D3, Pt] (upd Ha D5 (.lst (ws3 ++ [.ref t']))) D5 ws4 (((((ns.filter fun x => decide (x.1 = t)).map (·.2))) ++ (((rs.take (i3 + 1)).filter fun r => !decide ((t, keyW r) ∈ gs)).map fun r => setsR r (setsFor ts cs t (keyW r)))).map rowD) := fun t' Ha sa nt eT => by
        have ga := g3.kept (Kept.of_same (se.trans sa)) o5
        have f8 : H8' t' = none := Same.free se nt
        have n1 := ne_of_none g3.at' f8
        have n2 := ne_of_none (s58 _ _ gr.at') f8
        have n3 := ne_of_none (s58 _ _ eP5) f8
        refine ⟨ws3 ++ [.ref t'], ?_⟩
        rw [et, ← List.append_assoc, List.map_append]
        exact ga.put (.tup (.inl (.inl (msk_at eT (by simp [n1.symm, n2.symm, n3.symm])))) (dps_row _))
      by_cases z : setsFor ts cs t k = []
      · rw [none' t k (fun w => w z)]
        refine ⟨p, e0, some k :: t0, setsFor ts cs t k, [], rfl, sameT se hp8, .inl (.inl ee), by rw [z]; exact .nil, lt, fun t' Ha sa nt eT => ⟨D5, ws3, .ref t', rfl, rfl, sa _ _ (se _ _ g3.at'), small1000 (by omega), ⟨_, _, rfl⟩, tail t' Ha sa nt eT, k7.trans ((Kept.of_same (se.trans sa)).trans (Kept.upd_in (List.mem_cons_self ..)))⟩⟩
      · obtain ⟨x1, x2, us4, z1, z2⟩ := some' t k z
        rw [x1]
        refine ⟨p, Lf t k, some k :: t0, setsFor ts cs t k, us4, rfl, sameT se hp8, .inl (.inl (se _ _ z1)), dpAll_same se z2, lt, fun t' Ha sa nt eT => ⟨D5, ws3, .ref t', rfl, rfl, sa _ _ (se _ _ g3.at'), small1000 (by omega), ⟨_, _, rfl⟩, tail t' Ha sa nt eT, k7.trans ((Kept.of_same (se.trans sa)).trans (Kept.upd_in (List.mem_cons_self ..)))⟩⟩
    · have yg : (t, k) ∈ gs := by
        have e2 := al t k
        by_cases z : (t, k) ∈ gs
        · exact z
        · rw [decide_eq_false z] at e2
          rw [e2] at e
          exact absurd rfl e
      rw [if_pos yg, List.append_nil] at et
      refine ⟨⟨_, _, rfl⟩, ⟨ws3, ?_⟩, k7.trans (Kept.of_same sb)⟩
      rw [et]
      exact g3.kept (Kept.of_same sb) o5
  · obtain ⟨⟨y10', y11', rfl⟩, ⟨ws3, g3⟩, k7⟩ := hP
    rw [lrus, List.take_length] at g3
    have hrow : ((ct[(tns ts).idxOf t]?).getD []) = rs := by rw [hA.row]; rfl
    have eF : (((ns.filter fun x => decide (x.1 = t)).map (·.2))) ++ ((rs.filter fun r => !decide ((t, keyW r) ∈ gs)).map fun r => setsR r (setsFor ts cs t (keyW r))) = freshR ts ct gs cs ns t := by unfold freshR; rw [hrow]
    have lF : (freshR ts ct gs cs ns t).length ≤ 900 := by
      rw [← eF, List.length_append, List.length_map, List.length_map]
      have z1 := List.length_filter_le (fun x : Str × Rw => decide (x.1 = t)) ns
      have z2 := List.length_filter_le (fun r : Rw => !decide ((t, keyW r) ∈ gs)) rs
      omega
    rw [eF] at g3
    have s58 : Same H5' H8 := keptS ((Kept.of_same s57).trans k7) nD5
    have o3 : D3 ∉ [Pt] := by simp [nP3.symm]
    have gr8 := gr.kept (Kept.of_same s58) o3
    have T8 := hTb.ext s58
    obtain ⟨hj1, hj2⟩ := List.getElem?_eq_some_iff.mp ht
    have edrop : (tns ts).drop j = t :: (tns ts).drop (j + 1) := by rw [List.drop_eq_getElem_cons hj1, hj2]
    rw [edrop] at eqc
    have lus8 : us.length ≤ 8 := by
      rw [gr.len, List.length_map, la]
      have z1 := hT.l8
      rw [List.length_map] at hj1
      omega
    have k08 : Kept [Pt] H H8 := k05.trans (Kept.of_same s58)
    refine ⟨.ref D3, rfl, .inl ⟨rfl, _, .inl (.inl gr8.at')⟩, .str t, rfl, .ref D5, rfl, t, D5, freshR ts ct gs cs ns t, ws3, rfl, T8, g3.at', dpAll_same (msk_less (by intro p hp; simp at hp; simp [hp])) g3.dp, hkF t htm, lF, fun no S vs' H9 k9 T9 nS eS dS => ?_, fun k hk d H9 k9 T9 nd9 => q2 t k (by rw [eqc]; exact changed_stop hk) d H9 (k08.trans k9) T9 nd9⟩
    have gr9 := gr8.kept k9 o3
    have nS3 : D3 ≠ S := ne_of_none gr8.at' nS
    obtain ⟨p8, eP8, _, _⟩ := id T8
    have nSP : Pt ≠ S := ne_of_none eP8 nS
    have hnew2 : ∀ u ∈ us ++ [.ref S], ∃ p ws, u = V.ref p ∧ p ≠ D3 ∧ H p = none ∧ (upd H9 D3 (.lst (us ++ [.ref S]))) p = some (.lst ws) ∧ ws.length ≤ 900 := fun u hu => by
      rcases List.mem_append.mp hu with h | h
      · obtain ⟨p, ws, z1, z2, z3, z4, z5⟩ := hnew u h
        have z8 := s58 _ _ z4
        have npP : p ∉ [Pt] := fun w => by rw [List.mem_singleton.mp w, eP8] at z8; cases z8
        exact ⟨p, ws, z1, z2, z3, by rw [upd_ne z2]; exact k9.at z8 npP, z5⟩
      · refine ⟨S, vs', List.mem_singleton.mp h, nS3.symm, ?_, by rw [upd_ne nS3.symm]; exact eS, ?_⟩
        · cases e : H S with
          | none => rfl
          | some o => have z := k08 S o e (by simp [nSP.symm]); rw [nS] at z; cases z
        · rw [dpAll_len dS, List.length_map]
          unfold riseR
          rw [List.length_mergeSort]
          exact lF
    refine ⟨D3, us, .ref S, rfl, rfl, gr9.at', small1000 (by omega), ⟨_, _, _, _, rfl⟩, ⟨us ++ [.ref S], acc ++ [riseR (freshR ts ct gs cs ns t)], ?_, by rw [List.length_append, la]; rfl, by rw [eqc]; exact changed_step no, hnew2⟩, tab_write T9 gr9.at', kk.trans ((Kept.of_same s58).trans ((k9.mono fun p h => List.mem_cons_of_mem _ h).trans (Kept.upd_in (List.mem_cons_self ..))))⟩
    rw [List.map_append]
    exact gr9.put (.lst (.inl (.inl (msk_at eS (by simp [nS3.symm, nSP.symm])))) (rows_off dS gr9.at'))
end
end TT

set_option Elab.async false
set_option linter.all false
set_option maxRecDepth 100000
namespace TT
open PySem PySem.Spec PyProof.Rows L2 LamX
section
variable {K : PySem.W.Frag} {M : List Addr} {H H' : Hp}
theorem row_key {n : Nat} {r : Rw} (h : RwOk n r) : (r.map wV)[0]? = some (.int (keyW r)) := by
  obtain ⟨k, t, rfl⟩ := h.key
  rfl
/-- a new tuple rests on nothing that is masked -/
theorem out_mask (nM : ∀ p ∈ M, H p ≠ none) {q : Addr} (nq : H q = none) : q ∉ M := fun z => nM q z nq
end
theorem mem_snoc {α : Type} {P : α → Prop} {l : List α} {y : α} (h : ∀ x ∈ l, P x) (hy : P y) : ∀ x ∈ l ++ [y], P x := fun x hx => by
  rcases List.mem_append.mp hx with h1 | h1
  · exact h x h1
  · rw [List.mem_singleton.mp h1]; exact hy
theorem splitS {A R : TS} {D : Ends} {σ0 : L2.St} {H0 : Hp} (Pp : V → Hp → Prop) (st : V → L2.St) (rest : ∀ v H, Pp v H → R D (st v) H) (main : (∀ v H, Pp v H → R D (st v) H) → tSeq A R D σ0 H0) : tSeq A R D σ0 H0 := main rest
def twG (x : Int × Int) : Option Int := if x.1 = x.2 then some x.1 else none
def twL (ks : List Int) : List Int := (ks.zip (ks.drop 1)).filterMap twG
theorem twL_head : ∀ rs : List Rw, (twL (rs.map keyW)).head? = twiceR rs
  | [] => rfl
  | [_] => rfl
  | r :: s :: t => by
    have ih := twL_head (s :: t)
    unfold twL at ih ⊢
    rw [List.map_cons, List.map_cons, List.drop_one, List.tail_cons, List.zip_cons_cons, List.filterMap_cons]
    rw [List.map_cons, List.drop_one, List.tail_cons] at ih
    unfold twiceR twG
    by_cases z : keyW r = keyW s
    · rw [if_pos z, if_pos z]; rfl
    · rw [if_neg z, if_neg z]; exact ih
theorem rise_perm (rs : List Rw) : (riseR rs).Perm rs := List.mergeSort_perm ..
theorem rise_up (rs : List Rw) : ((riseR rs).map keyW).Pairwise (· ≤ ·) := by
  rw [List.pairwise_map]
  refine (List.pairwise_mergeSort (fun a b c h1 h2 => ?_) (fun a b => ?_) rs).imp fun {a b} h => of_decide_eq_true h
  · have := of_decide_eq_true h1
    have := of_decide_eq_true h2
    exact decide_eq_true (by omega)
  · rw [Bool.or_eq_true]
    by_cases z : keyW a ≤ keyW b
    · exact .inl (decide_eq_true z)
    · exact .inr (decide_eq_true (by omega))
theorem keys_same {ks : List Int} {rs fs : List Rw} (hp : ks.Perm (rs.map keyW)) (hs : ks.Pairwise (· ≤ ·)) (h : rs.Perm fs) : ks = (riseR fs).map keyW :=
  List.Perm.eq_of_pairwise (fun x y _ _ h1 h2 => Int.le_antisymm h1 h2) hs (rise_up fs) (hp.trans ((h.map keyW).trans ((rise_perm fs).map keyW).symm))
theorem up_strict : ∀ {rs : List Rw}, (rs.map keyW).Pairwise (· ≤ ·) → twiceR rs = none → (rs.map keyW).Pairwise (· < ·)
  | [], _, _ => .nil
  | [_], _, _ => by simp
  | r :: s :: t, h, n => by
    unfold twiceR at n
    by_cases z : keyW r = keyW s
    · rw [if_pos z] at n; cases n
    rw [if_neg z] at n
    rw [List.map_cons, List.pairwise_cons] at h ⊢
    have ih := up_strict h.2 n
    refine ⟨fun k hk => ?_, ih⟩
    have h1 := h.1 (keyW s) (List.mem_cons_self ..)
    rw [List.map_cons] at hk ih
    rcases List.mem_cons.mp hk with rfl | hk
    · omega
    · have := (List.pairwise_cons.mp ih).1 k hk
      omega
theorem key_inj {rs : List Rw} (h : (rs.map keyW).Pairwise (· < ·)) {a b : Rw} (ha : a ∈ rs) (hb : b ∈ rs) (e : keyW a = keyW b) : a = b := by
  induction rs with
  | nil => cases ha
  | cons r t ih =>
    rw [List.map_cons, List.pairwise_cons] at h
    rcases List.mem_cons.mp ha with rfl | ha'
    · rcases List.mem_cons.mp hb with rfl | hb'
      · rfl
      · have := h.1 _ (List.mem_map.mpr ⟨b, hb', rfl⟩); omega
    · rcases List.mem_cons.mp hb with rfl | hb'
      · have := h.1 _ (List.mem_map.mpr ⟨a, ha', rfl⟩); omega
      · exact ih h.2 ha' hb'
theorem one_row {rs fs : List Rw} (h : rs.Perm fs) (no : twiceR (riseR fs) = none) {r : Rw} (hr : r ∈ riseR fs) : ∃ tl, rs.filter (fun x => decide (keyW x = keyW r)) = r :: tl := by
  have st := up_strict (rise_up fs) no
  have mem : ∀ x, x ∈ rs ↔ x ∈ riseR fs := fun x => (h.trans (rise_perm fs).symm).mem_iff
  have hr2 : r ∈ rs.filter (fun x => decide (keyW x = keyW r)) := List.mem_filter.mpr ⟨(mem r).mpr hr, decide_eq_true rfl⟩
  cases e : rs.filter (fun x => decide (keyW x = keyW r)) with
  | nil => rw [e] at hr2; cases hr2
  | cons y tl =>
    have hy : y ∈ rs.filter (fun x => decide (keyW x = keyW r)) := by rw [e]; exact List.mem_cons_self ..
    obtain ⟨h1, h2⟩ := List.mem_filter.mp hy
    rw [key_inj st ((mem y).mp h1) hr (of_decide_eq_true h2)]
    exact ⟨tl, rfl⟩
/-- a comprehension over what stands for data: some of them, of each something -/
theorem lc_filt {K : PySem.W.Frag} {J : It} {n : Nat} {G : Hp → Prop} {xs : List V} (w : Walk J n G (YAt xs)) {α : Type} {l : List α} (M : List Addr) (hn : n = l.length) (few : l.length ≤ 900) (p : α → Bool) (f : α → PyData) (R : V → α → Prop)
    {g : TG} {tt : TT} {te : TE} {vs : List Nat} {σ : L2.St} {H1 : Hp} {D : Addr} {Qd : Hp → Prop} (nD : H1 D = none) (hG : ∀ H', Kept [D] H1 H' → G H') (hx : ∀ (i : Nat) (x : V), xs[i]? = some x → ∃ a, l[i]? = some a ∧ R x a)
    (step : ∀ (x : V) (a : α) (H' : Hp) (C : V → Hp → Prop) (N : Hp → Prop), a ∈ l → R x a → Kept [D] H1 H' → (∃ ws, H' D = some (.lst ws)) → (p a = true → ∀ y H4, Kept [] H' H4 → Dp K (msk (D :: M) H4) y (f a) → C y H4) → (p a = false → ∀ H4, Kept [] H' H4 → N H4) →
      g x (wipe σ vs) H' fun σ2 H2 => wipe σ2 vs = wipe σ vs ∧ tt σ2 H2 fun b H3 => if b = true then te σ2 H3 C else N H3)
    (fin : ∀ us H2, Grow K M H2 D us ((l.filter p).map f) → Kept [D] H1 H2 → Qd H2) (oD : D ∉ M) :
    ∃ W : Nat → Nat → Hp → Prop, (∃ m, W 0 m (upd H1 D (.lst []))) ∧ ∀ i m H, W i m H →
      (J.stop i H ∧ Qd H) ∨ (J.go i H ∧ ∃ Nx : Hp → Prop, (∀ H', Nx H' → ∃ m', m' < m ∧ W (i + 1) m' H') ∧ ∀ x H', J.yld i H x H' → g x (wipe σ vs) H' fun σ2 H2 => wipe σ2 vs = wipe σ vs ∧ tt σ2 H2 fun b H3 =>
        if b = true then te σ2 H3 fun y H4 => ∃ acc, H4 D = some (.lst acc) ∧ acc.length < sizeLine ∧ Nx (upd H4 D (.lst (acc ++ [y]))) else Nx H3) := by
  refine lc_it w (fun i H' => ∃ us, Grow K M H' D us (((l.take i).filter p).map f) ∧ Kept [D] H1 H') ⟨[], .start, Kept.upd_new nD⟩ (fun i H' _ hP => let ⟨_, _, kk⟩ := hP; hG H' kk) (fun i x H' H'' hi hP hY => ?_) (fun H2 hP => ?_)
  · obtain ⟨rfl, hx1⟩ := hY
    obtain ⟨us, gr, kk⟩ := hP
    obtain ⟨a, h1, h2⟩ := hx i x hx1
    have et : (l.take (i + 1)).filter p = (l.take i).filter p ++ (if p a then [a] else []) := by
      rw [List.take_add_one, h1, List.filter_append]
      congr 1
      show List.filter p [a] = _
      rw [List.filter_cons, List.filter_nil]
    refine step x a H'' _ _ (List.mem_of_getElem? h1) h2 kk ⟨_, gr.at'⟩ (fun hp y H4 k4 hd => ?_) (fun hp H4 k4 => ?_)
    · have g4 := gr.kept (k4.mono fun _ h => absurd h List.not_mem_nil) oD
      refine ⟨us, g4.at', ?_, us ++ [y], ?_, kk.trans ((k4.mono (fun _ h => absurd h List.not_mem_nil)).trans (Kept.upd_in (List.mem_cons_self ..)))⟩
      · rw [gr.len, List.length_map]
        have := List.length_filter_le p (l.take i)
        rw [List.length_take] at this
        exact small1000 (by omega)
      · rw [et, hp, if_pos rfl, List.map_append]
        exact g4.put hd
    · refine ⟨us, ?_, kk.trans (k4.mono (fun _ h => absurd h List.not_mem_nil))⟩
      rw [et, hp, if_neg Bool.false_ne_true, List.append_nil]
      exact gr.kept (k4.mono fun _ h => absurd h List.not_mem_nil) oD
  · obtain ⟨us, gr, kk⟩ := hP
    rw [hn, List.take_length] at gr
    exact fin us H2 gr kk
theorem keptM {H H' : Hp} {D : Addr} (k : Kept [D] H H') (n : H D = none) : Same H (msk [D] H') := fun b o e => by
  have ne : b ∉ [D] := fun z => by rw [List.mem_singleton.mp z, n] at e; cases e
  exact msk_at (k b o e ne) ne
/-- a comprehension with a value for each -/
theorem lc_mapS {J : It} {n : Nat} {G : Hp → Prop} {xs : List V} (w : Walk J n G (YAt xs)) {ys : List V} (hn : ys.length = n) (few : n ≤ 900)
    {g : TG} {te : TE} {vs : List Nat} {σ : L2.St} {H1 : Hp} {D : Addr} {Qd : Hp → Prop} (nD : H1 D = none) (hG : ∀ H', Kept [D] H1 H' → G H')
    (step : ∀ (i : Nat) (x : V) (H' : Hp) (C : V → Hp → Prop) (N : Hp → Prop), xs[i]? = some x → Same H1 H' → (∀ y, ys[i]? = some y → C y H') →
      g x (wipe σ vs) H' fun σ2 H2 => wipe σ2 vs = wipe σ vs ∧ (if true = true then te σ2 H2 C else N H2))
    (fin : ∀ H2, H2 D = some (.lst ys) → Same H1 H2 → Qd H2) :
    ∃ W : Nat → Nat → Hp → Prop, (∃ m, W 0 m (upd H1 D (.lst []))) ∧ ∀ i m H, W i m H →
      (J.stop i H ∧ Qd H) ∨ (J.go i H ∧ ∃ Nx : Hp → Prop, (∀ H', Nx H' → ∃ m', m' < m ∧ W (i + 1) m' H') ∧ ∀ x H', J.yld i H x H' → g x (wipe σ vs) H' fun σ2 H2 => wipe σ2 vs = wipe σ vs ∧ tYes σ2 H2 fun b H3 =>
        if b = true then te σ2 H3 fun y H4 => ∃ acc, H4 D = some (.lst acc) ∧ acc.length < sizeLine ∧ Nx (upd H4 D (.lst (acc ++ [y]))) else Nx H3) := by
  refine lc_it w (fun i H' => H' D = some (.lst (ys.take i)) ∧ Kept [D] H1 H') ⟨upd_same, Kept.upd_new nD⟩ (fun i H' _ hP => hG H' hP.2) (fun i x H' H'' hi hP hY => ?_) (fun H2 hP => ?_)
  · obtain ⟨rfl, hx⟩ := hY
    obtain ⟨eD, kk⟩ := hP
    refine step i x H'' _ (fun H3 => H3 D = some (.lst (ys.take (i + 1))) ∧ Kept [D] H1 H3) hx (keptS kk nD) (fun y hy => ?_)
    refine ⟨_, eD, by rw [List.length_take]; exact small1000 (by omega), ?_, kk.trans (Kept.upd_in (List.mem_cons_self ..))⟩
    rw [upd_same, List.take_add_one, hy]; rfl
  · obtain ⟨eD, kk⟩ := hP
    rw [← hn, List.take_length] at eD
    exact fin H2 eD (keptS kk nD)
theorem sameN {H : Hp} : Same H (msk [] H) := fun p o e => msk_at e List.not_mem_nil
theorem key_at0 {r : Rw} (h : ∃ k t, r = some k :: t) : (r.map wV)[0]? = some (.int (keyW r)) := by
  obtain ⟨k, t, rfl⟩ := h
  rfl
theorem splitT {A B R : TS} {D : Ends} {σ0 : L2.St} {H0 : Hp} (Pp : V → Hp → Prop) (st : V → L2.St) (rest : ∀ v H, Pp v H → R D (st v) H) (main : (∀ v H, Pp v H → R D (st v) H) → tSeq A (tSeq B R) D σ0 H0) : tSeq A (tSeq B R) D σ0 H0 := main rest
theorem gN {i : Nat} {v : V} {σ : L2.St} {H : Hp} {k : L2.St → Hp → Prop} (h : k (σ.set i (some v)) H) : gName i v σ H k := h
theorem tabs5 {ts : List Tab} (h : TabsOk 4 ts) : TabsOk 5 ts := ⟨h.nd, h.nm, fun x hx => ⟨⟨Nat.le_succ_of_le (h.cs x hx).1.top, (h.cs x hx).1.nd, (h.cs x hx).1.nm, (h.cs x hx).1.w, (h.cs x hx).1.key⟩, (h.cs x hx).2⟩⟩
/-- draws leave the table and its code objects -/
theorem tab_drawn {H H' : Hp} {s c Pt : Addr} {q : Str} {T : Nat} (t : TabS H Pt q) (S : StAt H s c T) (k : Kept [s, c] H H') : TabS H' Pt q := by
  obtain ⟨ps, e1, e2, e3⟩ := t
  obtain ⟨⟨_, _, es⟩, _, _, _, ec⟩ := S
  refine ⟨ps, k.at e1 fun z => ?_, e2, fun pos cv h => ?_⟩
  · simp only [List.mem_cons, List.not_mem_nil, or_false] at z
    rcases z with rfl | rfl
    · rw [e1] at es; cases es
    · rw [e1] at ec; cases ec
  · obtain ⟨c0, z1, z2⟩ := e3 pos cv h
    refine ⟨c0, z1, k.at z2 fun z => ?_⟩
    simp only [List.mem_cons, List.not_mem_nil, or_false] at z
    unfold CodeO at z2
    rcases z with rfl | rfl
    · rw [z2] at es; cases es
    · rw [z2] at ec; cases ec
theorem tab_none {H : Hp} {Pt : Addr} {q : Str} (e : H Pt = some (.tbl #[])) : TabS H Pt q := by
  refine ⟨#[], e, ?_, fun pos cv h => by cases h⟩
  exact trivial
structure Sz (B L W D : Nat) (d : PyData) : Prop where
  nice : Nice B L d
  wt : wt d ≤ W
  dep : d.depth ≤ D
theorem Sz.mono {B L W D W' D' : Nat} {d : PyData} (h : Sz B L W D d) (h1 : W ≤ W') (h2 : D ≤ D') : Sz B L W' D' d := ⟨h.nice, Nat.le_trans h.wt h1, Nat.le_trans h.dep h2⟩
theorem sz_seq {B L W D : Nat} (N : Nat) (b : Bool) {ds : List PyData} (h : ∀ d ∈ ds, Sz B L W D d) (l : ds.length ≤ N) (hL : N ≤ L) : Sz B L (6 + N * (W + 3)) (D + 1) (seqD b ds) := by
  have h1 : NiceAll B L ds := niceAll_iff.mpr fun d hd => (h d hd).nice
  have h2 : wtAll ds ≤ N * (W + 3) := Nat.le_trans (wtAll_le fun d hd => (h d hd).wt) (Nat.mul_le_mul_right _ l)
  have h3 : PyData.depthAll ds ≤ D := depthAll_le fun d hd => (h d hd).dep
  cases b
  · exact ⟨⟨Nat.le_trans l hL, h1⟩, Nat.add_le_add_left h2 6, Nat.succ_le_succ h3⟩
  · exact ⟨⟨Nat.le_trans l hL, h1⟩, Nat.add_le_add_left h2 6, Nat.succ_le_succ h3⟩
theorem sz_name {z : Str} (h : NameOk z) {B L : Nat} : Sz B L 92 0 (.str z) := ⟨(name_nice h B L).1, (name_nice h B L).2, Nat.le_refl 0⟩
theorem mem4 {α : Type} {P : α → Prop} {a b c d : α} (ha : P a) (hb : P b) (hc : P c) (hd : P d) : ∀ x ∈ [a, b, c, d], P x := fun x hx => by
  simp only [List.mem_cons, List.not_mem_nil, or_false] at hx
  rcases hx with rfl | rfl | rfl | rfl <;> assumption
theorem mem2 {α : Type} {P : α → Prop} {a b : α} (ha : P a) (hb : P b) : ∀ x ∈ [a, b], P x := fun x hx => by
  simp only [List.mem_cons, List.not_mem_nil, or_false] at hx
  rcases hx with rfl | rfl <;> assumption
theorem twice_mem : ∀ {rs : List Rw} {k : Int}, twiceR rs = some k → ∃ r ∈ rs, keyW r = k
  | r :: s :: t, k, h => by
    unfold twiceR at h
    by_cases z : keyW r = keyW s
    · rw [if_pos z] at h
      exact ⟨r, List.mem_cons_self .., Option.some.inj h⟩
    · rw [if_neg z] at h
      obtain ⟨x, hx, e⟩ := twice_mem h
      exact ⟨x, List.mem_cons_of_mem _ hx, e⟩
-- data sits on no table of code objects
mutual
theorem dp_tab {K : PySem.W.Frag} {M : List Addr} {H : Hp} {Pt : Addr} {ps : Array Value} (e : H Pt = some (.tbl ps)) : ∀ {d : PyData} {v : V}, Dp K (msk M H) v d → Dp K (msk (Pt :: M) H) v d
  | _, _, .non => .non
  | _, _, .bl b => .bl b
  | _, _, .int i => .int i
  | _, _, .str x => .str x
  | _, _, .lst h a => .lst (by
      have go : ∀ (p : Addr) (o : HO), (∀ qs, o ≠ .tbl qs) → msk M H p = some o → msk (Pt :: M) H p = some o := fun p o n e1 => by
        have e2 := msk_sub M H p o e1
        have ne : p ≠ Pt := fun w => by rw [w, e] at e2; exact n ps (Option.some.inj e2).symm
        have nM : p ∉ M := fun w => by unfold msk at e1; rw [if_pos w] at e1; cases e1
        exact msk_at e2 (by simp [ne, nM])
      rcases h with (h | ⟨o, h⟩) | h
      · exact .inl (.inl (go _ _ (fun _ z => by cases z) h))
      · exact .inl (.inr ⟨o, go _ _ (fun _ z => by cases z) h⟩)
      · exact .inr h) (dpAll_tab e a)
  | _, _, .tup h a => .tup (by
      have go : ∀ (p : Addr) (o : HO), (∀ qs, o ≠ .tbl qs) → msk M H p = some o → msk (Pt :: M) H p = some o := fun p o n e1 => by
        have e2 := msk_sub M H p o e1
        have ne : p ≠ Pt := fun w => by rw [w, e] at e2; exact n ps (Option.some.inj e2).symm
        have nM : p ∉ M := fun w => by unfold msk at e1; rw [if_pos w] at e1; cases e1
        exact msk_at e2 (by simp [ne, nM])
      rcases h with (h | ⟨o, h⟩) | h
      · exact .inl (.inl (go _ _ (fun _ z => by cases z) h))
      · exact .inl (.inr ⟨o, go _ _ (fun _ z => by cases z) h⟩)
      · exact .inr h) (dpAll_tab e a)
theorem dpAll_tab {K : PySem.W.Frag} {M : List Addr} {H : Hp} {Pt : Addr} {ps : Array Value} (e : H Pt = some (.tbl ps)) : ∀ {ds : List PyData} {vs : List V}, DpAll K (msk M H) vs ds → DpAll K (msk (Pt :: M) H) vs ds
  | _, _, .nil => .nil
  | _, _, .cons h t => .cons (dp_tab e h) (dpAll_tab e t)
end
theorem dp_pt {K : PySem.W.Frag} {H : Hp} {Pt : Addr} {ps : Array Value} (e : H Pt = some (.tbl ps)) {d : PyData} {v : V} (h : Dp K H v d) : Dp K (msk [Pt] H) v d := dp_tab e (dp_same sameN h)
/-- what stood ahead of a change stands behind it -/
theorem dp_over {K : PySem.W.Frag} {H H' : Hp} {Pt : Addr} {q : Str} (t : TabS H Pt q) (k : Kept [Pt] H H') {d : PyData} {v : V} (h : Dp K H v d) : Dp K H' v d := by
  obtain ⟨ps, e, _, _⟩ := t
  exact dp_same ((msk_same k).trans (msk_sub _ _)) (dp_pt e h)
theorem dp_overM {K : PySem.W.Frag} {M : List Addr} {H H' : Hp} {Pt : Addr} {q : Str} (t : TabS H Pt q) (k : Kept [Pt] H H') {d : PyData} {v : V} (h : Dp K (msk M H) v d) : Dp K (msk M H') v d := by
  obtain ⟨ps, e, _, _⟩ := t
  exact dp_same ((msk_same (k.mono fun p hp => by rw [List.mem_singleton.mp hp]; exact List.mem_cons_self ..)).trans (msk_less fun p hp => List.mem_cons_of_mem _ hp)) (dp_tab e h)
theorem st_over {H H' : Hp} {s c Pt : Addr} {q : Str} {T : Nat} (t : TabS H Pt q) (k : Kept [Pt] H H') (S : StAt H s c T) : StAt H' s c T := by
  obtain ⟨ps, e, _, _⟩ := t
  obtain ⟨⟨t', a, b⟩, ns, a1, b1, c1⟩ := S
  refine ⟨⟨t', a, k.at b fun z => by rw [List.mem_singleton.mp z, e] at b; cases b⟩, ns, a1, b1, k.at c1 fun z => by rw [List.mem_singleton.mp z, e] at c1; cases c1⟩
end TT

set_option Elab.async false
set_option linter.all false
set_option maxRecDepth 100000
namespace TT
open PySem PySem.Spec PyProof.Rows L2 LamX
/-! ### a deed's own part, as lists; what comes of it -/
def goneT (x : Str × Int) : PyData := .tuple [.str x.1, .int x.2]
def cellT (x : Cell) : PyData := .tuple [.str x.1, .int x.2.1, .str x.2.2.1, wD x.2.2.2]
def newT (x : Str × Rw) : PyData := .tuple [.str x.1, rowD x.2]
def goneR (zs : List Str) (rs : List Rw) : Deed → List (Str × Int)
  | .drop t k => [(t, k)]
  | .sweep t col o => (rs.filter fun r => decide (cellAt zs col r = o)).map fun r => (t, keyW r)
  | _ => []
def cellR (zs : List Str) (rs : List Rw) : Deed → List Cell
  | .set t k col o => (rs.filter fun r => decide (keyW r = k) && !decide (cellAt zs col r = o)).map fun r => (t, k, col, o)
  | .shift t col b => if b = 0 then [] else (rs.filter fun r => !decide (cellAt zs col r = none)).map fun r => (t, keyW r, col, (cellAt zs col r).map (· + b))
  | _ => []
def putR : Deed → List (Str × Rw)
  | .put t r => [(t, r)]
  | _ => []
def refR (rs : List Rw) : Deed → Bool
  | .put _ r => decide (keyW r ∈ rs.map keyW)
  | .drop _ k => !decide (k ∈ rs.map keyW)
  | .set _ k _ _ => !decide (k ∈ rs.map keyW)
  | _ => false
theorem own_told {zs : List Str} {rs : List Rw} {dd : Deed} (h : refR rs dd = false) : own zs rs dd = .told ((goneR zs rs dd).map goneT) ((cellR zs rs dd).map cellT) ((putR dd).map newT) := by
  cases dd with
  | put t r =>
    have h := of_decide_eq_false h
    show (if keyW r ∈ rs.map keyW then _ else _) = _
    rw [if_neg h]; rfl
  | drop t k =>
    have h : decide (k ∈ rs.map keyW) = true := by revert h; show (!decide (k ∈ rs.map keyW)) = false → _; cases decide (k ∈ rs.map keyW) <;> simp
    show (if k ∈ rs.map keyW then _ else _) = _
    rw [if_pos (of_decide_eq_true h)]; rfl
  | sweep t col o =>
    show OwnR.told _ [] [] = OwnR.told (((rs.filter _).map _).map _) [] []
    rw [List.map_map]; rfl
  | shift t col b =>
    show OwnR.told [] _ [] = OwnR.told [] ((if b = 0 then [] else _).map _) []
    by_cases z : b = 0
    · rw [if_pos z, if_pos z]; rfl
    · rw [if_neg z, if_neg z, List.map_map]; rfl
  | set t k col o =>
    have h : decide (k ∈ rs.map keyW) = true := by revert h; show (!decide (k ∈ rs.map keyW)) = false → _; cases decide (k ∈ rs.map keyW) <;> simp
    show (if k ∈ rs.map keyW then _ else _) = OwnR.told [] (((rs.filter _).map _).map _) []
    rw [if_pos (of_decide_eq_true h), List.map_map]; rfl
theorem own_refused {zs : List Str} {rs : List Rw} {dd : Deed} (h : refR rs dd = true) : (∃ t k, own zs rs dd = .norow t k) ∨ ∃ t k, own zs rs dd = .taken t k := by
  cases dd with
  | put t r =>
    have h := of_decide_eq_true h
    exact .inr ⟨t, keyW r, if_pos h⟩
  | drop t k =>
    have h : decide (k ∈ rs.map keyW) = false := by revert h; show (!decide (k ∈ rs.map keyW)) = true → _; cases decide (k ∈ rs.map keyW) <;> simp
    exact .inl ⟨t, k, if_neg (of_decide_eq_false h)⟩
  | sweep t col o => cases h
  | shift t col b => cases h
  | set t k col o =>
    have h : decide (k ∈ rs.map keyW) = false := by revert h; show (!decide (k ∈ rs.map keyW)) = true → _; cases decide (k ∈ rs.map keyW) <;> simp
    exact .inl ⟨t, k, if_neg (of_decide_eq_false h)⟩
/-- the rows of the deed's table behind it -/
def stepR (zs : List Str) : Deed → Rw → Option Rw
  | .put _ _, r => some r
  | .drop _ k, r => if keyW r = k then none else some r
  | .sweep _ c o, r => if cellAt zs c r = o then none else some r
  | .shift _ c b, r => some (match cellAt zs c r with | some x => r.set (zs.idxOf c) (some (x + b)) | none => r)
  | .set _ k c o, r => some (if keyW r = k then r.set (zs.idxOf c) o else r)
def madeR (zs : List Str) (rs : List Rw) (dd : Deed) : List Rw := rs.filterMap (stepR zs dd) ++ (putR dd).map (·.2)
theorem filt_map {α β : Type} {p : α → Bool} {f : α → β} {g : α → Option β} : ∀ {l : List α}, (∀ x ∈ l, g x = if p x = true then some (f x) else none) → (l.filter p).map f = l.filterMap g
  | [], _ => rfl
  | a :: l, h => by
    have ih := filt_map (l := l) fun x hx => h x (List.mem_cons_of_mem _ hx)
    rw [List.filter_cons, List.filterMap_cons, h a (List.mem_cons_self ..)]
    cases p a with
    | true => rw [if_pos rfl, if_pos rfl, List.map_cons, ih]
    | false => rw [if_neg Bool.false_ne_true, if_neg Bool.false_ne_true, ih]
theorem set_self {r : Rw} {i : Nat} {o : Option Int} (hi : i < r.length) (h : r.getD i none = o) : r.set i o = r := by
  rw [List.getD_eq_getElem?_getD, List.getElem?_eq_getElem hi] at h
  have h : r[i] = o := h
  rw [← h, List.set_getElem_self]
section
variable {ts : List Tab} {ct : List (List Rw)} {dd : Deed} {rs : List Rw}
theorem setsFor_one {ts : List Tab} {t : Str} {rs : List Rw} {n : Nat} (ok : RwsOk n rs) {row : Rw} (hr : row ∈ rs) (p : Rw → Bool) (f : Rw → Option Int) (col : Str) :
    setsFor ts ((rs.filter p).map fun r => (t, keyW r, col, f r)) t (keyW row) = if p row = true then [((cns ts t).idxOf col, f row)] else [] := by
  unfold setsFor
  rw [List.filterMap_map]
  have e : (rs.filter p).filterMap ((fun x : Cell => if x.1 = t ∧ x.2.1 = keyW row then some ((cns ts t).idxOf x.2.2.1, x.2.2.2) else none) ∘ fun r => (t, keyW r, col, f r)) = (rs.filter fun r => decide (keyW r = keyW row) && p r).map fun r => ((cns ts t).idxOf col, f r) := by
    rw [filt_map (g := fun r => if (decide (keyW r = keyW row) && p r) = true then some ((cns ts t).idxOf col, f r) else none) fun x _ => rfl]
    clear ok hr
    induction rs with
    | nil => rfl
    | cons a l ih =>
      rw [List.filter_cons, List.filterMap_cons]
      cases h : p a with
      | true =>
        rw [if_pos rfl, List.filterMap_cons, ih]
        by_cases z : keyW a = keyW row
        · simp [z]
        · simp [z]
      | false =>
        rw [if_neg Bool.false_ne_true, ih]
        simp
  rw [e, filt_key ok hr]
  cases p row <;> rfl
theorem kept_rows (hA : At ts ct (tabOf dd) rs) (okd : DeedOk ts dd) :
    ((rs.filter fun r => !decide ((tabOf dd, keyW r) ∈ goneR (cns ts (tabOf dd)) rs dd)).map fun r => setsR r (setsFor ts (cellR (cns ts (tabOf dd)) rs dd) (tabOf dd) (keyW r))) = rs.filterMap (stepR (cns ts (tabOf dd)) dd) := by
  refine filt_map fun r hr => ?_
  have okr := hA.ok.row r hr
  have key1 : ∀ r2 ∈ rs, keyW r2 = keyW r → r2 = r := fun r2 h2 e => key_inj hA.ok.up h2 hr e
  cases dd with
  | put t row => rfl
  | drop t k =>
    show (if keyW r = k then none else some r) = if (!decide ((t, keyW r) ∈ [(t, k)])) = true then some r else none
    by_cases z : keyW r = k
    · rw [if_pos z, if_neg (by rw [z]; simp)]
    · rw [if_neg z, if_pos (by simp [z])]
  | sweep t c o =>
    show (if cellAt (cns ts t) c r = o then none else some r) = if (!decide ((t, keyW r) ∈ (rs.filter fun r => decide (cellAt (cns ts t) c r = o)).map fun r => (t, keyW r))) = true then some r else none
    by_cases z : cellAt (cns ts t) c r = o
    · have : (t, keyW r) ∈ (rs.filter fun r => decide (cellAt (cns ts t) c r = o)).map fun r => (t, keyW r) := List.mem_map.mpr ⟨r, List.mem_filter.mpr ⟨hr, decide_eq_true z⟩, rfl⟩
      rw [if_pos z, if_neg (by rw [decide_eq_true this]; decide)]
    · have : (t, keyW r) ∉ (rs.filter fun r => decide (cellAt (cns ts t) c r = o)).map fun r => (t, keyW r) := fun w => by
        obtain ⟨r2, h2, e2⟩ := List.mem_map.mp w
        obtain ⟨h3, h4⟩ := List.mem_filter.mp h2
        rw [key1 r2 h3 (Prod.mk.inj e2).2] at h4
        exact z (of_decide_eq_true h4)
      rw [if_neg z, if_pos (by rw [decide_eq_false this]; rfl)]
  | shift t c b =>
    obtain ⟨ht, hc⟩ := okd
    have lt : (cns ts t).idxOf c < r.length := by rw [okr.len]; exact List.idxOf_lt_length_of_mem hc
    show some (match cellAt (cns ts t) c r with | some x => r.set ((cns ts t).idxOf c) (some (x + b)) | none => r) = some (setsR r (setsFor ts (if b = 0 then [] else (rs.filter fun r => !decide (cellAt (cns ts t) c r = none)).map fun r => (t, keyW r, c, (cellAt (cns ts t) c r).map (· + b))) t (keyW r)))
    congr 1
    by_cases z : b = 0
    · rw [if_pos z, z]
      show _ = r
      cases e : cellAt (cns ts t) c r with
      | none => rfl
      | some x => exact set_self lt (by rw [show x + 0 = x from Int.add_zero x]; exact e)
    · rw [if_neg z, setsFor_one hA.ok hr]
      cases e : cellAt (cns ts t) c r with
      | none => rfl
      | some x => rfl
  | set t k c o =>
    obtain ⟨ht, hc, _⟩ := okd
    have lt : (cns ts t).idxOf c < r.length := by rw [okr.len]; exact List.idxOf_lt_length_of_mem hc
    show some (if keyW r = k then r.set ((cns ts t).idxOf c) o else r) = some (setsR r (setsFor ts ((rs.filter fun r => decide (keyW r = k) && !decide (cellAt (cns ts t) c r = o)).map fun r => (t, k, c, o)) t (keyW r)))
    congr 1
    by_cases z : keyW r = k
    · rw [if_pos z]
      have e : ((rs.filter fun r => decide (keyW r = k) && !decide (cellAt (cns ts t) c r = o)).map fun r => ((t, k, c, o) : Cell)) = (rs.filter fun r => decide (keyW r = k) && !decide (cellAt (cns ts t) c r = o)).map fun r => (t, keyW r, c, o) := List.map_congr_left fun x hx => by
        have := (List.mem_filter.mp hx).2
        rw [Bool.and_eq_true] at this
        rw [of_decide_eq_true this.1]
      rw [e, setsFor_one hA.ok hr _ (fun _ => o)]
      by_cases q : cellAt (cns ts t) c r = o
      · rw [if_neg (by rw [decide_eq_true q]; simp)]
        exact set_self lt q
      · rw [if_pos (by rw [decide_eq_true z, decide_eq_false q]; rfl)]; rfl
    · rw [if_neg z]
      have e : setsFor ts ((rs.filter fun r => decide (keyW r = k) && !decide (cellAt (cns ts t) c r = o)).map fun r => (t, k, c, o)) t (keyW r) = [] := List.filterMap_eq_nil_iff.mpr fun x hx => by
        obtain ⟨r2, _, rfl⟩ := List.mem_map.mp hx
        exact if_neg fun w => z w.2.symm
      rw [e]; rfl
def freshD (ts : List Tab) (ct : List (List Rw)) (rs : List Rw) (dd : Deed) (t : Str) : List Rw := freshR ts ct (goneR (cns ts (tabOf dd)) rs dd) (cellR (cns ts (tabOf dd)) rs dd) (putR dd) t
theorem made_fresh (hA : At ts ct (tabOf dd) rs) (okd : DeedOk ts dd) : (madeR (cns ts (tabOf dd)) rs dd).Perm (freshD ts ct rs dd (tabOf dd)) := by
  unfold madeR freshD freshR
  rw [hA.row, show (some rs).getD [] = rs from rfl, kept_rows hA okd]
  have e : ((putR dd).filter fun x => decide (x.1 = tabOf dd)) = putR dd := List.filter_eq_self.mpr fun x hx => by
    cases dd with
    | put t0 r0 =>
      rw [List.mem_singleton.mp hx]
      exact decide_eq_true rfl
    | _ => cases hx
  rw [e]
  exact List.perm_append_comm
theorem fresh_else {t : Str} {rt : List Rw} (ne : t ≠ tabOf dd) (h : ct[(tns ts).idxOf t]? = some rt) : freshD ts ct rs dd t = rt := by
  unfold freshD freshR
  rw [h]
  have e1 : ((putR dd).filter fun x => decide (x.1 = t)) = [] := List.filter_eq_nil_iff.mpr fun x hx => by
    cases dd with
    | put t0 r0 =>
      rw [List.mem_singleton.mp hx]
      exact fun w => ne (of_decide_eq_true w).symm
    | _ => cases hx
  have e2 : ∀ k, (t, k) ∉ goneR (cns ts (tabOf dd)) rs dd := fun k hk => by
    cases dd with
    | drop t0 k0 => exact ne (Prod.mk.inj (List.mem_singleton.mp hk)).1
    | sweep t0 c o =>
      obtain ⟨r, _, e⟩ := List.mem_map.mp hk
      exact ne (Prod.mk.inj e).1.symm
    | _ => cases hk
  have e3 : ∀ k, setsFor ts (cellR (cns ts (tabOf dd)) rs dd) t k = [] := fun k => List.filterMap_eq_nil_iff.mpr fun x hx => by
    refine if_neg fun w => ne ?_
    rw [← w.1]
    cases dd with
    | set t0 k0 c o =>
      obtain ⟨r, _, e⟩ := List.mem_map.mp hx
      rw [← e]; rfl
    | shift t0 c b =>
      have hx : x ∈ (if b = 0 then [] else _) := hx
      by_cases z : b = 0
      · rw [if_pos z] at hx; cases hx
      · rw [if_neg z] at hx
        obtain ⟨r, _, e⟩ := List.mem_map.mp hx
        rw [← e]; rfl
    | _ => cases hx
  rw [e1]
  show [] ++ (rt.filter _).map _ = rt
  rw [List.nil_append]
  have e4 : (rt.filter fun r => !decide ((t, keyW r) ∈ goneR (cns ts (tabOf dd)) rs dd)) = rt := List.filter_eq_self.mpr fun r _ => by rw [decide_eq_false (e2 _)]; rfl
  rw [e4]
  have e5 : (fun r => setsR r (setsFor ts (cellR (cns ts (tabOf dd)) rs dd) t (keyW r))) = fun r => r := funext fun r => by rw [e3]; rfl
  rw [e5]
  exact List.map_id' rt
end
theorem rise_id {rs : List Rw} (h : (rs.map keyW).Pairwise (· < ·)) : riseR rs = rs := by
  refine List.Perm.eq_of_pairwise (le := fun a b => keyW a ≤ keyW b) (fun a b ha hb h1 h2 => key_inj h ((rise_perm rs).mem_iff.mp ha) hb (by omega)) (List.pairwise_map.mp (rise_up rs)) ((List.pairwise_map.mp h).imp fun w => by omega) (rise_perm rs)
theorem twice_none {rs : List Rw} (h : (rs.map keyW).Pairwise (· < ·)) : twiceR rs = none := by
  match rs, h with
  | [], _ => rfl
  | [_], _ => rfl
  | r :: s :: t, h =>
    rw [List.map_cons, List.pairwise_cons] at h
    unfold twiceR
    rw [if_neg (fun z => by have := h.1 (keyW s) (List.mem_cons_self ..); omega)]
    exact twice_none h.2
theorem twice_nodup : ∀ {rs : List Rw} {k : Int}, twiceR rs = some k → ¬ (rs.map keyW).Nodup
  | r :: s :: t, k, h => by
    unfold twiceR at h
    rw [List.map_cons, List.nodup_cons]
    by_cases z : keyW r = keyW s
    · exact fun w => w.1 (by rw [z]; exact List.mem_cons_self ..)
    · rw [if_neg z] at h
      exact fun w => twice_nodup h w.2
def twiceD (ts : List Tab) (ct : List (List Rw)) (rs : List Rw) (dd : Deed) : Option Int := twiceR (riseR (freshD ts ct rs dd (tabOf dd)))
def nextR (ts : List Tab) (ct : List (List Rw)) (rs : List Rw) (dd : Deed) : List (List Rw) := ct.set ((tns ts).idxOf (tabOf dd)) (riseR (freshD ts ct rs dd (tabOf dd)))
theorem changed_list {ts : List Tab} {ct : List (List Rw)} {dd : Deed} {rs : List Rw} (f : Str → List Rw) (hf : ∀ t ∈ tns ts, t ≠ tabOf dd → freshD ts ct rs dd t = f t ∧ ((f t).map keyW).Pairwise (· < ·)) : ∀ l : List Str, (∀ t ∈ l, t ∈ tns ts) →
    (tabOf dd ∉ l ∨ twiceD ts ct rs dd = none → changedR ts ct (goneR (cns ts (tabOf dd)) rs dd) (cellR (cns ts (tabOf dd)) rs dd) (putR dd) l = .inl (l.map fun t => if t = tabOf dd then riseR (freshD ts ct rs dd (tabOf dd)) else f t)) ∧
    (tabOf dd ∈ l → ∀ k, twiceD ts ct rs dd = some k → changedR ts ct (goneR (cns ts (tabOf dd)) rs dd) (cellR (cns ts (tabOf dd)) rs dd) (putR dd) l = .inr (tabOf dd, k))
  | [], _ => ⟨fun _ => rfl, fun h => absurd h List.not_mem_nil⟩
  | t :: l, hl => by
    obtain ⟨i1, i2⟩ := changed_list f hf l fun x hx => hl x (List.mem_cons_of_mem _ hx)
    have e0 : ∀ x, changedR ts ct (goneR (cns ts (tabOf dd)) rs dd) (cellR (cns ts (tabOf dd)) rs dd) (putR dd) (t :: l) = x ↔ (match twiceR (riseR (freshD ts ct rs dd t)) with | some k => .inr (t, k) | none => match changedR ts ct (goneR (cns ts (tabOf dd)) rs dd) (cellR (cns ts (tabOf dd)) rs dd) (putR dd) l with | .inl rs' => .inl (riseR (freshD ts ct rs dd t) :: rs') | .inr e => .inr e) = x := fun x => Iff.rfl
    by_cases z : t = tabOf dd
    · subst z
      refine ⟨fun h => ?_, fun _ k hk => ?_⟩
      · have no : twiceD ts ct rs dd = none := h.resolve_left fun w => w (List.mem_cons_self ..)
        rw [e0, show twiceR (riseR (freshD ts ct rs dd (tabOf dd))) = none from no, i1 (.inr no), List.map_cons, if_pos rfl]
      · rw [e0, show twiceR (riseR (freshD ts ct rs dd (tabOf dd))) = some k from hk]
    · obtain ⟨g1, g2⟩ := hf t (hl t (List.mem_cons_self ..)) z
      have g3 : twiceR (riseR (freshD ts ct rs dd t)) = none := by rw [g1, rise_id g2]; exact twice_none g2
      refine ⟨fun h => ?_, fun h k hk => ?_⟩
      · rw [e0, g3, i1 (h.imp_left fun w q => w (List.mem_cons_of_mem _ q)), List.map_cons, if_neg z, g1, rise_id g2]
      · have h2 : tabOf dd ∈ l := (List.mem_cons.mp h).resolve_left fun w => z w.symm
        rw [e0, g3, i2 h2 k hk]
theorem changed_next {ts : List Tab} {ct : List (List Rw)} {L : Nat} {dd : Deed} {rs : List Rw} (okt : TabsOk 5 ts) (okc : ContOk L ts ct) (hA : At ts ct (tabOf dd) rs) :
    (twiceD ts ct rs dd = none → changedR ts ct (goneR (cns ts (tabOf dd)) rs dd) (cellR (cns ts (tabOf dd)) rs dd) (putR dd) (tns ts) = .inl (nextR ts ct rs dd)) ∧
    (∀ k, twiceD ts ct rs dd = some k → changedR ts ct (goneR (cns ts (tabOf dd)) rs dd) (cellR (cns ts (tabOf dd)) rs dd) (putR dd) (tns ts) = .inr (tabOf dd, k)) := by
  have hl : ∀ (i : Nat) (t : Str), (tns ts)[i]? = some t → (tns ts).idxOf t = i := fun i t h => by
    obtain ⟨lt1, z2⟩ := List.getElem?_eq_some_iff.mp h
    rw [← z2]; exact okt.nd.idxOf_getElem _ _
  obtain ⟨h1, h2⟩ := changed_list (ts := ts) (ct := ct) (dd := dd) (rs := rs) (fun t => (ct[(tns ts).idxOf t]?).getD []) (fun t ht ne => by
    obtain ⟨i, hi⟩ := List.getElem?_of_mem ht
    have e := hl i t hi
    have li := (List.getElem?_eq_some_iff.mp hi).1
    have li2 : i < ts.length := by rw [List.length_map] at li; exact li
    obtain ⟨tb, htb⟩ : ∃ x, ts[i]? = some x := ⟨_, List.getElem?_eq_getElem li2⟩
    obtain ⟨rt, hrt⟩ : ∃ x, ct[i]? = some x := ⟨_, List.getElem?_eq_getElem (by rw [okc.len]; exact li2)⟩
    rw [e, hrt]
    exact ⟨fresh_else ne (by rw [e]; exact hrt), (okc.rows i tb rt htb hrt).up⟩) (tns ts) (fun _ h => h)
  refine ⟨fun no => ?_, fun k hk => h2 hA.mem k hk⟩
  rw [h1 (.inr no)]
  congr 1
  unfold nextR
  refine List.ext_getElem? fun i => ?_
  rw [List.getElem?_map, List.getElem?_set]
  by_cases li : i < (tns ts).length
  · obtain ⟨t, ht⟩ : ∃ t, (tns ts)[i]? = some t := ⟨_, List.getElem?_eq_getElem li⟩
    have e := hl i t ht
    rw [ht]
    show some (if t = tabOf dd then _ else (ct[(tns ts).idxOf t]?).getD []) = _
    by_cases z : t = tabOf dd
    · rw [if_pos z, ← z, if_pos e, if_pos (by rw [okc.len, e, ← tns_len (ts := ts)]; exact li)]
    · have ne : (tns ts).idxOf (tabOf dd) ≠ i := fun w => z (by
        have l2 : (tns ts).idxOf (tabOf dd) < (tns ts).length := List.idxOf_lt_length_of_mem hA.mem
        have e3 : (tns ts)[(tns ts).idxOf (tabOf dd)]? = some (tabOf dd) := by rw [List.getElem?_eq_getElem l2, List.getElem_idxOf]
        rw [w, ht] at e3
        exact Option.some.inj e3)
      rw [if_neg z, if_neg ne, e]
      obtain ⟨rt, hrt⟩ : ∃ x, ct[i]? = some x := ⟨_, List.getElem?_eq_getElem (by rw [okc.len, ← tns_len (ts := ts)]; exact li)⟩
      rw [hrt]; rfl
  · have l3 : (tns ts)[i]? = none := List.getElem?_eq_none (by omega)
    have l4 : ct[i]? = none := List.getElem?_eq_none (by rw [okc.len, ← tns_len (ts := ts)]; omega)
    have ne : (tns ts).idxOf (tabOf dd) ≠ i := fun w => li (by rw [← w]; exact List.idxOf_lt_length_of_mem hA.mem)
    rw [l3, if_neg ne, l4]; rfl
end TT

set_option Elab.async false
set_option linter.all false
set_option maxRecDepth 100000
namespace TT
open PySem PySem.Spec PyProof.Rows L2
section
variable {prog : Program} {w : World} {A : Around} {E : Value → Shared → Prop} {s : Shared}
theorem ints_at {us : List Value} {xs : List Int} (r : Vals (xs.map V.int) us) (i : Nat) (v : Value) (e : us[i]? = some v) : ∃ k t, xs[i]? = some k ∧ v = .int k t := by
  have hl : xs.length = us.length := by rw [← r.length, List.length_map]
  have hi : i < xs.length := by rw [hl]; exact (List.getElem?_eq_some_iff.mp e).1
  obtain ⟨u, h1, t, h2⟩ := r.get (i := i) (x := .int xs[i]) (by rw [List.getElem?_map, List.getElem?_eq_getElem hi]; rfl)
  rw [e] at h1
  cases h1
  exact ⟨_, t, List.getElem?_eq_getElem hi, h2⟩
abbrev bareSetI (led : Bool) : Obj := { cls := .type "set", dict := none, data := .set #[] 0 (.fresh 0 0 led) }
set_option maxHeartbeats 4000000 in
/-- set(xs), xs a list of whole numbers -/
theorem call_set_listI {l : Addr} {items : Array Value} {ns : List Int} {Q : Value → Shared → Prop} (hh : A.handled = none) (hl : s.heap.IsList l items) (hi : Vals (ns.map V.int) items.toList) (hb : ns.length + 1 < scanBound)
    (q : ∀ (h' : Heap) (tk c : Nat), SetR w h' s.heap.objs.size (fun j => decide (j ∈ ns)) c → c ≤ ns.length → (∀ b o, s.heap.get? b = some o → h'.get? b = some o) → Q (.ref s.heap.objs.size) { s with heap := h', toks := tk }) :
    wpAny (model prog w) A (call (.type "set") [.ref l]) Q E s := by
  have size : ns.length = items.size := by rw [← Array.length_toList, ← hi.length, List.length_map]
  obtain ⟨c, tl, hmro⟩ := PySem.F.called_set.mro
  have g1 := PySem.F.called_set.made
  have g2 := PySem.F.called_set.sub
  have g3 := PySem.F.called_set.notType
  have g4 := PySem.F.called_set.canCreate
  have g5 := PySem.F.typeCall_set_1 (.ref l)
  refine wpAny_call (codeAny_of_tree ?_)
  show wpAny _ _ (callAny (.type "set") _) _ _ _
  refine wpAny_pure ⟨Code.quiet_builtin _ (by decide +kernel), codeAny_builtin PySem.F.entry_type_call ?_⟩
  rw [Around.under_plain (weight_type_call_type "set" [.ref l] []) rfl]
  repeat (any_goals (first | assumption | wp_step))
  -- the new object
  refine codeAny_mono (code_set_led1 (.ref l) (E := E) (Q₁ := fun v s1 => v = .ref s.heap.objs.size ∧ s1 = { s with heap := s.heap.push (bareSetI (!w.params.followText "set-order")) }) ⟨rfl, rfl⟩) fun r s1 hr => ?_
  rcases r with e | fl
  · exact hr
  cases fl with
  | next => exact hr.elim
  | brk => exact hr.elim
  | cont => exact hr.elim
  | ret v =>
    obtain ⟨rfl, rfl⟩ := hr
    generalize hled : (!w.params.followText "set-order") = led
    have gN : (s.heap.push (bareSetI led)).get? s.heap.objs.size = some (bareSetI led) := Heap.get?_push_size _ rfl
    have gT : Shared.TypeIs { s with heap := s.heap.push (bareSetI led) } (.ref s.heap.objs.size) "set" := ⟨_, gN, rfl⟩
    have g6 := PySem.F.called_set.init.lookup
    have g7 := PySem.F.called_set.init.bind (.ref s.heap.objs.size)
    repeat (any_goals (first | assumption | wp_step))
    -- its __init__
    refine codeAny_mono (codeAny_call_builtin (R := wants (fun r s2 => r = .none ∧ ∃ h' tk c, s2 = { s with heap := h', toks := tk } ∧ SetR w h' s.heap.objs.size (fun j => decide (j ∈ ns)) c ∧ c ≤ ns.length ∧ (∀ b o, s.heap.get? b = some o → h'.get? b = some o)) E)
      PySem.F.called_set.init.plain PySem.F.entry_set_init (check_set_init_1 gT ?_)) fun r2 s2 hr2 => ?_
    · obtain ⟨⟨oc, od, oda, osl⟩, go, hc, nl, hd⟩ := hl
      simp only at hc hd
      subst hc
      subst hd
      have go' : (s.heap.push (bareSetI led)).get? l = some { cls := .type "list", dict := od, data := .seq items nl, slots := osl } := Heap.get?_push_of_some _ go
      have g8 := PySem.F.sub_list_set
      have g9 := PySem.F.sub_list_frozenset
      have g10 : (Value.type "list" == Value.type "dict") = false := by decide
      have gl : (s.heap.push (bareSetI led)).IsList l items := ⟨_, go', rfl, nl, rfl⟩
      unfold Builtin.«set.__init__» noKeywords Builtin.Frozenset.updateFrom
      generalize hPI : pyIter = PI
      wp_walk
      subst hPI
      refine wpAny_pyIter_list gl (wpAny_bind (wpAny_runValue ?_))
      have ll : l < s.heap.objs.size := Heap.lt_size go
      have sz1 : (s.heap.push (bareSetI led)).objs.size = s.heap.objs.size + 1 := Heap.size_push ..
      have a1 : l ≠ (s.heap.push (bareSetI led)).objs.size := by rw [sz1]; exact Nat.ne_of_lt (Nat.lt_succ_of_lt ll)
      have a2 : s.heap.objs.size ∉ [(s.heap.push (bareSetI led)).objs.size, l] := by
        rw [sz1]
        intro z
        rcases List.mem_cons.mp z with z | z
        · exact Nat.ne_of_lt (Nat.lt_succ_self _) z
        · exact Nat.ne_of_gt ll (List.mem_singleton.mp z)
      have a3 : A.in1.in1.in1.handled = none := by simp [hh]
      refine set_update_ints (ns := ns) ((Walks.list a3 _ l a1 items).toS) s.heap.objs.size a2 size.symm hb (fun i v e => ints_at hi i v (by rw [Array.getElem?_toList]; exact e)) items.size 0 _ (by omega) (Nat.zero_le _) ⟨⟨_, Heap.get?_push_size _ rfl, rfl, rfl⟩, gl.push _⟩ ⟨0, Nat.le_refl _, setR_new_at ?_⟩ ?_
      · exact (Heap.get?_push_of_some _ gN).trans (by rw [← hled])
      · rintro ⟨h', g', d', tk', os'⟩ c mv hc hS
        obtain rfl : g' = s.gens := mv.gens
        obtain rfl : d' = s.drawn := mv.drawn
        obtain rfl : os' = s.os := mv.os
        show wpAny _ _ _ _ _ _
        refine wpAny_pure ?_
        show wpAny _ _ (ret Value.none) _ _ _
        refine wpAny_pure ⟨rfl, h', tk', c, rfl, hS, by omega, fun b o e => mv.heap b o ?_ (Heap.get?_push_of_some _ (Heap.get?_push_of_some _ e))⟩
        have lt := Heap.lt_size e
        rw [sz1]
        intro z
        rcases List.mem_cons.mp z with z | z
        · exact Nat.ne_of_lt lt z
        · exact Nat.ne_of_lt (Nat.lt_succ_of_lt lt) (List.mem_singleton.mp z)
    · rcases r2 with e | fl2
      · exact hr2
      cases fl2 with
      | next => exact hr2.elim
      | brk => exact hr2.elim
      | cont => exact hr2.elim
      | ret r =>
        obtain ⟨rfl, h', tk, c, rfl, hS, hc, keep⟩ := hr2
        repeat (any_goals (first | assumption | wp_step))
        exact q _ _ _ hS hc keep
end
/-- sorted(set(xs)), xs a list of whole numbers -/
def tSortSet (K : PySem.W.Frag) (ta : TE) : TE := fun σ H Q => ta σ H fun x H1 => ∃ (l : Addr) (ns : List Int), x = .ref l ∧ SqL K H1 l (ns.map V.int) ∧ ns.length ≤ 60 ∧
  ∀ (p : Addr) (H' : Hp) (ks : List Int), Same H1 H' → H1 p = none → ks.Pairwise (· < ·) → (∀ k, k ∈ ks ↔ k ∈ ns) → ks.length ≤ ns.length → H' p = some (.lst (ks.map V.int)) → Q (.ref p) H'
theorem pe_sortSet {X : Cx} {a : Expr} {ta : TE} {p p2 q pos : Pos} (hm : X.mg "sorted" = none) (hm2 : X.mg "set" = none) (ha : PE X a ta) (hg : Gl X "sorted" := by rfl) (hg2 : Gl X "set" := by rfl) (hc : X.calm = true := by rfl)
    (na : starEach [a] X.env = (false, eval a X.env) :: starEach [] X.env := by rfl) : PE X (.Call (.Name "sorted" p) [.Call (.Name "set" p2) [a] [] q] [] pos) (tSortSet X.K ta) := by
  refine ⟨fun pins s σ H Q I h => ?_⟩
  refine Call_ (ld_blt I hg hm (show bootBuiltins ("sorted" : Str) = some (.builtin "sorted") by decide +kernel) (PyProof.Rows.callWith_builtin1 (PyProof.Rows.args_cons ?_ rfl) rfl rfl))
  refine Call_ (ld_blt I hg2 hm2 boot_set ?_)
  refine PyProof.Rows.callWith_type1 (PyProof.Rows.args_cons (thn (ha.run pins s σ H _ I h) fun v s1 ⟨x, H1, I1, r1, q1⟩ => PyProof.Rows.args_nil ?_) na) na rfl
  obtain ⟨l, ns, rfl, hq, hl, q1⟩ := q1
  cases r1
  obtain ⟨its, r, pl, hz⟩ := I1.list hq
  refine call_set_listI (I1.ok.hd hc) pl.isList (by simpa using r) (by unfold scanBound; omega) fun h' tk c hS hcn hk => PyProof.Rows.args_nil ?_
  have fr : H1 s1.heap.objs.size = none := I1.hok.fresh (Nat.le_refl _)
  have I2 : Inv X pins σ (upd H1 s1.heap.objs.size (SetO X.w s1.heap.objs.size (fun j => decide (j ∈ ns)) c)) { s1 with heap := h', toks := tk } := I1.laid (t' := tk) hk (Nat.le_refl _) (setO_new hS)
  refine cr_sortedSet hc pins _ σ _ [.ref s1.heap.objs.size] [.ref s1.heap.objs.size] Q I2 (.cons rfl .nil) ⟨_, _, _, rfl, upd_same, by omega, fun ks P up hmem hlen nP => ?_⟩
  refine q1 P _ ks ((same_upd fr).trans (same_upd nP)) (Same.free (same_upd fr) nP) up (fun k => ?_) (by omega) upd_same
  rw [hmem k]
  exact decide_eq_true_iff
end TT

set_option Elab.async false
set_option linter.all false
set_option maxRecDepth 100000
namespace TT
open PySem PySem.Spec PyProof.Rows L2
/-- len(set(xs)), xs a list of whole numbers -/
def tLenSetK (K : PySem.W.Frag) (ta : TE) : TE := fun σ H Q => ta σ H fun x H1 => ∃ (l : Addr) (ns : List Int), x = .ref l ∧ SqL K H1 l (ns.map V.int) ∧ ns.length ≤ 1000 ∧ ∀ ks : List Int, ks.Nodup → (∀ k, k ∈ ks ↔ k ∈ ns) → Q (.int (ks.length : Nat)) H1
theorem pe_lenSetK {X : Cx} {a : Expr} {ta : TE} {p p2 q pos : Pos} (hm : X.mg "len" = none) (hm2 : X.mg "set" = none) (ha : PE X a ta) (hg : Gl X "len" := by rfl) (hg2 : Gl X "set" := by rfl) (hc : X.calm = true := by rfl)
    (na : starEach [a] X.env = (false, eval a X.env) :: starEach [] X.env := by rfl) : PE X (.Call (.Name "len" p) [.Call (.Name "set" p2) [a] [] q] [] pos) (tLenSetK X.K ta) := by
  refine ⟨fun pins s σ H Q I h => ?_⟩
  refine Call_ (ld_blt I hg hm boot_len (PyProof.Rows.callWith_builtin1 (PyProof.Rows.args_cons ?_ rfl) rfl rfl))
  refine Call_ (ld_blt I hg2 hm2 boot_set ?_)
  refine PyProof.Rows.callWith_type1 (PyProof.Rows.args_cons (thn (ha.run pins s σ H _ I h) fun v s1 ⟨x, H1, I1, r1, q1⟩ => PyProof.Rows.args_nil ?_) na) na rfl
  obtain ⟨l, ns, rfl, hq, hl, q1⟩ := q1
  cases r1
  obtain ⟨its, r, pl, hz⟩ := I1.list hq
  refine call_set_listI (I1.ok.hd hc) pl.isList (by simpa using r) (by unfold scanBound; omega) fun h' tk c hS hcn hk => PyProof.Rows.args_nil ?_
  obtain ⟨o, es, ep, t, ho, hex, hd, _, nd, hmem, _, hf, hn, _⟩ := hS
  have I2 : Inv X pins σ H1 { s1 with heap := h', toks := tk } := I1.kept fun b o e => hk b o e
  have el : (es.toList.map keyOf).length = es.size := by rw [List.length_map, Array.length_toList]
  refine call_len_set ho hex hd hf (by omega) ⟨.int (es.size : Nat), H1, I2.tok _, ⟨_, rfl⟩, ?_⟩
  rw [← el]
  exact q1 _ nd fun k => (hmem k).symm.trans decide_eq_true_iff
end TT

set_option Elab.async false
set_option linter.all false
set_option maxRecDepth 100000
namespace TT
open PySem PySem.Spec PyProof.Rows L2 LamX
theorem if_same {c : L2.TT} {a b R : TS} {D : Ends} {σ : L2.St} {H : Hp} (bb : Bool) (hc : ∀ Q : Bool → Hp → Prop, (∀ H1, Same H H1 → Q bb H1) → c σ H Q) (h : ∀ H1, Same H H1 → if bb = true then tSeq a R D σ H1 else tSeq b R D σ H1) : tSeq (tIfS c a b) R D σ H := by
  refine hc _ fun H1 s => ?_
  have := h H1 s
  cases bb <;> exact this
theorem eqV_io (a b : Option Int) : eqV (wV a) (wV b) = decide (a = b) := by
  cases a with
  | none => cases b <;> rfl
  | some i => cases b with
    | none => rfl
    | some j =>
      show (i == j) = _
      by_cases h : i = j
      · rw [h, decide_eq_true rfl]; simp
      · rw [decide_eq_false (fun z => h (Option.some.inj z))]; simp [h]
theorem wV_dec (a b : Option Int) : decide (wV a = wV b) = decide (a = b) := by
  refine decide_eq_decide.mpr ⟨fun h => ?_, fun h => by rw [h]⟩
  cases a <;> cases b <;> first | rfl | (cases h; rfl) | cases h
theorem inV_io (c : Int) (ks : List Int) : inV (.int c) (ks.map V.int) = decide (c ∈ ks) := by
  show (ks.map V.int).any (fun y => eqV y (.int c)) = _
  rw [List.any_map, Bool.eq_iff_iff, List.any_eq_true, decide_eq_true_iff]
  constructor
  · rintro ⟨x, hx, e⟩
    have e : eqV (wV (some x)) (wV (some c)) = true := e
    rw [eqV_io] at e
    rw [← Option.some.inj (of_decide_eq_true e)]; exact hx
  · intro h
    exact ⟨c, h, by show eqV (wV (some c)) (wV (some c)) = true; rw [eqV_io]; exact decide_eq_true rfl⟩
theorem flat_io (l : List Int) : (l.map V.int).all flatV = true := List.all_eq_true.mpr fun x hx => by
  obtain ⟨y, _, rfl⟩ := List.mem_map.mp hx
  rfl
/-- the deed's tuple -/
structure DeedX (K : PySem.W.Frag) (H : Hp) (q : Addr) (xs : List V) (dd : Deed) : Prop where
  sq : SqT K H q xs
  w : xs[0]? = some (.str (wordOf dd))
  t : xs[1]? = some (.str (tabOf dd))
  put : ∀ t r, dd = .put t r → ∃ rp, xs = [.str "put", .str t, .ref rp] ∧ SqT K H rp (r.map wV)
  drop : ∀ t k, dd = .drop t k → xs = [.str "drop", .str t, .int k]
  sweep : ∀ t c o, dd = .sweep t c o → xs = [.str "sweep", .str t, .str c, wV o]
  shift : ∀ t c b, dd = .shift t c b → xs = [.str "shift", .str t, .str c, .int b]
  set : ∀ t k c o, dd = .set t k c o → xs = [.str "set", .str t, .int k, .str c, wV o]
theorem DeedX.same {K : PySem.W.Frag} {H H' : Hp} {q : Addr} {xs : List V} {dd : Deed} (h : DeedX K H q xs dd) (s : Same H H') : DeedX K H' q xs dd :=
  ⟨sameT s h.sq, h.w, h.t, fun t r e => let ⟨rp, h1, h2⟩ := h.put t r e; ⟨rp, h1, sameT s h2⟩, h.drop, h.sweep, h.shift, h.set⟩
theorem dp_wio {K : PySem.W.Frag} {H : Hp} {v : V} {o : Option Int} (h : Dp K H v (wD o)) : v = wV o := by cases o <;> cases h <;> rfl
theorem deed_xs {K : PySem.W.Frag} {H : Hp} {u : V} {dd : Deed} (h : Dp K H u (deedF true dd)) : ∃ q xs, u = .ref q ∧ DeedX K H q xs dd := by
  cases dd with
  | put t r =>
    obtain ⟨q, xs, rfl, g1, g2⟩ := seq_dp (show Dp K H u (seqD true [.str "put", .str t, seqD true (r.map wD)]) from h)
    cases g2 with
    | cons a1 g2 =>
    cases g2 with
    | cons a2 g2 =>
    cases g2 with
    | cons a3 g2 =>
    cases g2
    cases a1; cases a2
    obtain ⟨rp, rfl, hr⟩ := row_dp (show Dp K H _ (rowD r) from a3)
    exact ⟨q, _, rfl, g1, rfl, rfl, (fun _ _ e => by cases e; exact ⟨rp, rfl, hr⟩), (fun _ _ e => by cases e), (fun _ _ _ e => by cases e), (fun _ _ _ e => by cases e), (fun _ _ _ _ e => by cases e)⟩
  | drop t k =>
    obtain ⟨q, xs, rfl, g1, g2⟩ := seq_dp (show Dp K H u (seqD true [.str "drop", .str t, .int k]) from h)
    cases g2 with
    | cons a1 g2 =>
    cases g2 with
    | cons a2 g2 =>
    cases g2 with
    | cons a3 g2 =>
    cases g2
    cases a1; cases a2; cases a3
    exact ⟨q, _, rfl, g1, rfl, rfl, (fun _ _ e => by cases e), (fun _ _ e => by cases e; rfl), (fun _ _ _ e => by cases e), (fun _ _ _ e => by cases e), (fun _ _ _ _ e => by cases e)⟩
  | sweep t c o =>
    obtain ⟨q, xs, rfl, g1, g2⟩ := seq_dp (show Dp K H u (seqD true [.str "sweep", .str t, .str c, wD o]) from h)
    cases g2 with
    | cons a1 g2 =>
    cases g2 with
    | cons a2 g2 =>
    cases g2 with
    | cons a3 g2 =>
    cases g2 with
    | cons a4 g2 =>
    cases g2
    cases a1; cases a2; cases a3
    have := dp_wio a4
    subst this
    exact ⟨q, _, rfl, g1, rfl, rfl, (fun _ _ e => by cases e), (fun _ _ e => by cases e), (fun _ _ _ e => by cases e; rfl), (fun _ _ _ e => by cases e), (fun _ _ _ _ e => by cases e)⟩
  | shift t c b =>
    obtain ⟨q, xs, rfl, g1, g2⟩ := seq_dp (show Dp K H u (seqD true [.str "shift", .str t, .str c, .int b]) from h)
    cases g2 with
    | cons a1 g2 =>
    cases g2 with
    | cons a2 g2 =>
    cases g2 with
    | cons a3 g2 =>
    cases g2 with
    | cons a4 g2 =>
    cases g2
    cases a1; cases a2; cases a3; cases a4
    exact ⟨q, _, rfl, g1, rfl, rfl, (fun _ _ e => by cases e), (fun _ _ e => by cases e), (fun _ _ _ e => by cases e), (fun _ _ _ e => by cases e; rfl), (fun _ _ _ _ e => by cases e)⟩
  | set t k c o =>
    obtain ⟨q, xs, rfl, g1, g2⟩ := seq_dp (show Dp K H u (seqD true [.str "set", .str t, .int k, .str c, wD o]) from h)
    cases g2 with
    | cons a1 g2 =>
    cases g2 with
    | cons a2 g2 =>
    cases g2 with
    | cons a3 g2 =>
    cases g2 with
    | cons a4 g2 =>
    cases g2 with
    | cons a5 g2 =>
    cases g2
    cases a1; cases a2; cases a3; cases a4
    have := dp_wio a5
    subst this
    exact ⟨q, _, rfl, g1, rfl, rfl, (fun _ _ e => by cases e), (fun _ _ e => by cases e), (fun _ _ _ e => by cases e), (fun _ _ _ e => by cases e), (fun _ _ _ _ e => by cases e; rfl)⟩
theorem dup_less {ks ns : List Int} (h1 : ks.Nodup) (h2 : ∀ k, k ∈ ks ↔ k ∈ ns) : decide ((ks.length : Int) < (ns.length : Int)) = !decide ns.Nodup := by
  by_cases z : ns.Nodup
  · have a := h1.length_le_of_subset fun k hk => (h2 k).mp hk
    have b := z.length_le_of_subset fun k hk => (h2 k).mpr hk
    rw [decide_eq_true z, decide_eq_false (by omega)]; rfl
  · have less : ∀ l : List Int, ¬ l.Nodup → ∃ l' : List Int, l'.length + 1 = l.length ∧ l ⊆ l' := fun l => by
      induction l with
      | nil => exact fun h => absurd List.nodup_nil h
      | cons a t ih =>
        intro h
        by_cases w : a ∈ t
        · exact ⟨t, rfl, fun x hx => by rcases List.mem_cons.mp hx with rfl | hx <;> assumption⟩
        · have nt : ¬ t.Nodup := fun q => h (List.nodup_cons.mpr ⟨w, q⟩)
          obtain ⟨t', e1, e2⟩ := ih nt
          exact ⟨a :: t', by rw [List.length_cons, List.length_cons, e1], fun x hx => by
            rcases List.mem_cons.mp hx with rfl | hx
            · exact List.mem_cons_self ..
            · exact List.mem_cons_of_mem _ (e2 hx)⟩
    obtain ⟨l', e1, e2⟩ := less ns z
    have a := h1.length_le_of_subset (l₂ := l') fun k hk => e2 ((h2 k).mp hk)
    rw [decide_eq_false z, decide_eq_true (by omega)]; rfl
def workR (zs : List Str) : Deed → Rw → Rw
  | .shift _ c b, r => match cellAt zs c r with | some x => r.set (zs.idxOf c) (some (x + b)) | none => r
  | .set _ k c o, r => if keyW r = k then r.set (zs.idxOf c) o else r
  | _, r => r
def goneB (zs : List Str) : Deed → Rw → Bool
  | .drop _ k, r => decide (keyW r = k)
  | .sweep _ c o, r => decide (cellAt zs c r = o)
  | _, _ => false
theorem step_eq (zs : List Str) (dd : Deed) (r : Rw) : stepR zs dd r = if goneB zs dd r = true then none else some (workR zs dd r) := by
  cases dd with
  | put t row => rfl
  | drop t k =>
    show (if keyW r = k then none else some r) = if decide (keyW r = k) = true then none else some r
    by_cases z : keyW r = k
    · rw [if_pos z, if_pos (decide_eq_true z)]
    · rw [if_neg z, if_neg (fun w => z (of_decide_eq_true w))]
  | sweep t c o =>
    show (if cellAt zs c r = o then none else some r) = if decide (cellAt zs c r = o) = true then none else some r
    by_cases z : cellAt zs c r = o
    · rw [if_pos z, if_pos (decide_eq_true z)]
    · rw [if_neg z, if_neg (fun w => z (of_decide_eq_true w))]
  | shift t c b => rfl
  | set t k c o => rfl
theorem wd_ne {a b : Str} (h : a ≠ b) {p q : Prop} (k : q) : if decide (V.str a = V.str b) = true then p else q := by
  rw [if_neg (fun e => h (V.str.inj (of_decide_eq_true e)))]; exact k
theorem wd_eq {a : Str} {p q : Prop} (k : p) : if decide (V.str a = V.str a) = true then p else q := by
  rw [if_pos (decide_eq_true rfl)]; exact k
theorem wdInt0 {w : Str} (h : w ≠ "put") : (if decide (V.str w = V.str "put") = true then (1 : Int) else 0) = 0 := if_neg fun e => h (V.str.inj (of_decide_eq_true e))
theorem wdInt1 {w : Str} (h : w = "put") : (if decide (V.str w = V.str "put") = true then (1 : Int) else 0) = 1 := if_pos (decide_eq_true (by rw [h]))
def colOfD : Deed → Option Str
  | .sweep _ c _ => some c
  | .shift _ c _ => some c
  | .set _ _ c _ => some c
  | _ => none
theorem splitU {A B R : TS} {D : Ends} {σ0 : L2.St} {H0 : Hp} (Pp : Hp → Prop) (st : L2.St) (rest : ∀ H, Pp H → R D st H) (main : (∀ H, Pp H → R D st H) → tSeq A (tSeq B R) D σ0 H0) : tSeq A (tSeq B R) D σ0 H0 := main rest
theorem set_parts (ct : List (List Rw)) (i : Nat) (x : List Rw) (h : i < ct.length) : ct.set i x = ct.take i ++ [x] ++ ct.drop (i + 1) := by
  rw [List.set_eq_take_append_cons_drop, if_pos h, List.append_assoc]; rfl
section
variable {P : Program} {w : World} {K : PySem.W.Frag} {mg : Str → Option Value} {base : Heap}
def spBehind (K : PySem.W.Frag) : Sp := fun vs H Q _ => ∃ (tp cp : Addr) (ts : List Tab) (u : V) (ct : List (List Rw)) (dd : Deed) (rs : List Rw) (L : Nat), vs = [.ref tp, .ref cp, u] ∧ Tabs K H tp ts ∧ Dp K H (.ref cp) (contD ct) ∧ ContOk L ts ct ∧ L ≤ 60 ∧ At ts ct (tabOf dd) rs ∧
  DeedOk ts dd ∧ Dp K H u (deedF true dd) ∧ (∀ r ∈ freshD ts ct rs dd (tabOf dd), ∃ k t0, r = some k :: t0) ∧
  (refR rs dd = true ∨ twiceD ts ct rs dd ≠ none → ∀ H', Same H H' → Q .non H') ∧ (refR rs dd = false → twiceD ts ct rs dd = none → ∀ (p : Addr) (H' : Hp), Same H H' → Dp K H' (.ref p) (contD (nextR ts ct rs dd)) → Q (.ref p) H')
abbrev s_law_behind : Stmt := topS 50
abbrev N_law_behind : List Str := ["tables", "content", "deed", "at", "keys", "place", "made", "row", "worths", "gone", "rows", "table", "column", "one"]
theorem sc_law_behind : FnScope N_law_behind ["tables", "content", "deed"] (defScope s_law_behind) := ⟨rfl, rfl, rfl, by decide +kernel, rfl, by decide +kernel, by decide +kernel⟩

set_option maxHeartbeats 8000000 in
theorem ok_behind {f : Addr} {fd : FuncData} (F : Fun K "_law_behind" "_law_behind" s_law_behind f fd) (nb : NB mg) : FnOk P w K mg base CX0 1 f fd ["tables", "content", "deed"] (spBehind K) := by
  refine F.ok sc_law_behind (fun vs H Q E h => ?_) (fun cdv A outer sh H vs Q E hr h => ?_)
  · obtain ⟨tp, cp, ts, u, ct, dd, rs, L, rfl, _⟩ := h
    rfl
  obtain ⟨tp, cp, ts, u, ct, dd, rs, L, rfl, hT, hc, okc, hL, hA, okd, hu', hfk, qN, qY⟩ := h
  have nd := sc_law_behind.nd
  refine ⟨_, (pss_cons (ps_set (i := 3) nd rfl (Or.inl rfl) (pe_bm PySem.F.plainAttrs_list PySem.F.slot_list_index PySem.F.type_list_index mt_index (pe_lc (own := [("table", 11)]) (g := (gName 11)) (tt := tYes) rfl nd (pi_tup (pv 0)) (blkOk_by (N := N_law_behind) (sc := defScope s_law_behind) (by decide +kernel)) (fun _ _ _ _ _ => (pg_name (i := 11) nd rfl (Or.inl rfl))) (fun _ _ _ _ _ => pts_nil) (fun _ _ _ _ _ => (pe_ix (r := rIxT K) ix_tup (pv 11) pe_int (fun _ _ => rfl)))) (pa_cons (pe_ix ix_tup (pv 2) pe_int (fun _ _ => rfl)) pa_nil)))
      (pss_cons (ps_par (i := 4) (j := 5) (by rfl) nd rfl rfl (by decide) rfl rfl (pa_cons (pe_lc (own := [("row", 7)]) (g := (gName 7)) (tt := tYes) rfl nd (pi_list (pe_ix ix_list (pv 1) (pv 3) (fun _ _ => rfl))) (blkOk_by (N := N_law_behind) (sc := defScope s_law_behind) (by decide +kernel)) (fun _ _ _ _ _ => (pg_name (i := 7) nd rfl (Or.inl rfl))) (fun _ _ _ _ _ => pts_nil) (fun _ _ _ _ _ => (pe_ix (r := rIxT K) ix_tup (pv 7) pe_int (fun _ _ => rfl)))) (pa_cons pe_int pa_nil)) (by rfl))
      (pss_cons (ps_if (PW.pt (pw_or (PW.pt (pw_and (pt_cmpR op_eq (pe_ix ix_tup (pv 2) pe_int (fun _ _ => rfl)) pe_str (nomark _)) (pw_and1 (pt_cmpR op_in_seq (pe_ix ix_seq (pe_ix ix_tup (pv 2) pe_int (fun _ _ => rfl)) pe_int (fun _ _ => rfl)) (pv 4) (by rfl))))) (pw_or1 (PW.pt (pw_and (pt_cmpR op_in_seq (pe_ix ix_tup (pv 2) pe_int (fun _ _ => rfl)) (pe_tup (pa_cons pe_str (pa_cons pe_str pa_nil))) (by rfl)) (pw_and1 (pt_cmpR op_notIn_seq (pe_ix ix_tup (pv 2) pe_int (fun _ _ => rfl)) (pv 4) (by rfl))))))))
        (pss_one (ps_ret pe_non))
        pss_nil)
      (pss_cons (ps_set (i := 6) nd rfl (Or.inr rfl) (pe_lst pa_nil))
      (pss_cons (ps_for PassesOwn.never rfl (pi_list (pe_ix ix_list (pv 1) (pv 3) (fun _ _ => rfl))) (pg_name (i := 7) nd rfl (Or.inl rfl))
        (pss_cons (ps_set (i := 8) nd rfl (Or.inl rfl) (pe_callTy call_list_of (by rfl) nb.b_list (by decide +kernel) (pa_cons (pv 7) pa_nil)))
        (pss_cons (ps_if (pt_cmpR op_in_seq (pe_ix ix_tup (pv 2) pe_int (fun _ _ => rfl)) (pe_tup (pa_cons pe_str (pa_cons pe_str (pa_cons pe_str pa_nil)))) (by rfl))
          (pss_one (ps_set (i := 5) nd rfl (Or.inl rfl) (pe_bm PySem.F.plainAttrs_list PySem.F.slot_list_index PySem.F.type_list_index mt_index (pe_lc (own := [("column", 12)]) (g := (gName 12)) (tt := tYes) rfl nd (pi_tup (pe_ix ix_seq (pe_ix ix_tup (pv 0) (pv 3) (fun _ _ => rfl)) pe_int (fun _ _ => rfl))) (blkOk_by (N := N_law_behind) (sc := defScope s_law_behind) (by decide +kernel)) (fun _ _ _ _ _ => (pg_name (i := 12) nd rfl (Or.inl rfl))) (fun _ _ _ _ _ => pts_nil) (fun _ _ _ _ _ => (pe_ix (r := rIxT K) ix_tup (pv 12) pe_int (fun _ _ => rfl)))) (pa_cons (pe_ix ix_tup (pv 2) (pe_un un_neg pe_int) (fun _ _ => rfl)) pa_nil))))
          pss_nil)
        (pss_cons (ps_if (PW.pt (pw_and (pt_cmpR op_eq (pe_ix ix_tup (pv 2) pe_int (fun _ _ => rfl)) pe_str (nomark _)) (pw_and1 (pt_cmpR op_notN (pe_ix ix_list (pv 8) (pv 5) (fun _ _ => rfl)) pe_non (nomark _)))))
          (pss_one (ps_asg (pe_op op_add (pe_ix ix_list (pv 8) (pv 5) (fun _ _ => rfl)) (pe_ix ix_tup (pv 2) pe_int (fun _ _ => rfl))) (pg_sub (pv 8) (pv 5) set_list)))
          pss_nil)
        (pss_cons (ps_if (PW.pt (pw_and (pt_cmpR op_eq (pe_ix ix_tup (pv 2) pe_int (fun _ _ => rfl)) pe_str (nomark _)) (pw_and1 (pt_cmpR op_eq (pe_ix ix_tup (pv 7) pe_int (fun _ _ => rfl)) (pe_ix ix_tup (pv 2) pe_int (fun _ _ => rfl)) (nomark _)))))
          (pss_one (ps_asg (pe_ix ix_tup (pv 2) pe_int (fun _ _ => rfl)) (pg_sub (pv 8) (pv 5) set_list)))
          pss_nil)
        (pss_cons (ps_set (i := 9) nd rfl (Or.inl rfl) (pe_or (pe_and (pe_cmpR op_eq (pe_ix ix_tup (pv 2) pe_int (fun _ _ => rfl)) pe_str (nomark _)) (pe_one (pe_cmpR op_eq (pe_ix ix_tup (pv 7) pe_int (fun _ _ => rfl)) (pe_ix ix_tup (pv 2) pe_int (fun _ _ => rfl)) (nomark _)))) (pe_one (pe_and (pe_cmpR op_eq (pe_ix ix_tup (pv 2) pe_int (fun _ _ => rfl)) pe_str (nomark _)) (pe_one (pe_cmpR op_eq (pe_ix ix_tup (pv 7) (pv 5) (fun _ _ => rfl)) (pe_ix ix_tup (pv 2) pe_int (fun _ _ => rfl)) (nomark _)))))))
        (pss_one (ps_if (pt_not (pt_val (pv 9)))
          (pss_one (ps_expr (pe_bm PySem.F.plainAttrs_list PySem.F.slot_list_append PySem.F.type_list_append mt_append (pv 6) (pa_cons (pe_callTy call_tuple_of (by rfl) nb.b_tuple (by decide +kernel) (pa_cons (pv 8) pa_nil)) pa_nil))))
          pss_nil))))))))
      (pss_cons (ps_set (i := 6) nd rfl (Or.inr rfl) (pe_op op_cat (pv 6) (pe_op op_rep (pe_lst (pa_cons (pe_ix ix_tup (pv 2) pe_int (fun _ _ => rfl)) pa_nil)) (pe_callTy call_int1 (by rfl) nb.b_int (by decide +kernel) (pa_cons (pe_cmpR op_eq (pe_ix ix_tup (pv 2) pe_int (fun _ _ => rfl)) pe_str (nomark _)) pa_nil)))))
      (pss_cons (ps_set (i := 4) nd rfl (Or.inl rfl) (pe_callB cr_sortedI (by rfl) nb.b_sorted (by decide +kernel) (pa_cons (pe_lc (own := [("row", 7)]) (g := (gName 7)) (tt := tYes) rfl nd (pi_list (pv 6)) (blkOk_by (N := N_law_behind) (sc := defScope s_law_behind) (by decide +kernel)) (fun _ _ _ _ _ => (pg_name (i := 7) nd rfl (Or.inl rfl))) (fun _ _ _ _ _ => pts_nil) (fun _ _ _ _ _ => (pe_ix (r := rIxT K) ix_tup (pv 7) pe_int (fun _ _ => rfl)))) pa_nil)))
      (pss_cons (ps_if (pt_cmpR op_lt (pe_lenSetK nb.b_len nb.b_set (pv 4)) (pe_callB call_len_seq (by rfl) nb.b_len (by decide +kernel) (pa_cons (pv 4) pa_nil)) (nomark _))
        (pss_one (ps_ret pe_non))
        pss_nil)
      (pss_cons (ps_setLc (te := tOp (rIxL K) (tLc (iList K (tVar 6)) (gName 7) (tTest (tOp rEq (tOp (rIxT K) (tVar 7) (tC (.int 0))) (tVar 13))) (tVar 7) [7]) (tC (.int 0))) (i := 10) (own := [("one", 13)]) (g := (gName 13)) (tt := tYes) rfl nd rfl rfl (sw_true rfl rfl rfl (by decide +kernel)) (pi_list (pv 4)) (blkOk_by (N := N_law_behind) (sc := defScope s_law_behind) (by decide +kernel)) (fun _ _ _ _ _ => (pg_name (i := 13) nd rfl (Or.inr rfl))) (fun _ _ _ _ _ => pts_nil) (fun _ _ _ _ _ => (pe_ix (r := rIxL K) ix_list (pe_lc (own := [("row", 7)]) (g := (gName 7)) rfl nd (pi_list (pv 6)) (blkOk_by (N := N_law_behind) (sc := relS { kind := ScopeKind.function, names := [(".0", NameKind.local), ("one", NameKind.cell), ("made", NameKind.free)], isGenerator := false, isCoroutine := false } (defScope s_law_behind)) (by decide +kernel)) (fun _ _ _ _ _ => (pg_name (i := 7) nd rfl (Or.inl rfl))) (fun _ _ _ _ _ => (pts_one (pt_cmpR op_eq (pe_ix (r := rIxT K) ix_tup (pv 7) pe_int (fun _ _ => rfl)) (pv 13) (nomark _)))) (fun _ _ _ _ _ => (pv 7))) pe_int (fun _ _ => rfl))))
      (pss_one (ps_ret (pe_op op_cat (pe_op op_cat (pe_slice sl_list (pv 1) po_none (po_some (pv 3))) (pe_lst (pa_cons (pv 10) pa_nil))) (pe_slice sl_list (pv 1) (po_some (pe_op op_add (pv 3) pe_int)) po_none))))))))))))), ?_⟩
  obtain ⟨q0, xs, rfl, hX⟩ := deed_xs hu'
  obtain ⟨ws, hTS, hTA, lw⟩ := hT.parts
  have l8 := hT.l8
  have ht := hA.mem
  obtain ⟨cp', cx, e0, hCX, hCA, lcx⟩ := cont_dp hc
  cases e0
  obtain ⟨zs, hzs⟩ : ∃ zs, zs = cns ts (tabOf dd) := ⟨_, rfl⟩
  -- at
  refine ⟨.ref tp, rfl, tp, rfl, ⟨ws, hTS⟩, fun D1 n1 => ?_⟩
  refine lc_mapS (walk_tup (xs := ws)) (ys := (tns ts).map V.str) (by rw [List.length_map, List.length_map]; omega) (by omega) n1 (fun H' k => sameT (keptS k n1) hTS) (fun i x H' C N hx sm hC => ?_) (fun H1 e1 s1 => ?_)
  · obtain ⟨tb, qq, pc, ys, htb, rfl, h1, h2, h3⟩ := tab_at hTA hx
    exact ⟨rfl, iteT ⟨.ref qq, rfl, qq, _, 0, .str tb.1, rfl, rfl, sameT sm h1, atI_nat (j := 0) rfl, hC _ (by rw [List.getElem?_map, List.getElem?_map, htb]; rfl)⟩⟩
  obtain ⟨tb, htb, hte, hcol⟩ := tab_of hT.ok.nd ht
  obtain ⟨at', hat⟩ : ∃ j, j = (tns ts).idxOf (tabOf dd) := ⟨_, rfl⟩
  have lat : at' < (tns ts).length := by rw [hat]; exact List.idxOf_lt_length_of_mem ht
  have hrs : ct[at']? = some rs := by rw [hat]; exact hA.row
  refine ⟨.inl ⟨rfl, _, .inl (.inl e1)⟩, .ref q0, rfl, q0, xs, 1, .str (tabOf dd), rfl, rfl, sameT s1 hX.sq, atI_nat (j := 1) hX.t, ?_⟩
  unfold tNil
  dsimp only
  refine ix_strs e1 ht ?_
  rw [← hat]
  obtain ⟨x, hx, hd⟩ := dpAll_at (i := at') (d := rowsD rs) hCA (by rw [List.getElem?_map, hrs]; rfl)
  obtain ⟨rp, yr, rfl, hRP, hRA, lyr⟩ := rows_dp hd
  have lrs : rs.length ≤ 60 := Nat.le_trans (okc.few rs (List.mem_of_getElem? hrs)) hL
  -- keys
  refine ⟨.ref cp, rfl, .int at', rfl, cp, cx, at', .ref rp, rfl, rfl, stillL s1 hCX, atI_nat hx, rp, rfl, ⟨yr, stillL s1 hRP⟩, fun DK nK => ?_⟩
  refine lc_mapS (walk_list (xs := yr)) (ys := (rs.map keyW).map V.int) (by rw [List.length_map, List.length_map, lyr]) (by omega) nK (fun H' kk => stillL (s1.trans (keptS kk nK)) hRP) (fun i3 x3 H' C N hx3 sm hC3 => ?_) (fun H2 eK s2 => ?_)
  · obtain ⟨r3, p3, hr3, rfl, hp3⟩ := row_at' hRA hx3
    exact ⟨rfl, iteT ⟨.ref p3, rfl, p3, _, 0, .int (keyW r3), rfl, rfl, sameT (s1.trans sm) hp3, atI_nat (j := 0) (row_key (hA.ok.row r3 (List.mem_of_getElem? hr3))), hC3 _ (by rw [List.getElem?_map, List.getElem?_map, hr3]; rfl)⟩⟩
  refine ⟨_, _, rfl, ?_⟩
  have s02 := s1.trans s2
  have hX2 := hX.same s02
  dsimp only [List.set]
  show tSeq (tIfS _ _ _) _ _ [some (.ref tp), some (.ref cp), some (.ref q0), some (.int at'), some (.ref DK), some (.int 0), none, none, none, none, none, none, none, none] H2
  -- refused?
  refine if_same (refR rs dd) (fun QQ hQ => ?_) (fun H3 s3 => ?_)
  · have dS : (rs.map keyW).map V.int = (rs.map keyW).map V.int := rfl
    cases dd with
    | put t r =>
      obtain ⟨rp0, ex, hrp⟩ := hX2.put t r rfl
      subst ex
      refine ⟨.ref q0, rfl, q0, _, 0, .str "put", rfl, rfl, hX2.sq, atI_nat (j := 0) rfl, rfl, _, rfl, wd_eq ?_⟩
      refine ⟨.ref q0, rfl, q0, _, 2, .ref rp0, rfl, rfl, hX2.sq, atI_nat (j := 2) rfl, ixB (b := true) (i := 0) hrp (row_key okd.2) ⟨.ref DK, rfl, DK, _, rfl, .inl (.inl (.inl eK)), rfl, flat_io _, _, rfl, ?_⟩⟩
      rw [inV_io]
      refine ite2 (fun e => ?_) (fun e => ?_)
      · have : refR rs (.put t r) = true := e
        rw [this] at hQ
        exact hQ _ (Same.refl _)
      · have : refR rs (.put t r) = false := (Bool.not_eq_true _).mp e
        rw [this] at hQ
        refine ⟨.ref q0, rfl, q0, _, 0, .str "put", rfl, rfl, hX2.sq, atI_nat (j := 0) rfl, (by show 2 ≤ sizeLine; decide), fun pt nt => ⟨pt, _, rfl, .inr (.inl (.inl upd_same)), rfl, rfl, _, rfl, iteF (hQ _ (same_upd nt))⟩⟩
    | drop t k =>
      have ex := hX2.drop t k rfl
      subst ex
      refine ⟨.ref q0, rfl, q0, _, 0, .str "drop", rfl, rfl, hX2.sq, atI_nat (j := 0) rfl, rfl, _, rfl, wd_ne (by decide) (iteF ?_)⟩
      refine ⟨.ref q0, rfl, q0, _, 0, .str "drop", rfl, rfl, hX2.sq, atI_nat (j := 0) rfl, (by show 2 ≤ sizeLine; decide), fun pt nt => ⟨pt, _, rfl, .inr (.inl (.inl upd_same)), rfl, rfl, _, rfl, iteT ?_⟩⟩
      have sp := same_upd (o := .tup [.str "drop", .str "set"]) nt
      refine ⟨.ref q0, rfl, q0, _, 2, .int k, rfl, rfl, sameT sp hX2.sq, atI_nat (j := 2) rfl, .ref DK, rfl, DK, _, rfl, .inl (.inl (.inl (sp _ _ eK))), rfl, flat_io _, _, rfl, ?_⟩
      rw [if_pos rfl, inV_io]
      exact hQ _ sp
    | set t k c o =>
      have ex := hX2.set t k c o rfl
      subst ex
      refine ⟨.ref q0, rfl, q0, _, 0, .str "set", rfl, rfl, hX2.sq, atI_nat (j := 0) rfl, rfl, _, rfl, wd_ne (by decide) (iteF ?_)⟩
      refine ⟨.ref q0, rfl, q0, _, 0, .str "set", rfl, rfl, hX2.sq, atI_nat (j := 0) rfl, (by show 2 ≤ sizeLine; decide), fun pt nt => ⟨pt, _, rfl, .inr (.inl (.inl upd_same)), rfl, rfl, _, rfl, iteT ?_⟩⟩
      have sp := same_upd (o := .tup [.str "drop", .str "set"]) nt
      refine ⟨.ref q0, rfl, q0, _, 2, .int k, rfl, rfl, sameT sp hX2.sq, atI_nat (j := 2) rfl, .ref DK, rfl, DK, _, rfl, .inl (.inl (.inl (sp _ _ eK))), rfl, flat_io _, _, rfl, ?_⟩
      rw [if_pos rfl, inV_io]
      exact hQ _ sp
    | sweep t c o =>
      have ex := hX2.sweep t c o rfl
      subst ex
      refine ⟨.ref q0, rfl, q0, _, 0, .str "sweep", rfl, rfl, hX2.sq, atI_nat (j := 0) rfl, rfl, _, rfl, wd_ne (by decide) (iteF ?_)⟩
      exact ⟨.ref q0, rfl, q0, _, 0, .str "sweep", rfl, rfl, hX2.sq, atI_nat (j := 0) rfl, (by show 2 ≤ sizeLine; decide), fun pt nt => ⟨pt, _, rfl, .inr (.inl (.inl upd_same)), rfl, rfl, _, rfl, iteF (hQ _ (same_upd nt))⟩⟩
    | shift t c b =>
      have ex := hX2.shift t c b rfl
      subst ex
      refine ⟨.ref q0, rfl, q0, _, 0, .str "shift", rfl, rfl, hX2.sq, atI_nat (j := 0) rfl, rfl, _, rfl, wd_ne (by decide) (iteF ?_)⟩
      exact ⟨.ref q0, rfl, q0, _, 0, .str "shift", rfl, rfl, hX2.sq, atI_nat (j := 0) rfl, (by show 2 ≤ sizeLine; decide), fun pt nt => ⟨pt, _, rfl, .inr (.inl (.inl upd_same)), rfl, rfl, _, rfl, iteF (hQ _ (same_upd nt))⟩⟩
  cases hrf : refR rs dd with
  | true => exact qN (.inl hrf) H3 (s02.trans s3)
  | false =>
  rw [if_neg Bool.false_ne_true]
  have s03 := s02.trans s3
  clear hX2 s2 s1 e1 eK s3 s02
  -- made = []
  refine ⟨Nat.zero_le _, fun D6 n6 => ?_⟩
  have s36 := same_upd (o := .lst []) n6
  have e6 : (upd H3 D6 (.lst [])) D6 = some (.lst []) := upd_same
  generalize upd H3 D6 (.lst []) = H4 at s36 e6 ⊢
  have s04 := s03.trans s36
  have n6H : H D6 = none := Same.free s03 n6
  have sk : ∀ {H' : Hp}, Kept [D6] H4 H' → Same H H' := fun {H'} k p o e => k p o (s04 p o e) fun z => by
    rw [List.mem_singleton.mp z, n6H] at e; cases e
  dsimp only [List.set]
  show tSeq _ (tSeq _ _) _ [some (.ref tp), some (.ref cp), some (.ref q0), some (.int at'), some (.ref DK), some (.int 0), some (.ref D6), none, none, none, none, none, none, none] H4
  refine ⟨.ref cp, rfl, .int at', rfl, cp, cx, at', .ref rp, rfl, rfl, stillL s04 hCX, atI_nat hx, rp, rfl, ⟨yr, stillL s04 hRP⟩, ?_⟩
  refine for_it (walk_list (xs := yr)) (fun j σ H' => (∃ (pl : Int) (y7 y8 y9 : Option V), σ = [some (.ref tp), some (.ref cp), some (.ref q0), some (.int at'), some (.ref DK), some (.int pl), some (.ref D6), y7, y8, y9, none, none, none, none]) ∧
      (∃ um, H' D6 = some (.lst um) ∧ DpAll K H' um (((rs.take j).filterMap (stepR zs dd)).map rowD)) ∧ Kept [D6] H4 H') ⟨⟨_, _, _, _, rfl⟩, ⟨[], e6, .nil⟩, Kept.refl _ _⟩ (fun j σ H' _ hP => stillL (sk hP.2.2) hRP) (fun j x σ H5 H5' hj hP hY => ?_) (fun σ H5 hP => ?_)
  · obtain ⟨rfl, hx5⟩ := hY
    obtain ⟨⟨pl, y7, y8, y9, rfl⟩, ⟨um, eM, dM⟩, k5⟩ := hP
    have s05 := sk k5
    obtain ⟨row, p2, hrow, rfl, hp2⟩ := row_at' hRA hx5
    have okr := hA.ok.row row (List.mem_of_getElem? hrow)
    have key0 := row_key okr
    have lum : um.length ≤ 900 := by
      rw [dpAll_len dM, List.length_map]
      have z := List.length_filterMap_le (stepR zs dd) (rs.take j)
      rw [List.length_take] at z
      omega
    have et : (rs.take (j + 1)).filterMap (stepR zs dd) = (rs.take j).filterMap (stepR zs dd) ++ (if goneB zs dd row = true then [] else [workR zs dd row]) := by
      rw [List.take_add_one, hrow, List.filterMap_append]
      congr 1
      show List.filterMap _ [row] = _
      rw [List.filterMap_cons, List.filterMap_nil, step_eq]
      cases goneB zs dd row <;> rfl
    -- worths = list(row)
    refine ⟨.ref p2, rfl, p2, _, rfl, .inr (sameT s05 hp2), fun W nW => ?_⟩
    have sW := same_upd (o := .lst (row.map wV)) nW
    have eW : (upd H5' W (.lst (row.map wV))) W = some (.lst (row.map wV)) := upd_same
    generalize upd H5' W (.lst (row.map wV)) = H6 at sW eW ⊢
    have s06 := s05.trans sW
    have nWH : H5' W = none := nW
    dsimp only [List.set]
    refine gN ?_
    dsimp only [List.set]
    show tSeq (tIfS _ _ _) (tSeq _ _) _ [some (.ref tp), some (.ref cp), some (.ref q0), some (.int at'), some (.ref DK), some (.int pl), some (.ref D6), some (.ref p2), some (.ref W), y9, none, none, none, none] H6
    -- place
    refine splitS (fun v H' => ∃ p3 : Int, v = .int p3 ∧ (∀ c, colOfD dd = some c → p3 = (zs.idxOf c : Nat)) ∧ Same H6 H') (fun v => [some (.ref tp), some (.ref cp), some (.ref q0), some (.int at'), some (.ref DK), some v, some (.ref D6), some (.ref p2), some (.ref W), y9, none, none, none, none]) (fun v H7 hP => ?_) (fun rest => ?_)
    rotate_left
    · refine ⟨.ref q0, rfl, q0, xs, 0, .str (wordOf dd), rfl, rfl, sameT s06 hX.sq, atI_nat (j := 0) hX.w, (by show 3 ≤ sizeLine; decide), fun pt nt => ⟨pt, _, rfl, .inr (.inl (.inl upd_same)), rfl, rfl, _, rfl, ?_⟩⟩
      have sp := same_upd (o := .tup [.str "set", .str "shift", .str "sweep"]) nt
      have ew : inV (.str (wordOf dd)) [.str "set", .str "shift", .str "sweep"] = (colOfD dd).isSome := by
        cases dd with
        | put _ _ => exact (show inV (.str "put") [.str "set", .str "shift", .str "sweep"] = false from by decide +kernel)
        | drop _ _ => exact (show inV (.str "drop") [.str "set", .str "shift", .str "sweep"] = false from by decide +kernel)
        | sweep _ _ _ => exact (show inV (.str "sweep") [.str "set", .str "shift", .str "sweep"] = true from by decide +kernel)
        | shift _ _ _ => exact (show inV (.str "shift") [.str "set", .str "shift", .str "sweep"] = true from by decide +kernel)
        | set _ _ _ _ => exact (show inV (.str "set") [.str "set", .str "shift", .str "sweep"] = true from by decide +kernel)
      rw [if_neg Bool.false_ne_true, ew]
      cases hcd : colOfD dd with
      | none => exact iteF (rest (.int pl) _ ⟨pl, rfl, (fun c h => by rw [hcd] at h; cases h), sp⟩)
      | some c =>
        have hcz : c ∈ zs ∧ ∃ n, xs.length = n ∧ atI xs (-2) = some (.str c) := by
          cases dd with
          | put t r => cases hcd
          | drop t k => cases hcd
          | sweep t c' o => cases hcd; rw [hzs]; exact ⟨okd.2, _, rfl, by rw [hX.sweep t c o rfl]; rfl⟩
          | shift t c' b => cases hcd; rw [hzs]; exact ⟨okd.2, _, rfl, by rw [hX.shift t c b rfl]; rfl⟩
          | set t k c' o => cases hcd; rw [hzs]; exact ⟨okd.2.1, _, rfl, by rw [hX.set t k c o rfl]; rfl⟩
        obtain ⟨hcz, _, _, at2⟩ := hcz
        have s07 := s06.trans sp
        obtain ⟨xw, hxw⟩ : ∃ x, ws[at']? = some x := ⟨_, List.getElem?_eq_getElem (by rw [lw]; rw [List.length_map] at lat; exact lat)⟩
        obtain ⟨tb2, qq, pc, yc, htb2, rfl, g1, g2, g3⟩ := tab_at hTA hxw
        have etb : tb2.1 = tabOf dd := by
          have z1 : (tns ts)[at']? = some tb2.1 := by rw [List.getElem?_map, htb2]; rfl
          have z2 : (tns ts)[at']? = some (tabOf dd) := by
            have lat' := lat
            rw [List.getElem?_eq_getElem lat']
            have z3 : (tns ts)[(tns ts).idxOf (tabOf dd)]? = some (tabOf dd) := by
              have l4 : (tns ts).idxOf (tabOf dd) < (tns ts).length := by rw [← hat]; exact lat
              rw [List.getElem?_eq_getElem l4, List.getElem_idxOf]
            rw [← hat, List.getElem?_eq_getElem lat] at z3
            exact z3
          rw [z1] at z2; exact Option.some.inj z2
        have ezs : zs = tb2.2.map (·.1) := by
          rw [hzs]
          show (colsOf ts (tabOf dd)).map _ = _
          rw [← etb, colsOf_mem hT.ok.nd (List.mem_of_getElem? htb2)]
        have lyc : yc.length = zs.length := by rw [dpAll_len g3, List.length_map, ezs, List.length_map]
        have lz5 : zs.length ≤ 5 := by rw [hzs]; exact (cns_ok hT.ok ht).2.2.1
        refine iteT ⟨.ref tp, rfl, .int at', rfl, tp, ws, at', .ref qq, rfl, rfl, sameT s07 hTS, atI_nat hxw, ixB (b := true) (i := 1) (sameT s07 g1) rfl ⟨pc, rfl, ⟨yc, sameT s07 g2⟩, fun D nD => ?_⟩⟩
        refine lc_mapS (walk_tup (xs := yc)) (ys := zs.map V.str) (by rw [List.length_map, lyc]) (by omega) nD (fun H' kk => sameT (s07.trans (keptS kk nD)) g2) (fun i3 x3 H' C N hx3 sm hC3 => ?_) (fun Hb eD sb2 => ?_)
        · obtain ⟨co, q3, y3, hco, rfl, hq3⟩ := col_at g3 hx3
          exact ⟨rfl, iteT ⟨.ref q3, rfl, q3, _, 0, .str co.1, rfl, rfl, sameT (s07.trans sm) hq3, atI_nat (j := 0) rfl, hC3 _ (by rw [ezs, List.getElem?_map, List.getElem?_map, hco]; rfl)⟩⟩
        refine ⟨.inl ⟨rfl, _, .inl (.inl eD)⟩, .ref q0, rfl, _, rfl, q0, xs, -2, .str c, rfl, rfl, sameT (s07.trans sb2) hX.sq, at2, ?_⟩
        refine ix_strs eD hcz ?_
        exact rest (.int (zs.idxOf c : Nat)) _ ⟨_, rfl, (fun c' h => by rw [hcd] at h; cases h; rfl), sp.trans sb2⟩
    obtain ⟨p3, rfl, hp3, s67⟩ := hP
    have s07 := s06.trans s67
    have eW7 := s67 _ _ eW
    have hX7 := hX.same s07
    have lz : zs.length = (cns ts (tabOf dd)).length := by rw [hzs]
    -- the worths
    refine splitU (fun H' => H' W = some (.lst ((workR zs dd row).map wV)) ∧ Kept [W] H7 H') [some (.ref tp), some (.ref cp), some (.ref q0), some (.int at'), some (.ref DK), some (.int p3), some (.ref D6), some (.ref p2), some (.ref W), y9, none, none, none, none] (fun H8 hP => ?_) (fun rest => ?_)
    rotate_left
    · cases dd with
      | put t r =>
        refine ⟨.ref q0, rfl, q0, _, 0, .str "put", rfl, rfl, hX7.sq, atI_nat (j := 0) hX7.w, rfl, _, rfl, wd_ne (by decide) (iteF ?_)⟩
        exact ⟨.ref q0, rfl, q0, _, 0, .str "put", rfl, rfl, hX7.sq, atI_nat (j := 0) hX7.w, rfl, _, rfl, wd_ne (by decide) (iteF (rest H7 ⟨eW7, Kept.refl _ _⟩))⟩
      | drop t k =>
        refine ⟨.ref q0, rfl, q0, _, 0, .str "drop", rfl, rfl, hX7.sq, atI_nat (j := 0) hX7.w, rfl, _, rfl, wd_ne (by decide) (iteF ?_)⟩
        exact ⟨.ref q0, rfl, q0, _, 0, .str "drop", rfl, rfl, hX7.sq, atI_nat (j := 0) hX7.w, rfl, _, rfl, wd_ne (by decide) (iteF (rest H7 ⟨eW7, Kept.refl _ _⟩))⟩
      | sweep t c o =>
        refine ⟨.ref q0, rfl, q0, _, 0, .str "sweep", rfl, rfl, hX7.sq, atI_nat (j := 0) hX7.w, rfl, _, rfl, wd_ne (by decide) (iteF ?_)⟩
        exact ⟨.ref q0, rfl, q0, _, 0, .str "sweep", rfl, rfl, hX7.sq, atI_nat (j := 0) hX7.w, rfl, _, rfl, wd_ne (by decide) (iteF (rest H7 ⟨eW7, Kept.refl _ _⟩))⟩
      | shift t c b =>
        have hc3 := hp3 c rfl
        subst hc3
        have ex := hX7.shift t c b rfl
        have hcz : c ∈ zs := by rw [hzs]; exact okd.2
        have lt : zs.idxOf c < row.length := by rw [okr.len, ← lz]; exact List.idxOf_lt_length_of_mem hcz
        have lt2 : zs.idxOf c < (row.map wV).length := by rw [List.length_map]; exact lt
        have hv : (row.map wV)[zs.idxOf c]? = some (wV (cellAt zs c row)) := cell_row okr (by rw [lz]) hcz
        refine ⟨.ref q0, rfl, q0, _, 0, .str "shift", rfl, rfl, hX7.sq, atI_nat (j := 0) hX7.w, rfl, _, rfl, wd_eq ?_⟩
        refine ⟨.ref W, rfl, .int _, rfl, W, _, _, _, rfl, rfl, .inl (.inl eW7), atI_nat hv, rfl, _, rfl, ?_⟩
        have second : ∀ H8, H8 W = some (.lst ((workR zs (.shift t c b) row).map wV)) → Kept [W] H7 H8 → SqT K H8 q0 xs → _ := fun H8 a b c => rest H8 ⟨a, b⟩
        cases e : cellAt zs c row with
        | none =>
          refine iteF ?_
          refine ⟨.ref q0, rfl, q0, _, 0, .str "shift", rfl, rfl, hX7.sq, atI_nat (j := 0) hX7.w, rfl, _, rfl, wd_ne (by decide) (iteF (rest H7 ⟨?_, Kept.refl _ _⟩))⟩
          rw [show workR zs (.shift t c b) row = row by show (match cellAt zs c row with | some x => _ | none => row) = row; rw [e]]
          exact eW7
        | some x =>
          refine iteT ?_
          rw [e] at hv
          refine ⟨.ref W, rfl, .int _, rfl, W, _, _, .int x, rfl, rfl, .inl (.inl eW7), atI_nat hv, .ref q0, rfl, q0, xs, 3, .int b, rfl, rfl, hX7.sq, atI_nat (j := 3) (by rw [ex]; rfl), _, _, rfl, rfl, ?_⟩
          refine ⟨.ref W, rfl, .int _, rfl, W, _, _, zs.idxOf c, rfl, rfl, eW7, ixN_nat lt2, ?_⟩
          have kW : Kept [W] H7 (upd H7 W (.lst ((row.map wV).set (zs.idxOf c) (.int (x + b))))) := Kept.upd_in (List.mem_cons_self ..)
          have sq8 : SqT K (upd H7 W (.lst ((row.map wV).set (zs.idxOf c) (.int (x + b))))) q0 xs := by
            rcases hX7.sq with (h | ⟨o, h⟩) | h
            · exact .inl (.inl (kW.at h fun z => by rw [List.mem_singleton.mp z, eW7] at h; cases h))
            · exact .inl (.inr ⟨o, kW.at h fun z => by rw [List.mem_singleton.mp z, eW7] at h; cases h⟩)
            · exact .inr h
          refine ⟨.ref q0, rfl, q0, _, 0, .str "shift", rfl, rfl, sq8, atI_nat (j := 0) hX7.w, rfl, _, rfl, wd_ne (by decide) (iteF (rest _ ⟨?_, kW⟩))⟩
          rw [upd_same, show workR zs (.shift t c b) row = row.set (zs.idxOf c) (some (x + b)) by show (match cellAt zs c row with | some x => _ | none => row) = _; rw [e], List.map_set]
          rfl
      | set t k c o =>
        have hc3 := hp3 c rfl
        subst hc3
        have ex := hX7.set t k c o rfl
        have hcz : c ∈ zs := by rw [hzs]; exact okd.2.1
        have lt : zs.idxOf c < row.length := by rw [okr.len, ← lz]; exact List.idxOf_lt_length_of_mem hcz
        have lt2 : zs.idxOf c < (row.map wV).length := by rw [List.length_map]; exact lt
        refine ⟨.ref q0, rfl, q0, _, 0, .str "set", rfl, rfl, hX7.sq, atI_nat (j := 0) hX7.w, rfl, _, rfl, wd_ne (by decide) (iteF ?_)⟩
        refine ⟨.ref q0, rfl, q0, _, 0, .str "set", rfl, rfl, hX7.sq, atI_nat (j := 0) hX7.w, rfl, _, rfl, wd_eq ?_⟩
        refine ⟨.ref p2, rfl, p2, _, 0, .int (keyW row), rfl, rfl, sameT s07 hp2, atI_nat (j := 0) key0, .ref q0, rfl, q0, xs, 2, .int k, rfl, rfl, hX7.sq, atI_nat (j := 2) (by rw [ex]; rfl), rfl, _, rfl, ite2 (fun e => ?_) (fun e => ?_)⟩
        · have e : keyW row = k := V.int.inj (of_decide_eq_true e)
          refine ⟨.ref q0, rfl, q0, xs, 4, wV o, rfl, rfl, hX7.sq, atI_nat (j := 4) (by rw [ex]; rfl), .ref W, rfl, .int _, rfl, W, _, _, zs.idxOf c, rfl, rfl, eW7, ixN_nat lt2, rest _ ⟨?_, Kept.upd_in (List.mem_cons_self ..)⟩⟩
          rw [upd_same, show workR zs (.set t k c o) row = row.set (zs.idxOf c) o from if_pos e, List.map_set]
        · have e : ¬ keyW row = k := fun z => e (by rw [z]; exact decide_eq_true rfl)
          refine rest H7 ⟨?_, Kept.refl _ _⟩
          rw [show workR zs (.set t k c o) row = row from if_neg e]
          exact eW7
    obtain ⟨eW8, k8⟩ := hP
    have s58 : Same H5' H8 := fun p o e => k8 p o (s67 _ _ (sW _ _ e)) fun z => by
      rw [List.mem_singleton.mp z, nWH] at e; cases e
    have s08 := s05.trans s58
    have hX8 := hX.same s08
    show tSeq _ (tIfS _ _ _) _ [some (.ref tp), some (.ref cp), some (.ref q0), some (.int at'), some (.ref DK), some (.int p3), some (.ref D6), some (.ref p2), some (.ref W), y9, none, none, none, none] H8
    refine splitS (fun v H' => v = .bl (goneB zs dd row) ∧ Same H8 H') (fun v => [some (.ref tp), some (.ref cp), some (.ref q0), some (.int at'), some (.ref DK), some (.int p3), some (.ref D6), some (.ref p2), some (.ref W), some v, none, none, none, none]) (fun v H9 hP => ?_) (fun rest => ?_)
    rotate_left
    · cases dd with
      | put t r =>
        exact ⟨.ref q0, rfl, q0, _, 0, .str "put", rfl, rfl, hX8.sq, atI_nat (j := 0) hX8.w, rfl, _, rfl, wd_ne (by decide) ⟨_, rfl, iteF ⟨.ref q0, rfl, q0, _, 0, .str "put", rfl, rfl, hX8.sq, atI_nat (j := 0) hX8.w, rfl, _, rfl, wd_ne (by decide) (rest (.bl false) H8 ⟨rfl, Same.refl _⟩)⟩⟩⟩
      | shift t c b =>
        exact ⟨.ref q0, rfl, q0, _, 0, .str "shift", rfl, rfl, hX8.sq, atI_nat (j := 0) hX8.w, rfl, _, rfl, wd_ne (by decide) ⟨_, rfl, iteF ⟨.ref q0, rfl, q0, _, 0, .str "shift", rfl, rfl, hX8.sq, atI_nat (j := 0) hX8.w, rfl, _, rfl, wd_ne (by decide) (rest (.bl false) H8 ⟨rfl, Same.refl _⟩)⟩⟩⟩
      | set t k c o =>
        exact ⟨.ref q0, rfl, q0, _, 0, .str "set", rfl, rfl, hX8.sq, atI_nat (j := 0) hX8.w, rfl, _, rfl, wd_ne (by decide) ⟨_, rfl, iteF ⟨.ref q0, rfl, q0, _, 0, .str "set", rfl, rfl, hX8.sq, atI_nat (j := 0) hX8.w, rfl, _, rfl, wd_ne (by decide) (rest (.bl false) H8 ⟨rfl, Same.refl _⟩)⟩⟩⟩
      | drop t k =>
        have ex := hX8.drop t k rfl
        refine ⟨.ref q0, rfl, q0, _, 0, .str "drop", rfl, rfl, hX8.sq, atI_nat (j := 0) hX8.w, rfl, _, rfl, wd_eq ?_⟩
        refine ⟨.ref p2, rfl, p2, _, 0, .int (keyW row), rfl, rfl, sameT s08 hp2, atI_nat (j := 0) key0, .ref q0, rfl, q0, xs, 2, .int k, rfl, rfl, hX8.sq, atI_nat (j := 2) (by rw [ex]; rfl), rfl, _, rfl, ite2 (fun e => ?_) (fun e => ?_)⟩
        · have e : keyW row = k := V.int.inj (of_decide_eq_true e)
          exact rest (.bl true) H8 ⟨by rw [show goneB zs (.drop t k) row = true from decide_eq_true e], Same.refl _⟩
        · have e : ¬ keyW row = k := fun z => e (by rw [z]; exact decide_eq_true rfl)
          exact ⟨.ref q0, rfl, q0, _, 0, .str "drop", rfl, rfl, hX8.sq, atI_nat (j := 0) hX8.w, rfl, _, rfl, wd_ne (by decide) (rest (.bl false) H8 ⟨by rw [show goneB zs (.drop t k) row = false from decide_eq_false e], Same.refl _⟩)⟩
      | sweep t c o =>
        have ex := hX8.sweep t c o rfl
        have hc3 := hp3 c rfl
        subst hc3
        have hcz : c ∈ zs := by rw [hzs]; exact okd.2
        have hv : (row.map wV)[zs.idxOf c]? = some (wV (cellAt zs c row)) := cell_row okr (by rw [lz]) hcz
        refine ⟨.ref q0, rfl, q0, _, 0, .str "sweep", rfl, rfl, hX8.sq, atI_nat (j := 0) hX8.w, rfl, _, rfl, wd_ne (by decide) ⟨_, rfl, iteF ?_⟩⟩
        refine ⟨.ref q0, rfl, q0, _, 0, .str "sweep", rfl, rfl, hX8.sq, atI_nat (j := 0) hX8.w, rfl, _, rfl, wd_eq ?_⟩
        refine ⟨.ref p2, rfl, .int _, rfl, p2, _, _, _, rfl, rfl, sameT s08 hp2, atI_nat hv, .ref q0, rfl, q0, xs, 3, wV o, rfl, rfl, hX8.sq, atI_nat (j := 3) (by rw [ex]; rfl), (by cases cellAt zs c row <;> cases o <;> rfl), ?_⟩
        exact rest _ H8 ⟨by rw [wV_dec]; rfl, Same.refl _⟩
    obtain ⟨rfl, s89⟩ := hP
    have eW9 := s89 _ _ eW8
    have s59 := s58.trans s89
    refine ⟨.bl (goneB zs dd row), rfl, _, rfl, ?_⟩
    cases hg : goneB zs dd row with
    | true =>
      refine iteF ?_
      rw [hg, if_pos rfl, List.append_nil] at et
      refine ⟨⟨_, _, _, _, rfl⟩, ⟨um, s59 _ _ eM, ?_⟩, k5.trans (Kept.of_same s59)⟩
      rw [et]
      exact dpAll_same s59 dM
    | false =>
      rw [hg, if_neg Bool.false_ne_true] at et
      have eM9 := s59 _ _ eM
      refine iteT ⟨.ref D6, rfl, .inl ⟨rfl, _, .inl (.inl eM9)⟩, .ref W, rfl, W, _, rfl, .inl ⟨.inl (.inl eW9), fun t nt => ?_⟩⟩
      have st := same_upd (o := .tup ((workR zs dd row).map wV)) nt
      have eMt := st _ _ eM9
      have ett : (upd H9 t (.tup ((workR zs dd row).map wV))) t = some (.tup ((workR zs dd row).map wV)) := upd_same
      have s5t := s59.trans st
      generalize upd H9 t (.tup ((workR zs dd row).map wV)) = Hb at st eMt ett s5t ⊢
      have kt : KeepT Hb (upd Hb D6 (.lst (um ++ [.ref t]))) := .write eMt (fun _ z => by cases z) (fun _ _ z => by cases z)
      refine ⟨D6, um, .ref t, rfl, rfl, eMt, small1000 (by omega), ⟨_, _, _, _, rfl⟩, ⟨um ++ [.ref t], upd_same, ?_⟩, k5.trans ((Kept.of_same s5t).trans (Kept.upd_in (List.mem_cons_self ..)))⟩
      rw [et]
      refine rows_write ?_ kt.1 kt.2
      rw [List.map_append]
      exact dpAll_snoc (dpAll_same s5t dM) (.tup (.inl (.inl ett)) (dps_row _))
  -- behind the rows
  obtain ⟨⟨pl, y7, y8, y9, rfl⟩, ⟨um, eM, dM⟩, k5⟩ := hP
  rw [lyr, List.take_length] at dM
  have s05 := sk k5
  have hX5 := hX.same s05
  have lum : um.length ≤ 60 := by
    rw [dpAll_len dM, List.length_map]
    have z := List.length_filterMap_le (stepR zs dd) rs
    omega
  obtain ⟨v2, hv2⟩ : ∃ v2, xs[2]? = some v2 := by
    cases dd with
    | put t r => obtain ⟨rp0, ex, _⟩ := hX.put t r rfl; exact ⟨_, by rw [ex]; rfl⟩
    | drop t k => exact ⟨_, by rw [hX.drop t k rfl]; rfl⟩
    | sweep t c o => exact ⟨_, by rw [hX.sweep t c o rfl]; rfl⟩
    | shift t c b => exact ⟨_, by rw [hX.shift t c b rfl]; rfl⟩
    | set t k c o => exact ⟨_, by rw [hX.set t k c o rfl]; rfl⟩
  refine ⟨.ref D6, rfl, .ref q0, rfl, q0, xs, 2, v2, rfl, rfl, hX5.sq, atI_nat (j := 2) hv2, (by show 1 ≤ sizeLine; decide), fun l nl => ?_⟩
  have sl := same_upd (o := .lst [v2]) nl
  refine ⟨.ref q0, rfl, q0, xs, 0, .str (wordOf dd), rfl, rfl, sameT sl hX5.sq, atI_nat (j := 0) hX5.w, rfl, .inr ⟨_, rfl, ?_⟩⟩
  obtain ⟨nv, hnv, lnv, dnv⟩ : ∃ nv : List V, (List.replicate ((if decide (V.str (wordOf dd) = V.str "put") = true then (1 : Int) else 0)).toNat [v2]).flatten = nv ∧ nv.length ≤ 1 ∧ DpAll K H nv (((putR dd).map (·.2)).map rowD) := by
    cases dd with
    | put t r =>
      obtain ⟨rp0, ex, hrp⟩ := hX.put t r rfl
      rw [ex] at hv2
      cases hv2
      exact ⟨[.ref rp0], by rw [wdInt1 (w := wordOf (.put t r)) rfl]; rfl, Nat.le_refl _, .cons (.tup hrp (dps_row r)) .nil⟩
    | drop t k => exact ⟨[], by rw [wdInt0 (w := wordOf (.drop t k)) (show ("drop" : Str) ≠ "put" by decide)]; rfl, Nat.zero_le _, .nil⟩
    | sweep t c o => exact ⟨[], by rw [wdInt0 (w := wordOf (.sweep t c o)) (show ("sweep" : Str) ≠ "put" by decide)]; rfl, Nat.zero_le _, .nil⟩
    | shift t c b => exact ⟨[], by rw [wdInt0 (w := wordOf (.shift t c b)) (show ("shift" : Str) ≠ "put" by decide)]; rfl, Nat.zero_le _, .nil⟩
    | set t k c o => exact ⟨[], by rw [wdInt0 (w := wordOf (.set t k c o)) (show ("set" : Str) ≠ "put" by decide)]; rfl, Nat.zero_le _, .nil⟩
  have hi : (0 : Int) ≤ (if decide (V.str (wordOf dd) = V.str "put") = true then (1 : Int) else 0) ∧ (if decide (V.str (wordOf dd) = V.str "put") = true then (1 : Int) else 0) ≤ 1 := by split <;> omega
  refine ⟨l, _, [v2], rfl, rfl, upd_same, by omega, by omega, (by show 1 * _ ≤ sizeLine; have : (if decide (V.str (wordOf dd) = V.str "put") = true then (1 : Int) else 0).toNat ≤ 1 := by omega
                                                                  exact Nat.le_trans (Nat.mul_le_mul_left 1 this) (by decide)), fun p3 np3 => ?_⟩
  rw [hnv]
  have sp3 := same_upd (o := .lst nv) np3
  have eM3 := sp3 _ _ (sl _ _ eM)
  refine ⟨D6, p3, um, nv, rfl, rfl, eM3, upd_same, Nat.le_of_lt (small1000 (by omega)), fun DM nDM => ?_⟩
  have sDM := same_upd (o := .lst (um ++ nv)) nDM
  have s5M := sl.trans (sp3.trans sDM)
  obtain ⟨mk, hmk⟩ : ∃ mk, mk = madeR zs rs dd := ⟨_, rfl⟩
  have dK : DpAll K (upd (upd (upd H5 l (.lst [v2])) p3 (.lst nv)) DM (.lst (um ++ nv))) (um ++ nv) (mk.map rowD) := by
    rw [hmk]
    unfold madeR
    rw [List.map_append]
    exact dpAll_app (dpAll_same s5M dM) (dpAll_same (s05.trans s5M) dnv)
  have eDM : (upd (upd (upd H5 l (.lst [v2])) p3 (.lst nv)) DM (.lst (um ++ nv))) DM = some (.lst (um ++ nv)) := upd_same
  have luk : (um ++ nv).length ≤ 61 := by rw [List.length_append]; omega
  have s09 := s05.trans s5M
  generalize um ++ nv = uk at dK eDM luk s09 ⊢
  generalize upd (upd (upd H5 l (.lst [v2])) p3 (.lst nv)) DM (.lst uk) = H9 at dK eDM s09 ⊢
  have hperm : mk.Perm (freshD ts ct rs dd (tabOf dd)) := by rw [hmk, hzs]; exact made_fresh hA okd
  have hkey : ∀ r ∈ mk, ∃ k t0, r = some k :: t0 := fun r hr => hfk r (hperm.mem_iff.mp hr)
  have lmk : mk.length = uk.length := by rw [dpAll_len dK, List.length_map]
  clear hmk dM eM k5 sl sp3 sDM s5M eM3 hnv dnv hX5
  show tSeq _ (tSeq _ _) _ [some (.ref tp), some (.ref cp), some (.ref q0), some (.int at'), some (.ref DK), some (.int pl), some (.ref DM), y7, y8, y9, none, none, none, none] H9
  -- the keys
  refine ⟨.ref DM, rfl, DM, rfl, ⟨uk, .inl (.inl eDM)⟩, fun DK2 nDK => ?_⟩
  refine lc_mapS (walk_list (xs := uk)) (ys := (mk.map keyW).map V.int) (by rw [List.length_map, List.length_map, lmk]) (by omega) nDK (fun H' kk => .inl (.inl (keptS kk nDK _ _ eDM))) (fun i3 x3 H' C N hx3 sm hC3 => ?_) (fun Ha eDK sa => ?_)
  · obtain ⟨r3, p3, hr3, rfl, hp3⟩ := row_at' dK hx3
    exact ⟨rfl, iteT ⟨.ref p3, rfl, p3, _, 0, .int (keyW r3), rfl, rfl, sameT sm hp3, atI_nat (j := 0) (key_at0 (hkey r3 (List.mem_of_getElem? hr3))), hC3 _ (by rw [List.getElem?_map, List.getElem?_map, hr3]; rfl)⟩⟩
  refine ⟨DK2, mk.map keyW, rfl, .inl (.inl eDK), fun ks KS hper hup nKS => ?_⟩
  have eks := keys_same hper hup hperm
  have lks : ks.length ≤ 61 := by rw [hper.length_eq, List.length_map, lmk]; exact luk
  have sK := same_upd (o := .lst (ks.map V.int)) nKS
  have eKS : (upd Ha KS (.lst (ks.map V.int))) KS = some (.lst (ks.map V.int)) := upd_same
  have s9b := sa.trans sK
  generalize upd Ha KS (.lst (ks.map V.int)) = Hb at eKS s9b ⊢
  have s0b := s09.trans s9b
  -- twice?
  refine ⟨.ref KS, rfl, KS, ks, rfl, .inl (.inl eKS), by omega, fun kk nd hm => ?_⟩
  refine ⟨.ref KS, rfl, KS, _, rfl, .inl (.inl (.inl eKS)), _, _, rfl, rfl, _, rfl, ?_⟩
  rw [List.length_map, dup_less nd hm]
  refine ite2 (fun e => ?_) (fun e => ?_)
  · refine qN (.inr fun no => ?_) Hb s0b
    have nd2 : ¬ ks.Nodup := fun z => by rw [decide_eq_true z] at e; cases e
    refine nd2 ?_
    rw [eks]
    have := up_strict (rise_up (freshD ts ct rs dd (tabOf dd))) no
    exact this.imp fun h => by omega
  have nd2 : ks.Nodup := by
    by_cases z : ks.Nodup
    · exact z
    · exact absurd (by rw [decide_eq_false z]; rfl) e
  have no : twiceD ts ct rs dd = none := by
    cases q : twiceD ts ct rs dd with
    | none => rfl
    | some k => exact absurd (by rw [← eks]; exact nd2) (twice_nodup q)
  obtain ⟨fr, hfr⟩ : ∃ fr, fr = riseR (freshD ts ct rs dd (tabOf dd)) := ⟨_, rfl⟩
  have eMb := s9b _ _ eDM
  have dKb := dpAll_same s9b dK
  have lfr : fr.length = ks.length := by rw [eks, List.length_map, hfr]
  have hks : ∀ i3 : Nat, (ks.map V.int)[i3]? = (fr.map fun r => V.int (keyW r))[i3]? := fun i3 => by rw [eks, hfr, List.map_map]; rfl
  -- the rows, rising
  refine ⟨.ref KS, rfl, KS, rfl, ⟨_, .inl (.inl eKS)⟩, fun DO nDO => ?_⟩
  refine lc_filt (K := K) (tt := tYes) (walk_list (xs := ks.map V.int)) (l := fr) [] (by rw [List.length_map, lfr]) (by omega) (fun _ => true) rowD (fun v r => v = .int (keyW r)) nDO (fun H' kk => .inl (.inl (keptS kk nDO _ _ eKS))) (fun i3 x3 hx3 => ?_) (fun x3 r H' C N hr hR kk eDO yesC noC => ?_) (fun uo H2 go kk => ?_) List.not_mem_nil
  · rw [hks, List.getElem?_map] at hx3
    obtain ⟨r, hr, rfl⟩ := Option.map_eq_some_iff.mp hx3
    exact ⟨r, hr, rfl⟩
  · subst hR
    obtain ⟨wsO, eDO⟩ := eDO
    have sO := keptS kk nDO
    refine ⟨rfl, show (if true = true then _ else N H') from iteT ?_⟩
    refine ⟨.ref DM, rfl, DM, rfl, ⟨uk, .inl (.inl (sO _ _ eMb))⟩, fun DI nDI => ?_⟩
    refine lc_filt (K := K) (walk_list (xs := uk)) (l := mk) [DO] lmk.symm (by omega) (fun x => decide (keyW x = keyW r)) rowD (fun v r' => ∃ p3, v = .ref p3 ∧ SqT K Hb p3 (r'.map wV)) nDI (fun H' kk => .inl (.inl (keptS kk nDI _ _ (sO _ _ eMb)))) (fun i3 x3 hx3 => ?_) (fun x3 r' H3 C3 N3 hr' hR kk3 eDI yes3 no3 => ?_) (fun ui H3 gi kk3 => ?_) ?_
    · obtain ⟨r3, p3, hr3, rfl, hp3⟩ := row_at' dKb hx3
      exact ⟨r3, hr3, p3, rfl, hp3⟩
    · obtain ⟨p3, rfl, hp3⟩ := hR
      obtain ⟨wsI, eDI⟩ := eDI
      have s3 := sO.trans (keptS kk3 nDI)
      have hp4 := sameT s3 hp3
      refine ⟨rfl, ?_⟩
      refine ⟨.ref p3, rfl, p3, _, 0, .int (keyW r'), rfl, rfl, hp4, atI_nat (j := 0) (key_at0 (hkey r' hr')), .int (keyW r), rfl, rfl, _, rfl, ite2 (fun e => ?_) (fun e => ?_)⟩
      · refine ⟨.ref p3, rfl, yes3 (decide_eq_true (V.int.inj (of_decide_eq_true e))) _ H3 (Kept.refl _ _) ?_⟩
        have z : DpAll K H3 [.ref p3] ([r'].map rowD) := .cons (.tup hp4 (dps_row _)) .nil
        have z2 := rows_off (rows_off (dpAll_same sameN z) (kk3.at eDO (by simp [ne_of_none eDO nDI]))) eDI
        cases z2 with
        | cons h1 _ => exact h1
      · exact no3 (decide_eq_false fun z => e (by rw [z]; exact decide_eq_true rfl)) H3 (Kept.refl _ _)
    · obtain ⟨tl, htl⟩ := one_row hperm no (by rw [← hfr]; exact hr)
      have gd := gi.dp
      rw [htl, List.map_cons] at gd
      cases hgd : ui with
      | nil => rw [hgd] at gd; cases gd
      | cons v ut =>
        rw [hgd] at gd
        have ei := gi.at'
        rw [hgd] at ei
        cases gd with
        | cons h1 _ =>
        refine ⟨DI, v :: ut, 0, v, rfl, rfl, .inl (.inl ei), atI_nat (j := 0) rfl, ?_⟩
        exact yesC rfl _ _ (kk3.new nDI) (dp_same (msk_less fun p hp => List.mem_cons_of_mem _ hp) h1)
    · simp [(ne_of_none eDO nDI).symm]
  have s2 := keptS kk nDO
  have hdO : Dp K H2 (.ref DO) (rowsD fr) := by
    have z := go.done List.not_mem_nil
    rw [List.filter_eq_self.mpr (fun _ _ => rfl)] at z
    exact dp_same (msk_sub _ _) z
  have s02 := s0b.trans s2
  refine ⟨.ref cp, rfl, .int at', rfl, _, rfl, cp, cx, rfl, stillL s02 hCX, fun p1 np1 => ⟨.ref DO, rfl, (by show 1 ≤ sizeLine; decide), fun p2 np2 => ?_⟩⟩
  rw [cutV_lo] at np2 ⊢
  have lcx2 : cx.length ≤ 8 := by rw [lcx, okc.len]; exact l8
  have n12 : p1 ≠ p2 := ne_of_none upd_same np2
  refine ⟨p1, p2, _, _, rfl, rfl, (by rw [upd_ne n12]; exact upd_same), upd_same, Nat.le_of_lt (small1000 (by rw [List.length_take]; show _ + 1 ≤ 1000; omega)), fun p3 np3 => ?_⟩
  have t1 := same_upd (o := .lst (cx.take at')) np1
  have t2 := same_upd (o := .lst [.ref DO]) np2
  have t3 := same_upd (o := .lst (cx.take at' ++ [.ref DO])) np3
  have t13 := t1.trans (t2.trans t3)
  have e3 : (upd (upd (upd H2 p1 (.lst (cx.take at'))) p2 (.lst [.ref DO])) p3 (.lst (cx.take at' ++ [.ref DO]))) p3 = some (.lst (cx.take at' ++ [.ref DO])) := upd_same
  generalize upd (upd (upd H2 p1 (.lst (cx.take at'))) p2 (.lst [.ref DO])) p3 (.lst (cx.take at' ++ [.ref DO])) = H4 at t13 e3 ⊢
  refine ⟨.ref cp, rfl, .int at', rfl, _, _, rfl, rfl, _, rfl, cp, cx, rfl, stillL (s02.trans t13) hCX, fun p4 np4 => ?_⟩
  rw [show (at' : Int) + 1 = ((at' + 1 : Nat) : Int) by omega, cutV_hi]
  have n34 : p3 ≠ p4 := ne_of_none e3 np4
  refine ⟨p3, p4, _, _, rfl, rfl, (by rw [upd_ne n34]; exact e3), upd_same, Nat.le_of_lt (small1000 (by rw [List.length_append, List.length_take, List.length_drop]; show _ + 1 + _ ≤ 1000; omega)), fun p5 np5 => ?_⟩
  have t45 := (same_upd (o := .lst (cx.drop (at' + 1))) np4).trans (same_upd (o := .lst ((cx.take at' ++ [.ref DO]) ++ cx.drop (at' + 1))) np5)
  have tz := t13.trans t45
  refine qY hrf no p5 _ (s02.trans tz) ?_
  have lct : at' < ct.length := by rw [okc.len, ← tns_len (ts := ts)]; exact lat
  have ez : nextR ts ct rs dd = ct.take at' ++ [fr] ++ ct.drop (at' + 1) := by
    unfold nextR
    rw [← hat, ← hfr, set_parts _ _ _ lct]
  rw [ez]
  refine .lst (.inl (.inl upd_same)) ?_
  rw [List.map_append, List.map_append, List.map_take, List.map_drop]
  have hC2 := dpAll_same (s02.trans tz) hCA
  exact dpAll_app (dpAll_app (dpAll_take at' hC2) (.cons (dp_same tz hdO) .nil)) (dpAll_drop (at' + 1) hC2)
end
end TT

set_option Elab.async false
set_option linter.all false
set_option maxRecDepth 100000
namespace TT
open PySem PySem.Spec PyProof.Rows L2 LamX
/-! ### a deed done by own_part and changed -/
structure NC (K : PySem.W.Frag) (CE CN CT C : Addr) (b1 b2 : Bool) : Prop where
  kx : KxC K C
  te : PySem.W.exmOne K (.ref C) (.ref CE) = some true
  k1 : PySem.W.kitOne K (.ref C) (.ref CN) = some b1
  k2 : PySem.W.kitOne K (.ref C) (.ref CT) = some b2
structure NK (K : PySem.W.Frag) (mg : Str → Option Value) (CE CN CT : Addr) : Prop where
  gE : mg "TableError" = some (.ref CE)
  gN : mg "NoRow" = some (.ref CN)
  gT : mg "Taken" = some (.ref CT)
  xN : NC K CE CN CT CN true false
  xT : NC K CE CN CT CT false true
theorem tab_kept {H H' : Hp} {Pt : Addr} {q : Str} (t : TabS H Pt q) (s : Same H H') : TabS H' Pt q := t.ext s
section
variable {ts : List Tab} {ct : List (List Rw)} {dd : Deed} {rs : List Rw} {L : Nat}
theorem cell_in (okd : DeedOk ts dd) : ∀ x ∈ cellR (cns ts (tabOf dd)) rs dd, x.1 ∈ tns ts ∧ x.2.2.1 ∈ cns ts x.1 := fun x hx => by
  cases dd with
  | set t k c o =>
    obtain ⟨r, _, rfl⟩ := List.mem_map.mp hx
    exact ⟨okd.1, okd.2.1⟩
  | shift t c b =>
    have hx : x ∈ (if b = 0 then [] else _) := hx
    by_cases z : b = 0
    · rw [if_pos z] at hx; cases hx
    · rw [if_neg z] at hx
      obtain ⟨r, _, rfl⟩ := List.mem_map.mp hx
      exact okd
  | _ => cases hx
theorem gone_len {zs : List Str} : (goneR zs rs dd).length ≤ rs.length + 1 := by
  cases dd with
  | drop t k => exact Nat.le_add_left _ _
  | sweep t c o =>
    show ((rs.filter _).map _).length ≤ _
    rw [List.length_map]
    have := List.length_filter_le (fun r => decide (cellAt zs c r = o)) rs
    omega
  | _ => exact Nat.zero_le _
theorem cell_len {zs : List Str} : (cellR zs rs dd).length ≤ rs.length := by
  cases dd with
  | set t k c o =>
    show ((rs.filter _).map _).length ≤ _
    rw [List.length_map]
    exact List.length_filter_le _ _
  | shift t c b =>
    show (if b = 0 then [] else _ : List Cell).length ≤ _
    by_cases z : b = 0
    · rw [if_pos z]; exact Nat.zero_le _
    · rw [if_neg z, List.length_map]
      exact List.length_filter_le _ _
  | _ => exact Nat.zero_le _
theorem put_len : (putR dd).length ≤ 1 := by
  cases dd <;> first | exact Nat.le_refl 1 | exact Nat.zero_le _
theorem put_key (okd : DeedOk ts dd) : ∀ x ∈ putR dd, ∃ k t0, x.2 = some k :: t0 := fun x hx => by
  cases dd with
  | put t r =>
    rw [List.mem_singleton.mp hx]
    exact okd.2.key
  | _ => cases hx
theorem at_in (okt : TabsOk 5 ts) (okc : ContOk L ts ct) (hL : L ≤ 60) {t : Str} (h : t ∈ tns ts) : ∃ rs, At ts ct t rs ∧ rs.length ≤ L := by
  have lat : (tns ts).idxOf t < (tns ts).length := List.idxOf_lt_length_of_mem h
  have lat2 : (tns ts).idxOf t < ts.length := by rw [List.length_map] at lat; exact lat
  have lat3 : (tns ts).idxOf t < ct.length := by rw [okc.len]; exact lat2
  obtain ⟨tb2, h1⟩ : ∃ x, ts[(tns ts).idxOf t]? = some x := ⟨_, List.getElem?_eq_getElem lat2⟩
  obtain ⟨rs, h2⟩ : ∃ x, ct[(tns ts).idxOf t]? = some x := ⟨_, List.getElem?_eq_getElem lat3⟩
  have e1 : tb2.1 = t := by
    have h5 : (tns ts)[(tns ts).idxOf t]? = some t := by rw [List.getElem?_eq_getElem lat, List.getElem_idxOf]
    rw [List.getElem?_map, h1] at h5
    exact Option.some.inj h5
  have e2 : (cns ts t).length = tb2.2.length := by
    show ((colsOf ts t).map _).length = _
    rw [← e1, colsOf_mem okt.nd (List.mem_of_getElem? h1), List.length_map]
  have few := okc.few _ (List.mem_of_getElem? h2)
  exact ⟨rs, ⟨h, h2, by rw [e2]; exact okc.rows _ _ _ h1 h2, by omega⟩, few⟩
theorem fresh_keys (okt : TabsOk 5 ts) (okc : ContOk L ts ct) (hL : L ≤ 60) (hfk : ∀ r ∈ freshD ts ct rs dd (tabOf dd), ∃ k t0, r = some k :: t0) : ∀ t ∈ tns ts, ∀ r ∈ freshD ts ct rs dd t, ∃ k t0, r = some k :: t0 := fun t ht r hr => by
  by_cases z : t = tabOf dd
  · subst z; exact hfk r hr
  · obtain ⟨rt, h1, h2⟩ := at_in okt okc hL ht
    rw [fresh_else z h1.row] at hr
    exact (h1.ok.row r hr).key
end
section
variable {P : Program} {w : World} {K : PySem.W.Frag} {mg : Str → Option Value} {base : Heap}
def spDone (K : PySem.W.Frag) (Pt : Addr) : Sp := fun vs H Q _ => ∃ (tp : Addr) (ts : List Tab) (v u : V) (o i r : Bool) (ct : List (List Rw)) (dd : Deed) (rs : List Rw) (L : Nat), vs = [.ref tp, v, u] ∧ TabS H Pt lamQ ∧ Tabs K H tp ts ∧ Dp K H v (handD o i r ct) ∧ ContOk L ts ct ∧ L ≤ 60 ∧ At ts ct (tabOf dd) rs ∧
  DeedOk ts dd ∧ Dp K H u (deedF true dd) ∧ (∀ r ∈ freshD ts ct rs dd (tabOf dd), ∃ k t0, r = some k :: t0) ∧
  (refR rs dd = true ∨ twiceD ts ct rs dd ≠ none → ∀ H', Kept [Pt] H H' → TabS H' Pt lamQ → Q (.str "refused") H') ∧ (refR rs dd = false → twiceD ts ct rs dd = none → ∀ (p : Addr) (H' : Hp), Kept [Pt] H H' → TabS H' Pt lamQ → Dp K H' (.ref p) (contD (nextR ts ct rs dd)) → Q (.ref p) H')
abbrev s_law_done : Stmt := topS 51
abbrev N_law_done : List Str := ["tables", "content", "deed", "found", "caught", "gone", "cells", "rows", "error"]
theorem sc_law_done : FnScope N_law_done ["tables", "content", "deed"] (defScope s_law_done) := ⟨rfl, rfl, rfl, by decide +kernel, rfl, by decide +kernel, by decide +kernel⟩

set_option maxHeartbeats 4000000 in
theorem ok_done {CE CN CT Pt : Addr} {f : Addr} {fd : FuncData} (ne : NK K mg CE CN CT) (F : Fun K "_law_done" "_law_done" s_law_done f fd) (nb : NB mg) (D_own_part : DefX P w K mg base 6 "own_part" ["tables", "content", "deed"] (spOwn K CN CT)) (D_changed : DefX P w K mg base 5 "changed" ["tables", "content", "gone", "cells", "rows"] (spChanged K Pt CT)) : FnOk P w K mg base CX0 7 f fd ["tables", "content", "deed"] (spDone K Pt) := by
  refine F.ok sc_law_done (fun vs H Q E h => ?_) (fun cdv A outer sh H vs Q E hr h => ?_)
  · obtain ⟨tp, ts, v, u, o, i, r, ct, dd, rs, L, rfl, _⟩ := h
    rfl
  obtain ⟨tp, ts, v, u, o, i, r, ct, dd, rs, L, rfl, hTab, hT, hC, okc, hL, hA, okd, hu', hfk, qN, qY⟩ := h
  have nd := sc_law_done.nd
  refine ⟨_, (pss_cons (ps_asg (pe_tup (pa_cons pe_non (pa_cons pe_non pa_nil))) (pg_tup rfl (pgs_cons (pg_name (i := 3) nd rfl (Or.inl rfl)) (pgs_cons (pg_name (i := 4) nd rfl (Or.inl rfl)) pgs_nil))))
      (pss_cons (ps_try_keep (i := 8) (j := 4) (c := .ref CE) (Wout := fun _ _ _ _ => False) rfl rfl nd rfl rfl rfl (by decide) rfl ⟨rfl, by decide, Or.inl ne.gE⟩ L2.takes0
        (fun W pn xe tk _ => pss_cons (ps_asg (g := gTup K 3 (gCons (gName 5) (gCons (gName 6) (gCons (gName 7) gNil)))) (by exact (pe_ownX D_own_part hr tk (pa_cons (pv 0) (pa_cons (pv 1) (pa_cons (pv 2) pa_nil))))) (by exact (pg_tup rfl (pgs_cons (pg_name (i := 5) nd rfl (Or.inl rfl)) (pgs_cons (pg_name (i := 6) nd rfl (Or.inl rfl)) (pgs_cons (pg_name (i := 7) nd rfl (Or.inl rfl)) pgs_nil)))))) (pss_one (ps_set (i := 3) nd rfl (Or.inl rfl) (by exact (pe_ownX D_changed hr tk (pa_cons (pv 0) (pa_cons (pv 1) (pa_cons (pv 5) (pa_cons (pv 6) (pa_cons (pv 7) pa_nil))))))))))
        (fun a oe pn => pss_one (ps_set (i := 4) nd rfl (Or.inl rfl) (pv 8))))
      (pss_cons (ps_if (pt_cmpR op_isN (pv 4) pe_non (nomark _))
        (pss_one (ps_ret (pv 3)))
        pss_nil)
      (pss_one (ps_ret (pe_ifExp (pt_cmpR op_ne (pe_callB call_isX (by rfl) nb.b_isinstance (by decide +kernel) (pa_cons (pv 4) (pa_cons (pe_glob (v := .ref CN) (by rfl) ne.gN rfl) pa_nil))) (pe_callB call_isX (by rfl) nb.b_isinstance (by decide +kernel) (pa_cons (pv 4) (pa_cons (pe_glob (v := .ref CT) (by rfl) ne.gT rfl) pa_nil))) (nomark _)) pe_str pe_str)))))), ?_⟩
  obtain ⟨tps, eP, _, _⟩ := id hTab
  refine ⟨(by show 2 ≤ sizeLine; decide), fun t0 n0 => ⟨t0, _, rfl, .inl (.inl upd_same), rfl, .non, _, rfl, .non, _, rfl, rfl, ?_⟩⟩
  have s0 := same_upd (o := .tup [.non, .non]) n0
  generalize upd H t0 (.tup [.non, .non]) = H0 at s0 ⊢
  have T0 := hTab.ext s0
  have okt := hT.ok
  refine ⟨.ref tp, rfl, v, rfl, u, rfl, tp, ts, v, u, o, i, r, true, ct, dd, rs, rfl, ⟨dp_same s0 hT.dp, okt, hT.l0, hT.l8⟩, dp_same s0 hC, hA, okd, dp_same s0 hu', fun g c rr he p D1 D2 D3 u1 u2 u3 H1 s1 np nD1 nD2 nD3 ep e1 e2 e3 d1 d2 d3 => ?_, fun t k he d H1 s1 hd => ?_, fun t k he d H1 s1 hd => ?_⟩
  · have hrf : refR rs dd = false := by
      cases q : refR rs dd with
      | false => rfl
      | true => rcases own_refused (zs := cns ts (tabOf dd)) q with ⟨t, k, e⟩ | ⟨t, k, e⟩ <;> rw [e] at he <;> cases he
    rw [own_told hrf] at he
    cases he
    have s01 := s0.trans s1
    have T1 := hTab.ext s01
    obtain ⟨tp1, eP1, _, _⟩ := id T1
    refine ⟨p, _, rfl, .inl (.inl ep), rfl, .ref D1, _, rfl, .ref D2, _, rfl, .ref D3, _, rfl, rfl, ?_⟩
    refine ⟨.ref tp, rfl, v, rfl, .ref D1, rfl, .ref D2, rfl, .ref D3, rfl, tp, ts, v, .ref D1, .ref D2, .ref D3, o, i, r, false, true, false, true, false, true, true, ct, goneR (cns ts (tabOf dd)) rs dd, cellR (cns ts (tabOf dd)) rs dd, putR dd, rfl, T1, ⟨dp_pt eP1 (dp_same s01 hT.dp), okt, hT.l0, hT.l8⟩, dp_pt eP1 (dp_same s01 hC), dp_pt eP1 (.lst (.inl (.inl e1)) d1), dp_pt eP1 (.lst (.inl (.inl e2)) d2), dp_pt eP1 (.lst (.inl (.inl e3)) d3),
      (fun t ht => let ⟨rs, h1, h2⟩ := at_in okt okc hL ht; ⟨rs, h1, by omega⟩), ?_, ?_, ?_, cell_in okd, put_key okd, fresh_keys okt okc hL hfk, fun rs2 hrs S us H2 k2 T2 nS eS dS hnew => ?_, fun t k hk d H2 k2 T2 hd => ?_⟩
    · have := gone_len (zs := cns ts (tabOf dd)) (rs := rs) (dd := dd); have := okc.few _ (List.mem_of_getElem? hA.row); omega
    · have := cell_len (zs := cns ts (tabOf dd)) (rs := rs) (dd := dd); have := hA.few; omega
    · have := put_len (dd := dd); omega
    · refine ⟨.non, rfl, rfl, _, rfl, iteT ?_⟩
      have no : twiceD ts ct rs dd = none := by
        cases q : twiceD ts ct rs dd with
        | none => rfl
        | some k => rw [(changed_next okt okc hA).2 k q] at hrs; cases hrs
      rw [(changed_next okt okc hA).1 no] at hrs
      cases hrs
      exact ⟨.ref S, rfl, qY hrf no S H2 ((Kept.of_same s01).trans k2) T2 (.lst (.inl (.inl eS)) (dpAll_same (msk_sub _ _) dS))⟩
    · have no : twiceD ts ct rs dd ≠ none := fun q => by rw [(changed_next okt okc hA).1 q] at hk; cases hk
      refine ⟨true, ne.xT.te, fun _ a na => ?_, fun z => by cases z⟩
      have hda : d ≠ a := ne_of_none upd_same na
      have sA : Same H2 (upd (upd H2 d (.xd [(("key" : Str), .int k), (("table" : Str), .str t)])) a (exk a (.ref CT) (some d))) := (same_upd hd).trans (same_upd na)
      have eD : (upd (upd H2 d (.xd [(("key" : Str), .int k), (("table" : Str), .str t)])) a (exk a (.ref CT) (some d))) d = some (.xd [(("key" : Str), .int k), (("table" : Str), .str t)]) := by rw [upd_ne hda, upd_same]
      have eA : (upd (upd H2 d (.xd [(("key" : Str), .int k), (("table" : Str), .str t)])) a (exk a (.ref CT) (some d))) a = some (exk a (.ref CT) (some d)) := upd_same
      generalize upd (upd H2 d (.xd [(("key" : Str), .int k), (("table" : Str), .str t)])) a (exk a (.ref CT) (some d)) = HA at sA eD eA ⊢
      refine ⟨.ref a, rfl, rfl, _, rfl, iteF ?_⟩
      refine ⟨.ref a, rfl, a, CT, d, _, .ref CN, _, _, rfl, eA, eD, ne.xT.kx, .own CN, ne.xT.k1, .ref a, rfl, a, CT, d, _, .ref CT, _, _, rfl, eA, eD, ne.xT.kx, .own CT, ne.xT.k2, rfl, _, rfl, iteT ?_⟩
      exact qN (.inr no) HA ((Kept.of_same s01).trans (k2.trans (Kept.of_same sA))) (T2.ext sA)
  · have hrf : refR rs dd = true := by
      cases q : refR rs dd with
      | true => rfl
      | false => rw [own_told q] at he; cases he
    refine ⟨true, ne.xN.te, fun _ a na => ?_, fun z => by cases z⟩
    have hda : d ≠ a := ne_of_none upd_same na
    have sA : Same H1 (upd (upd H1 d (.xd [(kK, .int k), (kT, .str t)])) a (exk a (.ref CN) (some d))) := (same_upd hd).trans (same_upd na)
    have eD : (upd (upd H1 d (.xd [(kK, .int k), (kT, .str t)])) a (exk a (.ref CN) (some d))) d = some (.xd [(kK, .int k), (kT, .str t)]) := by rw [upd_ne hda, upd_same]
    have eA : (upd (upd H1 d (.xd [(kK, .int k), (kT, .str t)])) a (exk a (.ref CN) (some d))) a = some (exk a (.ref CN) (some d)) := upd_same
    generalize upd (upd H1 d (.xd [(kK, .int k), (kT, .str t)])) a (exk a (.ref CN) (some d)) = HA at sA eD eA ⊢
    refine ⟨.ref a, rfl, rfl, _, rfl, iteF ?_⟩
    refine ⟨.ref a, rfl, a, CN, d, _, .ref CN, _, _, rfl, eA, eD, ne.xN.kx, .own CN, ne.xN.k1, .ref a, rfl, a, CN, d, _, .ref CT, _, _, rfl, eA, eD, ne.xN.kx, .own CT, ne.xN.k2, rfl, _, rfl, iteT ?_⟩
    exact qN (.inl hrf) HA (Kept.of_same (s0.trans (s1.trans sA))) (hTab.ext (s0.trans (s1.trans sA)))
  · have hrf : refR rs dd = true := by
      cases q : refR rs dd with
      | true => rfl
      | false => rw [own_told q] at he; cases he
    refine ⟨true, ne.xT.te, fun _ a na => ?_, fun z => by cases z⟩
    have hda : d ≠ a := ne_of_none upd_same na
    have sA : Same H1 (upd (upd H1 d (.xd [(kK, .int k), (kT, .str t)])) a (exk a (.ref CT) (some d))) := (same_upd hd).trans (same_upd na)
    have eD : (upd (upd H1 d (.xd [(kK, .int k), (kT, .str t)])) a (exk a (.ref CT) (some d))) d = some (.xd [(kK, .int k), (kT, .str t)]) := by rw [upd_ne hda, upd_same]
    have eA : (upd (upd H1 d (.xd [(kK, .int k), (kT, .str t)])) a (exk a (.ref CT) (some d))) a = some (exk a (.ref CT) (some d)) := upd_same
    generalize upd (upd H1 d (.xd [(kK, .int k), (kT, .str t)])) a (exk a (.ref CT) (some d)) = HA at sA eD eA ⊢
    refine ⟨.ref a, rfl, rfl, _, rfl, iteF ?_⟩
    refine ⟨.ref a, rfl, a, CT, d, _, .ref CN, _, _, rfl, eA, eD, ne.xT.kx, .own CN, ne.xT.k1, .ref a, rfl, a, CT, d, _, .ref CT, _, _, rfl, eA, eD, ne.xT.kx, .own CT, ne.xT.k2, rfl, _, rfl, iteT ?_⟩
    exact qN (.inl hrf) HA (Kept.of_same (s0.trans (s1.trans sA))) (hTab.ext (s0.trans (s1.trans sA)))
end
end TT

set_option Elab.async false
set_option linter.all false
set_option maxRecDepth 100000
namespace TT
open PySem PySem.Spec PyProof.Rows L2 LamX
/-! ### whether worths are in bounds and rows few -/
structure NX (mg : Str → Option Value) : Prop where
  b_abs : mg "abs" = none
def numsR (rs : List Rw) : List Int := rs.flatMap fun r => r.filterMap id
def numsC (ct : List (List Rw)) : List Int := ct.flatMap numsR
def fineB (ct : List (List Rw)) : Bool := decide (∀ x ∈ numsC ct, -1000000000 ≤ x ∧ x ≤ 1000000000) && decide ((ct.map fun rs => (rs.length : Int)).sum < 61)
theorem numsR_len {rs : List Rw} (h : ∀ r ∈ rs, r.length ≤ 4) : (numsR rs).length ≤ 4 * rs.length := by
  induction rs with
  | nil => exact Nat.le_refl 0
  | cons r l ih =>
    have h1 := ih fun x hx => h x (List.mem_cons_of_mem _ hx)
    have h2 := h r (List.mem_cons_self ..)
    have h3 := List.length_filterMap_le id r
    show (r.filterMap id ++ numsR l).length ≤ 4 * (l.length + 1)
    rw [List.length_append]
    omega
theorem numsC_len {L : Nat} {ct : List (List Rw)} (h : ∀ rs ∈ ct, rs.length ≤ L ∧ ∀ r ∈ rs, r.length ≤ 4) : (numsC ct).length ≤ 4 * L * ct.length := by
  induction ct with
  | nil => exact Nat.le_refl 0
  | cons rs l ih =>
    have h1 := ih fun x hx => h x (List.mem_cons_of_mem _ hx)
    have h2 := h rs (List.mem_cons_self ..)
    have h3 := numsR_len h2.2
    show (numsR rs ++ numsC l).length ≤ 4 * L * (l.length + 1)
    rw [List.length_append, Nat.mul_succ]
    omega
theorem numsR_app (a b : List Rw) : numsR (a ++ b) = numsR a ++ numsR b := List.flatMap_append ..
theorem numsC_app (a b : List (List Rw)) : numsC (a ++ b) = numsC a ++ numsC b := List.flatMap_append ..
theorem numsR_take {rs : List Rw} {j : Nat} {r : Rw} (h : rs[j]? = some r) : numsR (rs.take (j + 1)) = numsR (rs.take j) ++ r.filterMap id := by
  rw [List.take_add_one, h, numsR_app]
  congr 1
  show r.filterMap id ++ [] = _
  exact List.append_nil _
theorem numsC_take {ct : List (List Rw)} {j : Nat} {rs : List Rw} (h : ct[j]? = some rs) : numsC (ct.take (j + 1)) = numsC (ct.take j) ++ numsR rs := by
  rw [List.take_add_one, h, numsC_app]
  congr 1
  show numsR rs ++ [] = _
  exact List.append_nil _
theorem absI (x : Int) : (if x < 0 then -x else x) ≤ 1000000000 ↔ -1000000000 ≤ x ∧ x ≤ 1000000000 := by
  by_cases h : x < 0
  · rw [if_pos h]; omega
  · rw [if_neg h]; omega
theorem dpAll_ints {K : PySem.W.Frag} {H : Hp} : ∀ {ns : List Int} {us : List V}, DpAll K H us (ns.map PyData.int) → us = ns.map V.int
  | [], _, .nil => rfl
  | i :: r, _, .cons h t => by cases h; rw [dpAll_ints t]; rfl
theorem filt_some (r : Rw) : (r.filter fun o => !decide (o = none)).map wD = (r.filterMap id).map PyData.int := by
  induction r with
  | nil => rfl
  | cons o r ih =>
    cases o with
    | none => exact ih
    | some k =>
      show wD (some k) :: (r.filter _).map wD = PyData.int k :: (r.filterMap id).map PyData.int
      rw [ih]; rfl
section
variable {P : Program} {w : World} {K : PySem.W.Frag} {mg : Str → Option Value} {base : Heap}
def spFine (K : PySem.W.Frag) : Sp := fun vs H Q _ => ∃ (cp : Addr) (ct : List (List Rw)), vs = [.ref cp] ∧ Dp K H (.ref cp) (contD ct) ∧ ct.length ≤ 4 ∧ (∀ rs ∈ ct, rs.length ≤ 47 ∧ ∀ r ∈ rs, r.length ≤ 4) ∧ ∀ H', Same H H' → Q (.bl (fineB ct)) H'
abbrev s_law_fine : Stmt := topS 53
abbrev N_law_fine : List Str := ["content", "worths", "rows", "row", "worth"]
theorem sc_law_fine : FnScope N_law_fine ["content"] (defScope s_law_fine) := ⟨rfl, rfl, rfl, by decide +kernel, rfl, by decide +kernel, by decide +kernel⟩

set_option maxHeartbeats 4000000 in
theorem ok_fine {f : Addr} {fd : FuncData} (F : Fun K "_law_fine" "_law_fine" s_law_fine f fd) (nb : NB mg) (nx : NX mg) : FnOk P w K mg base CX0 1 f fd ["content"] (spFine K) := by
  refine F.ok sc_law_fine (fun vs H Q E h => ?_) (fun cdv A outer sh H vs Q E hr h => ?_)
  · obtain ⟨cp, ct, rfl, _⟩ := h
    rfl
  obtain ⟨cp, ct, rfl, hC, l4, hlen, q⟩ := h
  have nd := sc_law_fine.nd
  refine ⟨_, (pss_cons (ps_set (i := 1) nd rfl (Or.inl rfl) (pe_lst pa_nil))
      (pss_cons (ps_for PassesOwn.never rfl (pi_list (pv 0)) (pg_name (i := 2) nd rfl (Or.inl rfl))
        (pss_one (ps_for PassesOwn.never rfl (pi_list (pv 2)) (pg_name (i := 3) nd rfl (Or.inl rfl))
          (pss_one (ps_expr (pe_bm PySem.F.plainAttrs_list PySem.F.slot_list_extend PySem.F.type_list_extend mt_extend (pv 1) (pa_cons (pe_lc (own := [("worth", 4)]) (g := (gName 4)) rfl nd (pi_tup (pv 3)) (blkOk_by (N := N_law_fine) (sc := defScope s_law_fine) (by decide +kernel)) (fun _ _ _ _ _ => (pg_name (i := 4) nd rfl (Or.inl rfl))) (fun _ _ _ _ _ => (pts_one (pt_cmpR op_notN (pv 4) pe_non (nomark _)))) (fun _ _ _ _ _ => (pv 4))) pa_nil)))))))
      (pss_one (ps_ret (pe_and (pe_cmpR op_le (pe_callB (cr_max rfl) (by rfl) nb.b_max (by decide +kernel) (pa_cons (pe_lc (own := [("worth", 4)]) (g := (gName 4)) (tt := tYes) rfl nd (pi_list (pe_op op_cat (pv 1) (pe_lst (pa_cons pe_int pa_nil)))) (blkOk_by (N := N_law_fine) (sc := defScope s_law_fine) (by decide +kernel)) (fun _ _ _ _ _ => (pg_name (i := 4) nd rfl (Or.inl rfl))) (fun _ _ _ _ _ => pts_nil) (fun _ _ _ _ _ => (pe_callB call_abs (by rfl) nx.b_abs (by decide +kernel) (pa_cons (pv 4) pa_nil)))) pa_nil)) (pe_op op_pow pe_int pe_int) (nomark _)) (pe_one (pe_cmpR op_lt (pe_callB (cr_sum rfl) (by rfl) nb.b_sum (by decide +kernel) (pa_cons (pe_lc (own := [("rows", 2)]) (g := (gName 2)) (tt := tYes) rfl nd (pi_list (pv 0)) (blkOk_by (N := N_law_fine) (sc := defScope s_law_fine) (by decide +kernel)) (fun _ _ _ _ _ => (pg_name (i := 2) nd rfl (Or.inl rfl))) (fun _ _ _ _ _ => pts_nil) (fun _ _ _ _ _ => (pe_callB (id := "len") (r := rLenQ K) call_len_seq (by rfl) nb.b_len (by decide +kernel) (pa_cons (pv 2) pa_nil)))) pa_nil)) pe_int (nomark _)))))))), ?_⟩
  obtain ⟨_, xs, z, hS, hA, lxs⟩ := cont_dp hC
  cases z
  refine ⟨Nat.zero_le _, fun P1 n1 => ?_⟩
  have s1 := same_upd (o := .lst []) n1
  have e1 : (upd H P1 (.lst [])) P1 = some (.lst (([] : List Int).map V.int)) := upd_same
  have k1 : Kept [P1] H (upd H P1 (.lst [])) := Kept.upd_new n1
  generalize upd H P1 (.lst []) = H1 at s1 e1 k1 ⊢
  refine ⟨.ref cp, rfl, cp, rfl, ⟨_, s1.seq hS⟩, ?_⟩
  refine for_list (K := K) (a := cp) (xs := xs) (fun i σ H' => (∃ y2 y3 y4, σ = [some (.ref cp), some (.ref P1), y2, y3, y4]) ∧ H' P1 = some (.lst ((numsC (ct.take i)).map V.int)) ∧ Kept [P1] H H') ⟨⟨none, none, none, rfl⟩, e1, k1⟩ (fun i σ H' _ hP => (keptS hP.2.2 n1).seq hS) (fun i x σ H' hx hP => ?_) (fun σ H2 hP => ?_)
  · obtain ⟨⟨y2, y3, y4, rfl⟩, eP, kk⟩ := hP
    have sm := keptS kk n1
    obtain ⟨rs, hrs, hrx⟩ := cont_at hA hx
    obtain ⟨p, ys, rfl, hpS, hpA, lys⟩ := rows_dp hrx
    obtain ⟨l47, lr⟩ := hlen rs (List.mem_of_getElem? hrs)
    have spS : SqL K H' p ys := sm.seq hpS
    refine gN ⟨.ref p, rfl, p, rfl, ⟨_, spS⟩, ?_⟩
    refine for_list (K := K) (a := p) (xs := ys) (fun j σ H2 => (∃ y3 y4, σ = [some (.ref cp), some (.ref P1), some (.ref p), y3, y4]) ∧ H2 P1 = some (.lst ((numsC (ct.take i) ++ numsR (rs.take j)).map V.int)) ∧ Kept [P1] H H2) ⟨⟨y3, y4, rfl⟩, by rw [show numsR (rs.take 0) = [] from rfl, List.append_nil]; exact eP, kk⟩ (fun j σ H2 _ hP => (keptS hP.2.2 n1).seq hpS) (fun j x3 σ H2 hx3 hP => ?_) (fun σ H3 hP => ?_)
    · obtain ⟨⟨y3, y4, rfl⟩, eP2, k2⟩ := hP
      have sm2 := keptS k2 n1
      obtain ⟨r, p3, hr3, rfl, hp3⟩ := row_at' hpA hx3
      have hp32 := sameT sm2 hp3
      have l4r := lr r (List.mem_of_getElem? hr3)
      refine gN ⟨.ref P1, rfl, .inl ⟨rfl, _, .inl (.inl eP2)⟩, .ref p3, rfl, p3, rfl, ⟨_, hp32⟩, fun D nD => ?_⟩
      refine lc_filt (K := K) (walk_tup (xs := r.map wV)) (l := r) [] (by rw [List.length_map]) (by omega) (fun o => !decide (o = none)) wD (fun v o => v = wV o) nD (fun H' kk => sameT (keptS kk nD) hp32) (fun i3 x3 hx3 => ?_) (fun x3 o H' C N hr hR kk eDO yesC noC => ?_) (fun us H4 go kk4 => ?_) List.not_mem_nil
      · rw [List.getElem?_map] at hx3
        obtain ⟨o, ho, rfl⟩ := Option.map_eq_some_iff.mp hx3
        exact ⟨o, ho, rfl⟩
      · subst hR
        refine ⟨rfl, ?_⟩
        refine ⟨wV o, rfl, rfl, _, rfl, ?_⟩
        cases o with
        | none => exact iteF (noC rfl H' (Kept.refl _ _))
        | some n => exact iteT ⟨.int n, rfl, yesC rfl _ H' (Kept.refl _ _) (.int n)⟩
      · have s4 := keptS kk4 nD
        have hd := go.dp
        rw [filt_some] at hd
        have eus := dpAll_ints hd
        have eD := go.at'
        rw [eus] at eD
        have eP4 := s4 _ _ eP2
        have b1 := numsC_len (L := 47) fun x hx => hlen x (List.mem_of_mem_take (i := i) hx)
        have b2 := numsR_len fun x hx => lr x (List.mem_of_mem_take (i := j) hx)
        have b3 := List.length_filterMap_le id r
        rw [List.length_take] at b1 b2
        refine ⟨P1, D, _, _, rfl, rfl, eP4, eD, ?_, ?_⟩
        · rw [List.length_map, List.length_map, List.length_append]
          refine Nat.le_of_lt (small1000 ?_)
          have : min i ct.length ≤ 4 := by omega
          have : min j rs.length ≤ 47 := by omega
          omega
        · refine ⟨⟨_, _, rfl⟩, ?_, (k2.trans (Kept.of_same s4)).trans (Kept.upd_in (List.mem_cons_self ..))⟩
          rw [upd_same, numsR_take hr3, ← List.map_append, List.append_assoc]
    · obtain ⟨⟨y3, y4, rfl⟩, eP2, k2⟩ := hP
      rw [lys, List.take_length, ← numsC_take hrs] at eP2
      exact ⟨⟨_, _, _, rfl⟩, eP2, k2⟩
  · obtain ⟨⟨y2, y3, y4, rfl⟩, eP, kk⟩ := hP
    rw [lxs, List.take_length] at eP
    have sm := keptS kk n1
    have bC := numsC_len (L := 47) hlen
    refine ⟨.ref P1, rfl, (by show 1 ≤ sizeLine; decide), fun p2 np2 => ?_⟩
    have t2 := same_upd (o := .lst [.int 0]) np2
    refine ⟨P1, p2, _, _, rfl, rfl, t2 _ _ eP, upd_same, Nat.le_of_lt (small1000 (by rw [List.length_map]; show _ + 1 ≤ 1000; omega)), fun p3 np3 => ?_⟩
    have t3 := t2.trans (same_upd (o := .lst ((numsC ct).map V.int ++ [.int 0])) np3)
    have e3 : (upd (upd H2 p2 (.lst [.int 0])) p3 (.lst ((numsC ct).map V.int ++ [.int 0]))) p3 = some (.lst ((numsC ct).map V.int ++ [.int 0])) := upd_same
    have sm3 := sm.trans t3
    generalize upd (upd H2 p2 (.lst [.int 0])) p3 (.lst ((numsC ct).map V.int ++ [.int 0])) = H3 at e3 sm3 ⊢
    rw [show (numsC ct).map V.int ++ [.int 0] = (numsC ct ++ [0]).map V.int by rw [List.map_append]; rfl] at e3
    obtain ⟨nl, hnl⟩ : ∃ nl, nl = numsC ct ++ [0] := ⟨_, rfl⟩
    have lnl : nl.length ≤ 800 := by rw [hnl, List.length_append]; show _ + 1 ≤ 800; omega
    rw [← hnl] at e3
    refine ⟨p3, rfl, ⟨_, .inl (.inl e3)⟩, fun D nD => ?_⟩
    refine lc_mapS (walk_list (xs := nl.map V.int)) (ys := (nl.map fun x => if x < 0 then -x else x).map V.int) (by rw [List.length_map, List.length_map, List.length_map]) (by rw [List.length_map]; omega) nD (fun H' kk => .inl (.inl (keptS kk nD _ _ e3))) (fun i3 x3 H' C N hx3 sm' hC3 => ?_) (fun Ha eD sa => ?_)
    · rw [List.getElem?_map] at hx3
      obtain ⟨n, hn, rfl⟩ := Option.map_eq_some_iff.mp hx3
      exact ⟨rfl, iteT ⟨.int n, rfl, n, rfl, hC3 _ (by rw [List.getElem?_map, List.getElem?_map, hn]; rfl)⟩⟩
    have sma := sm3.trans sa
    refine ⟨D, _, rfl, .inl (.inl eD), by rw [List.length_map, hnl, List.length_append]; exact Nat.succ_pos _, fun m hm1 hm2 => ?_⟩
    have em : decide (m ≤ 10 ^ (9 : Int).toNat) = decide (∀ x ∈ numsC ct, -1000000000 ≤ x ∧ x ≤ 1000000000) := by
      rw [show (10 : Int) ^ (9 : Int).toNat = 1000000000 by decide]
      refine decide_eq_decide.mpr ⟨fun h x hx => ?_, fun h => ?_⟩
      · have := hm2 _ (List.mem_map.mpr ⟨x, by rw [hnl]; exact List.mem_append_left _ hx, rfl⟩)
        exact (absI x).mp (by omega)
      · obtain ⟨x, hx, rfl⟩ := List.mem_map.mp hm1
        rw [hnl] at hx
        rcases List.mem_append.mp hx with z | z
        · exact (absI x).mpr (h x z)
        · rw [List.mem_singleton.mp z]; decide
    refine ⟨10, 9, rfl, rfl, ⟨by decide, by decide, by decide⟩, m, _, rfl, rfl, _, rfl, ?_⟩
    rw [em]
    cases hb : decide (∀ x ∈ numsC ct, -1000000000 ≤ x ∧ x ≤ 1000000000) with
    | false =>
      refine iteF ?_
      have := q Ha sma
      unfold fineB at this
      rw [hb] at this
      exact this
    | true =>
      refine iteT ?_
      refine ⟨.ref cp, rfl, cp, rfl, ⟨_, sma.seq hS⟩, fun D2 nD2 => ?_⟩
      refine lc_mapS (walk_list (xs := xs)) (ys := (ct.map fun rs => (rs.length : Int)).map V.int) (by rw [List.length_map, List.length_map, lxs]) (by omega) nD2 (fun H' kk => (sma.trans (keptS kk nD2)).seq hS) (fun i3 x3 H' C N hx3 sm' hC3 => ?_) (fun Hb eD2 sb => ?_)
      · obtain ⟨rs, hrs, hrx⟩ := cont_at hA hx3
        obtain ⟨p, ys, rfl, hpS, hpA, lys⟩ := rows_dp hrx
        exact ⟨rfl, iteT ⟨.ref p, rfl, p, ys, rfl, .inl ((sma.trans sm').seq hpS), hC3 _ (by rw [List.getElem?_map, List.getElem?_map, hrs, lys]; rfl)⟩⟩
      refine ⟨D2, _, rfl, .inl (.inl eD2), _, _, rfl, rfl, ?_⟩
      have := q Hb (sma.trans sb)
      unfold fineB at this
      rw [hb] at this
      exact this
end
end TT

set_option Elab.async false
set_option linter.all false
set_option maxRecDepth 100000
namespace TT
open PySem PySem.Spec PyProof.Rows L2
structure GC (mg : Str → Option Value) : Prop where
  MOST_NUMBER : ∃ u, mg "MOST_NUMBER" = some (.int 1000000000 u)
def boundB : PyData → Bool
  | .int i => decide (-1000000000 ≤ i) && decide (i ≤ 1000000000)
  | _ => false
def rowB (n : Nat) : PyData → Bool
  | .tuple ws => decide (ws.length = n) && (!isN (ws.headD .none) && ws.all worthB)
  | _ => false
def keyD : PyData → Int
  | .tuple (.int i :: _) => i
  | _ => 0
def risesB (rs : List PyData) : Bool := ((List.range (rs.length - 1)).map fun i => decide (keyD (rs.getD i .none) < keyD (rs.getD (i + 1) .none))).all id
def rowsB (n : Nat) : PyData → Bool
  | .list rs => rs.all (rowB n) && risesB rs
  | _ => false
theorem isL_of {K : PySem.W.Frag} {H : Hp} {v : V} {d : PyData} (hd : Dp K H v d) (h : isLB d = true) : ∃ p xs ds, v = .ref p ∧ d = .list ds ∧ SqL K H p xs ∧ DpAll K H xs ds := by
  cases hd with
  | non => cases h
  | bl b => cases h
  | int i => cases h
  | str z => cases h
  | lst hs a => exact ⟨_, _, _, rfl, rfl, hs, a⟩
  | tup hs a => cases h
theorem spB_len {R : PyData → Bool} {K : PySem.W.Frag} {vs : List V} {H : Hp} {Q : VK} {E : XK} (h : spB R K vs H Q E) : vs.length = 1 := by
  obtain ⟨v, d, rfl, _⟩ := h
  rfl
section
variable {P : Program} {w : World} {K : PySem.W.Frag} {mg : Str → Option Value} {base : Heap}
def spTup (K : PySem.W.Frag) : Sp := fun vs H Q _ => ∃ (v : V) (d : PyData) (lo hi : Int), vs = [v, .int lo, .int hi] ∧ Dp K H v d ∧ Fit d ∧ ∀ H', Same H H' → Q (.bl (tupB lo hi d)) H'
abbrev s_is_tuple : Stmt := topS 10
abbrev N_is_tuple : List Str := ["thing", "least", "most"]
theorem sc_is_tuple : FnScope N_is_tuple ["thing", "least", "most"] (defScope s_is_tuple) := ⟨rfl, rfl, rfl, by decide +kernel, rfl, by decide +kernel, by decide +kernel⟩

theorem ok_is_tuple {f : Addr} {fd : FuncData} (F : Fun K "is_tuple" "is_tuple" s_is_tuple f fd) (nb : NB mg) : FnOk P w K mg base CX0 1 f fd ["thing", "least", "most"] (spTup K) := by
  refine F.ok sc_is_tuple (fun vs H Q E h => ?_) (fun cdv A outer sh H vs Q E hr h => ?_)
  · obtain ⟨v, d, lo, hi, rfl, _⟩ := h
    rfl
  obtain ⟨v, d, lo, hi, rfl, hd, hf, q⟩ := h
  have nd := sc_is_tuple.nd
  refine ⟨_, (pss_one (ps_ret (pe_and (pe_callB call_isi (by rfl) nb.b_isinstance (by decide +kernel) (pa_cons (pv 0) (pa_cons (pe_bltn (v := .ty "tuple") (by rfl) nb.b_tuple (by decide +kernel) rfl) pa_nil))) (pe_one (pe_chain op_le op_le (pv 1) (pe_callB call_len_seq (by rfl) nb.b_len (by decide +kernel) (pa_cons (pv 0) pa_nil)) (pv 2)))))), ?_⟩
  refine ⟨v, rfl, v, .ty "tuple", _, _, _, rfl, .ty "tuple", dp_ty hd, kit_t d, _, rfl, ite2 (fun h1 => ?_) (fun h1 => ?_)⟩
  · cases hd with
    | non => cases h1
    | bl b => cases h1
    | int i => cases h1
    | str z => cases h1
    | lst _ _ => cases h1
    | tup h a =>
      rename_i p xs ds
      have l := dpAll_len a
      refine ⟨.int lo, rfl, .ref p, rfl, p, xs, rfl, .inr h, _, _, rfl, rfl, _, rfl, ite2 (fun h3 => ?_) (fun h3 => ?_)⟩
      · refine ⟨.int hi, rfl, _, _, rfl, rfl, ?_⟩
        have e : decide ((xs.length : Int) ≤ hi) = tupB lo hi (.tuple ds) := by
          show _ = (decide (lo ≤ (ds.length : Int)) && decide ((ds.length : Int) ≤ hi))
          rw [← l, h3]; rfl
        have z := q H (Same.refl H)
        rw [← e] at z
        exact z
      · have e : false = tupB lo hi (.tuple ds) := by
          show _ = (decide (lo ≤ (ds.length : Int)) && decide ((ds.length : Int) ≤ hi))
          rw [← l, Bool.eq_false_iff.mpr h3]; rfl
        have z := q H (Same.refl H)
        rw [← e] at z
        exact z
  · have e : false = tupB lo hi d := by
      cases hd <;> first | rfl | exact absurd rfl h1
    have z := q H (Same.refl H)
    rw [← e] at z
    exact z
abbrev s_is_number : Stmt := topS 7
abbrev N_is_number : List Str := ["thing"]
theorem sc_is_number : FnScope N_is_number ["thing"] (defScope s_is_number) := ⟨rfl, rfl, rfl, by decide +kernel, rfl, by decide +kernel, by decide +kernel⟩

theorem ok_is_number {f : Addr} {fd : FuncData} (F : Fun K "is_number" "is_number" s_is_number f fd) (nb : NB mg) : FnOk P w K mg base CX0 1 f fd ["thing"] (spB numB K) := by
  refine F.ok sc_is_number (fun vs H Q E h => spB_len h) (fun cdv A outer sh H vs Q E hr h => ?_)
  obtain ⟨v, d, rfl, hd, hf, q⟩ := h
  have nd := sc_is_number.nd
  refine ⟨_, (pss_one (ps_ret (pe_and (pe_callB call_isi (by rfl) nb.b_isinstance (by decide +kernel) (pa_cons (pv 0) (pa_cons (pe_bltn (v := .ty "int") (by rfl) nb.b_int (by decide +kernel) rfl) pa_nil))) (pe_one (pe_not (pe_callB call_isi (by rfl) nb.b_isinstance (by decide +kernel) (pa_cons (pv 0) (pa_cons (pe_bltn (v := .ty "bool") (by rfl) nb.b_bool (by decide +kernel) rfl) pa_nil)))))))), ?_⟩
  refine ⟨v, rfl, v, .ty "int", _, _, _, rfl, .ty "int", dp_ty hd, kit_i d, _, rfl, ite2 (fun h1 => ?_) (fun h1 => ?_)⟩
  · refine ⟨v, rfl, v, .ty "bool", _, _, _, rfl, .ty "bool", dp_ty hd, kit_b d, _, rfl, ?_⟩
    have e : (!isBB d) = numB d := by cases d <;> simp_all [isIB, isBB, numB]
    have z := q H (Same.refl H)
    rw [← e] at z
    exact z
  · have e : false = numB d := by cases d <;> simp_all [isIB, numB]
    have z := q H (Same.refl H)
    rw [← e] at z
    exact z
abbrev s_is_bounded : Stmt := topS 8
abbrev N_is_bounded : List Str := ["thing"]
theorem sc_is_bounded : FnScope N_is_bounded ["thing"] (defScope s_is_bounded) := ⟨rfl, rfl, rfl, by decide +kernel, rfl, by decide +kernel, by decide +kernel⟩

theorem ok_is_bounded {f : Addr} {fd : FuncData} (F : Fun K "is_bounded" "is_bounded" s_is_bounded f fd) (gc : GC mg) (D_is_number : Def P w K mg base 1 "is_number" ["thing"] (spB numB K)) : FnOk P w K mg base CX0 2 f fd ["thing"] (spB boundB K) := by
  refine F.ok sc_is_bounded (fun vs H Q E h => spB_len h) (fun cdv A outer sh H vs Q E hr h => ?_)
  obtain ⟨v, d, rfl, hd, hf, q⟩ := h
  have nd := sc_is_bounded.nd
  refine ⟨_, (pss_one (ps_ret (pe_and (pe_own D_is_number hr (pa_cons (pv 0) pa_nil)) (pe_one (pe_chain op_le op_le (pe_un un_neg (pe_gint gc.MOST_NUMBER)) (pv 0) (pe_gint gc.MOST_NUMBER)))))), ?_⟩
  refine ⟨v, rfl, v, d, rfl, hd, hf, fun H1 sm => ⟨_, rfl, ite2 (fun h2 => ?_) (fun h2 => ?_)⟩⟩
  · obtain ⟨i, rfl, rfl⟩ : ∃ i, d = .int i ∧ v = .int i := by
      cases hd <;> first | exact ⟨_, rfl, rfl⟩ | cases h2
    refine ⟨_, rfl, .int i, rfl, _, _, rfl, rfl, _, rfl, ite2 (fun h3 => ?_) (fun h3 => ?_)⟩
    · refine ⟨_, _, rfl, rfl, ?_⟩
      have h3 : -1000000000 ≤ i := of_decide_eq_true h3
      have e : decide (i ≤ 1000000000) = boundB (.int i) := by
        show _ = (decide (-1000000000 ≤ i) && decide (i ≤ 1000000000))
        rw [decide_eq_true h3]; rfl
      have z := q H1 sm
      rw [← e] at z
      exact z
    · have h3 : ¬ -1000000000 ≤ i := fun z => h3 (decide_eq_true z)
      have e : false = boundB (.int i) := by
        show _ = (decide (-1000000000 ≤ i) && decide (i ≤ 1000000000))
        rw [decide_eq_false h3]; rfl
      have z := q H1 sm
      rw [← e] at z
      exact z
  · have e : false = boundB d := by cases d <;> first | rfl | exact absurd rfl h2
    have z := q H1 sm
    rw [← e] at z
    exact z
theorem worth_bound (d : PyData) : worthB d = (isN d || boundB d) := by cases d <;> rfl
theorem isN_v {K : PySem.W.Frag} {H : Hp} {v : V} {d : PyData} (h : Dp K H v d) : decide (v = V.non) = isN d := by cases h <;> rfl
abbrev s_is_worth : Stmt := topS 9
abbrev N_is_worth : List Str := ["thing"]
theorem sc_is_worth : FnScope N_is_worth ["thing"] (defScope s_is_worth) := ⟨rfl, rfl, rfl, by decide +kernel, rfl, by decide +kernel, by decide +kernel⟩

theorem ok_is_worth {f : Addr} {fd : FuncData} (F : Fun K "is_worth" "is_worth" s_is_worth f fd) (D_is_bounded : Def P w K mg base 2 "is_bounded" ["thing"] (spB boundB K)) : FnOk P w K mg base CX0 3 f fd ["thing"] (spB worthB K) := by
  refine F.ok sc_is_worth (fun vs H Q E h => spB_len h) (fun cdv A outer sh H vs Q E hr h => ?_)
  obtain ⟨v, d, rfl, hd, hf, q⟩ := h
  have nd := sc_is_worth.nd
  have q' : ∀ H', Same H H' → ∀ b, b = worthB d → Q (.bl b) H' := fun H' s b e => by rw [e]; exact q H' s
  refine ⟨_, (pss_one (ps_ret (pe_or (pe_cmpR op_isN (pv 0) pe_non (nomark _)) (pe_one (pe_own D_is_bounded hr (pa_cons (pv 0) pa_nil)))))), ?_⟩
  refine ⟨v, rfl, rfl, _, rfl, ?_⟩
  rw [isN_v hd]
  refine ite2 (fun h1 => ?_) (fun h1 => ?_)
  · refine q' H (Same.refl H) _ ?_
    rw [worth_bound, h1]; rfl
  · refine ⟨v, rfl, v, d, rfl, hd, hf, fun H1 sm => q' H1 sm _ ?_⟩
    rw [worth_bound, Bool.eq_false_iff.mpr h1]; rfl
/-- a row of so many columns -/
def spRow (K : PySem.W.Frag) : Sp := fun vs H Q _ => ∃ (n : Nat) (v : V) (d : PyData), vs = [.int n, v] ∧ 1 ≤ n ∧ Dp K H v d ∧ Fit d ∧ ∀ H', Same H H' → Q (.bl (rowB n d)) H'
abbrev s_is_row : Stmt := topS 25
abbrev N_is_row : List Str := ["width", "thing", "worth"]
theorem sc_is_row : FnScope N_is_row ["width", "thing"] (defScope s_is_row) := ⟨rfl, rfl, rfl, by decide +kernel, rfl, by decide +kernel, by decide +kernel⟩

theorem ok_is_row {f : Addr} {fd : FuncData} (F : Fun K "is_row" "is_row" s_is_row f fd) (nb : NB mg) (D_is_tuple : Def P w K mg base 1 "is_tuple" ["thing", "least", "most"] (spTup K)) (D_is_worth : Def P w K mg base 3 "is_worth" ["thing"] (spB worthB K)) : FnOk P w K mg base CX0 4 f fd ["width", "thing"] (spRow K) := by
  refine F.ok sc_is_row (fun vs H Q E h => ?_) (fun cdv A outer sh H vs Q E hr h => ?_)
  · obtain ⟨n, v, d, rfl, _⟩ := h
    rfl
  obtain ⟨n, v, d, rfl, hn, hd, hf, q⟩ := h
  have nd := sc_is_row.nd
  have q' : ∀ H', Same H H' → ∀ b, b = rowB n d → Q (.bl b) H' := fun H' s b e => by rw [e]; exact q H' s
  refine ⟨_, (pss_cons (ps_if (PW.pt (pw_or (pt_not (pt_val (pe_own D_is_tuple hr (pa_cons (pv 1) (pa_cons (pv 0) (pa_cons (pv 0) pa_nil)))))) (pw_or1 (pt_cmpR op_isN (pe_ix ix_tup (pv 1) pe_int (fun _ _ => rfl)) pe_non (nomark _)))))
        (pss_one (ps_ret pe_bl))
        pss_nil)
      (pss_one (ps_ret (pe_callB (cr_all rfl) (by rfl) nb.b_all (by decide +kernel) (pa_cons (pe_lc (own := [("worth", 2)]) (g := (gName 2)) (tt := tYes) rfl nd (pi_tup (pv 1)) (blkOk_by (N := N_is_row) (sc := defScope s_is_row) (by decide +kernel)) (fun _ _ _ _ _ => (pg_name (i := 2) nd rfl (Or.inl rfl))) (fun _ _ _ _ _ => pts_nil) (fun _ _ _ _ _ => (pe_own D_is_worth hr (pa_cons (pv 2) pa_nil)))) pa_nil))))), ?_⟩
  refine ⟨v, rfl, .int n, rfl, .int n, rfl, v, d, n, n, rfl, hd, hf, fun H1 sm => ⟨_, rfl, ?_⟩⟩
  cases ht : tupB n n d with
  | false =>
    refine iteT (iteT (q' H1 sm _ ?_))
    cases d with
    | tuple ws =>
      have h' : (decide ((n : Int) ≤ (ws.length : Int)) && decide ((ws.length : Int) ≤ n)) = false := ht
      show false = (decide (ws.length = n) && _)
      by_cases e : ws.length = n
      · rw [e] at h'; simp at h'
      · rw [decide_eq_false e]; rfl
    | _ => rfl
  | true =>
    refine iteF ?_
    obtain ⟨p, xs, ws, rfl, rfl, hS, hA⟩ := isT_of hd (tupB_isT ht)
    have l := dpAll_len hA
    have lw : ws.length = n := by
      have h' : (decide ((n : Int) ≤ (ws.length : Int)) && decide ((ws.length : Int) ≤ n)) = true := ht
      rw [Bool.and_eq_true] at h'
      have g1 := of_decide_eq_true h'.1
      have g2 := of_decide_eq_true h'.2
      omega
    obtain ⟨d0, r, rfl⟩ : ∃ d0 r, ws = d0 :: r := by
      cases ws with
      | nil => simp at lw; omega
      | cons a r => exact ⟨a, r, rfl⟩
    have eC : rowB n (.tuple (d0 :: r)) = (!isN d0 && (d0 :: r).all worthB) := by
      show (decide ((d0 :: r).length = n) && _) = _
      rw [decide_eq_true lw]; rfl
    obtain ⟨x0, hx0, hd0⟩ := dpAll_at (i := 0) hA rfl
    refine ⟨.ref p, rfl, p, xs, 0, x0, rfl, rfl, sameT sm hS, atI_nat (j := 0) hx0, rfl, _, rfl, ?_⟩
    rw [isN_v hd0]
    cases hN : isN d0 with
    | true =>
      refine iteT (q' H1 sm _ ?_)
      rw [eC, hN]; rfl
    | false =>
      refine iteF ?_
      refine ⟨.ref p, rfl, p, rfl, ⟨_, sameT sm hS⟩, fun D nD => ?_⟩
      have l9 := hf.1
      refine lc_it walk_tup (PvM H1 D fun i => .bl (worthB ((d0 :: r).getD i .none))) (pvm_start ..) (fun i H2 _ hP => sameT (pvm_same hP nD) (sameT sm hS)) (fun i x H2 H3 hi hP hY => ?_) (fun H2 hP => ?_)
      · obtain ⟨rfl, hx⟩ := hY
        obtain ⟨d1, h1, h2⟩ := dpAll_get i hA hx
        refine ⟨rfl, ?_⟩
        unfold tYes
        dsimp only
        refine iteT ?_
        refine ⟨x, rfl, x, d1, rfl, dp_same (sm.trans (pvm_same hP nD)) h2, fit_mem hf.2 (List.mem_of_getElem? h1), fun H4 s4 => pvm_step hP s4 ?_ (by omega)⟩
        show V.bl (worthB d1) = .bl (worthB ((d0 :: r).getD i .none))
        rw [getD_of h1]
      · refine ⟨D, (List.range xs.length).map fun i => worthB ((d0 :: r).getD i .none), rfl, .inl (.inl ?_), q' H2 (sm.trans (pvm_same hP nD)) _ ?_⟩
        · rw [hP.1, List.map_map]; rfl
        · rw [l, range_all, eC, hN]; rfl
theorem rowB_key {n : Nat} {d : PyData} (h : rowB n d = true) : ∃ i r, d = .tuple (.int i :: r) ∧ (r.length + 1 = n) := by
  cases d with
  | tuple ws =>
    have h' : (decide (ws.length = n) && (!isN (ws.headD .none) && ws.all worthB)) = true := h
    simp only [Bool.and_eq_true, decide_eq_true_eq] at h'
    obtain ⟨h1, h2, h3⟩ := h'
    cases ws with
    | nil => cases h2
    | cons a r =>
      have h2' : (!isN a) = true := h2
      have h4 : worthB a = true := by
        rw [List.all_cons, Bool.and_eq_true] at h3
        exact h3.1
      cases a with
      | int i => exact ⟨i, r, rfl, h1⟩
      | none => cases h2'
      | _ => cases h4
  | _ => cases h
/-- the key of a row that is one -/
theorem row_at {K : PySem.W.Frag} {H : Hp} {v : V} {d : PyData} {n : Nat} (hd : Dp K H v d) (h : rowB n d = true) : ∃ p r, v = .ref p ∧ SqT K H p (.int (keyD d) :: r) := by
  obtain ⟨i, t, rfl, _⟩ := rowB_key h
  cases hd with
  | tup h1 h2 =>
    cases h2 with
    | cons h3 h4 =>
      cases h3
      exact ⟨_, _, rfl, h1⟩
end
end TT

set_option Elab.async false
set_option linter.all false
set_option maxRecDepth 100000
namespace TT
open PySem PySem.Spec PyProof.Rows L2
def lenD : PyData → Nat
  | .list rs => rs.length
  | _ => 0
def lenSum (ds : List PyData) : Int := (ds.map fun d => (lenD d : Int)).sum
def wideOf (ts : List Tab) (i : Nat) : Nat := (ts.getD i (Str.empty, [])).2.length
def allRows (ts : List Tab) (ds : List PyData) : Bool := ((List.range ts.length).map fun i => rowsB (wideOf ts i) (ds.getD i .none)).all id
def contB (ts : List Tab) : PyData → Bool
  | .list ds => decide (ds.length = ts.length) && (allRows ts ds && decide (lenSum ds ≤ 60))
  | _ => false
def spT (R : List Tab → PyData → Bool) (K : PySem.W.Frag) : Sp := fun vs H Q _ => ∃ (tp : Addr) (ts : List Tab) (v : V) (d : PyData), vs = [.ref tp, v] ∧ Tabs K H tp ts ∧ Dp K H v d ∧ Fit d ∧ ∀ H', Same H H' → Q (.bl (R ts d)) H'
theorem spT_len {R : List Tab → PyData → Bool} {K : PySem.W.Frag} {vs : List V} {H : Hp} {Q : VK} {E : XK} (h : spT R K vs H Q E) : vs.length = 2 := by
  obtain ⟨tp, ts, v, d, rfl, _⟩ := h
  rfl
theorem wide_at {ts : List Tab} {i : Nat} {t : Tab} (h : ts[i]? = some t) : wideOf ts i = t.2.length := by
  unfold wideOf
  rw [getD_of h]
/-- where the rows of all tables are such, each part is a list -/
theorem allRows_list {ts : List Tab} {ds : List PyData} (h : allRows ts ds = true) (l : ds.length = ts.length) {i : Nat} {d : PyData} (hd : ds[i]? = some d) : isLB d = true := by
  unfold allRows at h
  have hi : i < ts.length := by rw [← l]; exact (List.getElem?_eq_some_iff.mp hd).1
  have := List.all_eq_true.mp h (rowsB (wideOf ts i) (ds.getD i .none)) (List.mem_map.mpr ⟨i, List.mem_range.mpr hi, rfl⟩)
  rw [getD_of hd] at this
  cases d <;> first | rfl | cases this
structure GR (mg : Str → Option Value) : Prop where
  MOST_ROWS : ∃ u, mg "MOST_ROWS" = some (.int 60 u)
section
variable {P : Program} {w : World} {K : PySem.W.Frag} {mg : Str → Option Value} {base : Heap}
def spRows (K : PySem.W.Frag) : Sp := fun vs H Q _ => ∃ (n : Nat) (v : V) (d : PyData), vs = [.int n, v] ∧ 1 ≤ n ∧ Dp K H v d ∧ Fit d ∧ ∀ H', Same H H' → Q (.bl (rowsB n d)) H'
abbrev s_is_rows : Stmt := topS 27
abbrev N_is_rows : List Str := ["width", "thing", "row", "after"]
theorem sc_is_rows : FnScope N_is_rows ["width", "thing"] (defScope s_is_rows) := ⟨rfl, rfl, rfl, by decide +kernel, rfl, by decide +kernel, by decide +kernel⟩

theorem ok_is_rows {f : Addr} {fd : FuncData} (F : Fun K "_is_rows" "_is_rows" s_is_rows f fd) (nb : NB mg) (D_is_row : Def P w K mg base 4 "is_row" ["width", "thing"] (spRow K)) : FnOk P w K mg base CX0 5 f fd ["width", "thing"] (spRows K) := by
  refine F.ok sc_is_rows (fun vs H Q E h => ?_) (fun cdv A outer sh H vs Q E hr h => ?_)
  · obtain ⟨n, v, d, rfl, _⟩ := h
    rfl
  obtain ⟨n, v, d, rfl, hn, hd, hf, q⟩ := h
  have nd := sc_is_rows.nd
  have q' : ∀ H', Same H H' → ∀ b, b = rowsB n d → Q (.bl b) H' := fun H' s b e => by rw [e]; exact q H' s
  refine ⟨_, (pss_cons (ps_if (pt_not (pt_val (pe_callB call_isi (by rfl) nb.b_isinstance (by decide +kernel) (pa_cons (pv 1) (pa_cons (pe_bltn (v := .ty "list") (by rfl) nb.b_list (by decide +kernel) rfl) pa_nil)))))
        (pss_one (ps_ret pe_bl))
        pss_nil)
      (pss_cons (ps_if (pt_not (pt_val (pe_callB (cr_all rfl) (by rfl) nb.b_all (by decide +kernel) (pa_cons (pe_lc (own := [("row", 2)]) (g := (gName 2)) (tt := tYes) rfl nd (pi_list (pv 1)) (blkOk_by (N := N_is_rows) (sc := defScope s_is_rows) (by decide +kernel)) (fun _ _ _ _ _ => (pg_name (i := 2) nd rfl (Or.inl rfl))) (fun _ _ _ _ _ => pts_nil) (fun _ _ _ _ _ => (pe_own D_is_row hr (pa_cons (pv 0) (pa_cons (pv 2) pa_nil))))) pa_nil))))
        (pss_one (ps_ret pe_bl))
        pss_nil)
      (pss_one (ps_ret (pe_callB (cr_all rfl) (by rfl) nb.b_all (by decide +kernel) (pa_cons (pe_lc (own := [("row", 2), ("after", 3)]) (g := (gTup _ 2 (gCons (gName 2) (gCons (gName 3) gNil)))) (tt := tYes) rfl nd (pi_zipB (by rfl) nb.b_zip (pa_cons (pv 1) (pa_cons (pe_slice sl_list (pv 1) (po_some pe_int) po_none) pa_nil))) (blkOk_by (N := N_is_rows) (sc := defScope s_is_rows) (by decide +kernel)) (fun _ _ _ _ _ => (pg_tup rfl (pgs_cons (pg_name (i := 2) nd rfl (Or.inl rfl)) (pgs_cons (pg_name (i := 3) nd rfl (Or.inl rfl)) pgs_nil)))) (fun _ _ _ _ _ => pts_nil) (fun _ _ _ _ _ => (pe_cmpR op_lt (pe_ix (r := rIxT K) ix_tup (pv 2) pe_int (fun _ _ => rfl)) (pe_ix (r := rIxT K) ix_tup (pv 3) pe_int (fun _ _ => rfl)) (nomark _)))) pa_nil)))))), ?_⟩
  refine ⟨v, rfl, v, .ty "list", _, _, _, rfl, .ty "list", dp_ty hd, kit_l d, _, rfl, ?_⟩
  cases ht : isLB d with
  | false =>
    refine iteT (q' H (Same.refl H) _ ?_)
    cases d <;> first | rfl | cases ht
  | true =>
    refine iteF ?_
    obtain ⟨p, xs, ds, rfl, rfl, hS, hA⟩ := isL_of hd ht
    have l := dpAll_len hA
    have l9 := hf.1
    refine ⟨.ref p, rfl, p, rfl, ⟨_, hS⟩, fun D nD => ?_⟩
    refine lc_it walk_list (PvM H D fun i => .bl (rowB n (ds.getD i .none))) (pvm_start ..) (fun i H2 _ hP => (pvm_same hP nD).seq hS) (fun i x H2 H3 hi hP hY => ?_) (fun H2 hP => ?_)
    · obtain ⟨rfl, hx⟩ := hY
      obtain ⟨d1, h1, h2⟩ := dpAll_get i hA hx
      refine ⟨rfl, ?_⟩
      unfold tYes
      dsimp only
      refine iteT ?_
      refine ⟨.int n, rfl, x, rfl, n, x, d1, rfl, hn, dp_same (pvm_same hP nD) h2, fit_mem hf.2 (List.mem_of_getElem? h1), fun H4 s4 => pvm_step hP s4 ?_ (by omega)⟩
      show V.bl (rowB n d1) = .bl (rowB n (ds.getD i .none))
      rw [getD_of h1]
    · have sm2 : Same H H2 := pvm_same hP nD
      refine ⟨D, (List.range xs.length).map fun i => rowB n (ds.getD i .none), rfl, .inl (.inl ?_), _, rfl, ?_⟩
      · rw [hP.1, List.map_map]; rfl
      rw [l, range_all]
      cases hc : ds.all (rowB n) with
      | false =>
        refine iteT (q' H2 sm2 _ ?_)
        show false = (ds.all (rowB n) && _)
        rw [hc]; rfl
      | true =>
        refine iteF ?_
        have hS2 := sm2.seq hS
        refine ⟨.ref p, rfl, .ref p, rfl, 1, rfl, p, xs, rfl, hS2, fun z nz => ?_⟩
        rw [show cutV xs (some 1) none = xs.drop 1 from cutV_hi xs 1]
        have s3 : Same H2 (upd H2 z (.lst (xs.drop 1))) := same_upd nz
        have e3 : (upd H2 z (.lst (xs.drop 1))) z = some (.lst (xs.drop 1)) := upd_same
        generalize upd H2 z (.lst (xs.drop 1)) = H3 at s3 e3 ⊢
        refine ⟨false, false, p, z, xs, xs.drop 1, rfl, s3.seq hS2, .inl (.inl e3), fun D2 nD2 => ?_⟩
        have lm : ds.length - 1 = min xs.length (xs.drop 1).length := by rw [List.length_drop]; omega
        refine lc_it (walk_zipB lm) (PvM H3 D2 fun i => .bl (decide (keyD (ds.getD i .none) < keyD (ds.getD (i + 1) .none)))) (pvm_start ..) (fun i H4 _ hP4 => ⟨(pvm_same hP4 nD2).seq (s3.seq hS2), .inl (.inl (pvm_same hP4 nD2 _ _ e3))⟩) (fun i x H4 H5 hi hP4 hY => ?_) (fun H4 hP4 => ?_)
        · obtain ⟨Tq, xa, xb, rfl, nT, rfl, ha, hb⟩ := hY
          have sm4 := (sm2.trans s3).trans (pvm_same hP4 nD2)
          have hb' : xs[i + 1]? = some xb := by
            have hb2 : (xs.drop 1)[i]? = some xb := hb
            rw [List.getElem?_drop, Nat.add_comm] at hb2; exact hb2
          obtain ⟨da, h1, h2⟩ := dpAll_get i hA ha
          obtain ⟨db, h3, h4⟩ := dpAll_get (i + 1) hA hb'
          have s5 : Same H4 (upd H4 Tq (.tup [xa, xb])) := same_upd nT
          obtain ⟨pa, ra, rfl, hpa⟩ := row_at (dp_same (sm4.trans s5) h2) (List.all_eq_true.mp hc da (List.mem_of_getElem? h1))
          obtain ⟨pb, rb, rfl, hpb⟩ := row_at (dp_same (sm4.trans s5) h4) (List.all_eq_true.mp hc db (List.mem_of_getElem? h3))
          refine ⟨Tq, _, rfl, .inl (.inl upd_same), rfl, .ref pa, _, rfl, .ref pb, _, rfl, rfl, ?_⟩
          refine ⟨rfl, ?_⟩
          unfold tYes
          dsimp only
          refine iteT ?_
          refine ⟨.ref pa, rfl, pa, _, 0, .int (keyD da), rfl, rfl, hpa, atI_nat (j := 0) rfl, .ref pb, rfl, pb, _, 0, .int (keyD db), rfl, rfl, hpb, atI_nat (j := 0) rfl, _, _, rfl, rfl, pvm_step hP4 s5 ?_ (by omega)⟩
          show V.bl (decide (keyD da < keyD db)) = .bl (decide (keyD (ds.getD i .none) < keyD (ds.getD (i + 1) .none)))
          rw [getD_of h1, getD_of h3]
        · refine ⟨D2, (List.range (ds.length - 1)).map fun i => decide (keyD (ds.getD i .none) < keyD (ds.getD (i + 1) .none)), rfl, .inl (.inl ?_), q' H4 ((sm2.trans s3).trans (pvm_same hP4 nD2)) _ ?_⟩
          · rw [hP4.1, List.map_map]; rfl
          · show _ = (ds.all (rowB n) && risesB ds)
            rw [hc]; rfl
abbrev s_is_content : Stmt := topS 19
abbrev N_is_content : List Str := ["tables", "thing", "widths", "_", "columns", "width", "rows"]
theorem sc_is_content : FnScope N_is_content ["tables", "thing"] (defScope s_is_content) := ⟨rfl, rfl, rfl, by decide +kernel, rfl, by decide +kernel, by decide +kernel⟩

set_option maxHeartbeats 4000000 in
theorem ok_is_content {f : Addr} {fd : FuncData} (F : Fun K "is_content" "is_content" s_is_content f fd) (nb : NB mg) (gr : GR mg) (D_is_rows : Def P w K mg base 5 "_is_rows" ["width", "thing"] (spRows K)) : FnOk P w K mg base CX0 6 f fd ["tables", "thing"] (spT contB K) := by
  refine F.ok sc_is_content (fun vs H Q E h => spT_len h) (fun cdv A outer sh H vs Q E hr h => ?_)
  obtain ⟨tp, ts, v, d, rfl, hT, hd, hf, q⟩ := h
  have nd := sc_is_content.nd
  have q' : ∀ H', Same H H' → ∀ b, b = contB ts d → Q (.bl b) H' := fun H' s b e => by rw [e]; exact q H' s
  obtain ⟨ws, hTS, hTA, lw⟩ := hT.parts
  have l8 := hT.l8
  refine ⟨_, (pss_cons (ps_if (PW.pt (pw_or (pt_not (pt_val (pe_callB call_isi (by rfl) nb.b_isinstance (by decide +kernel) (pa_cons (pv 1) (pa_cons (pe_bltn (v := .ty "list") (by rfl) nb.b_list (by decide +kernel) rfl) pa_nil))))) (pw_or1 (pt_cmpR op_ne (pe_callB call_len_seq (by rfl) nb.b_len (by decide +kernel) (pa_cons (pv 1) pa_nil)) (pe_callB call_len_seq (by rfl) nb.b_len (by decide +kernel) (pa_cons (pv 0) pa_nil)) (nomark _)))))
        (pss_one (ps_ret pe_bl))
        pss_nil)
      (pss_cons (ps_setLc (i := 2) (own := [("_", 3), ("columns", 4)]) (g := (gTup _ 2 (gCons (gName 3) (gCons (gName 4) gNil)))) (tt := tYes) rfl nd rfl rfl (sw_true rfl rfl rfl (by decide +kernel)) (pi_tup (pv 0)) (blkOk_by (N := N_is_content) (sc := defScope s_is_content) (by decide +kernel)) (fun _ _ _ _ _ => (pg_tup rfl (pgs_cons (pg_name (i := 3) nd rfl (Or.inl rfl)) (pgs_cons (pg_name (i := 4) nd rfl (Or.inl rfl)) pgs_nil)))) (fun _ _ _ _ _ => pts_nil) (fun _ _ _ _ _ => (pe_callB (id := "len") (r := rLenQ K) call_len_seq (by rfl) nb.b_len (by decide +kernel) (pa_cons (pv 4) pa_nil))))
      (pss_cons (ps_if (pt_not (pt_val (pe_callB (cr_all rfl) (by rfl) nb.b_all (by decide +kernel) (pa_cons (pe_lc (own := [("width", 5), ("rows", 6)]) (g := (gTup _ 2 (gCons (gName 5) (gCons (gName 6) gNil)))) (tt := tYes) rfl nd (pi_zipB (by rfl) nb.b_zip (pa_cons (pv 2) (pa_cons (pv 1) pa_nil))) (blkOk_by (N := N_is_content) (sc := defScope s_is_content) (by decide +kernel)) (fun _ _ _ _ _ => (pg_tup rfl (pgs_cons (pg_name (i := 5) nd rfl (Or.inl rfl)) (pgs_cons (pg_name (i := 6) nd rfl (Or.inl rfl)) pgs_nil)))) (fun _ _ _ _ _ => pts_nil) (fun _ _ _ _ _ => (pe_own D_is_rows hr (pa_cons (pv 5) (pa_cons (pv 6) pa_nil))))) pa_nil))))
        (pss_one (ps_ret pe_bl))
        pss_nil)
      (pss_one (ps_ret (pe_cmpR op_le (pe_callB (cr_sum rfl) (by rfl) nb.b_sum (by decide +kernel) (pa_cons (pe_lc (own := [("rows", 6)]) (g := (gName 6)) (tt := tYes) rfl nd (pi_list (pv 1)) (blkOk_by (N := N_is_content) (sc := defScope s_is_content) (by decide +kernel)) (fun _ _ _ _ _ => (pg_name (i := 6) nd rfl (Or.inl rfl))) (fun _ _ _ _ _ => pts_nil) (fun _ _ _ _ _ => (pe_callB (id := "len") (r := rLenQ K) call_len_seq (by rfl) nb.b_len (by decide +kernel) (pa_cons (pv 6) pa_nil)))) pa_nil)) (pe_gint gr.MOST_ROWS) (nomark _))))))), ?_⟩
  refine ⟨v, rfl, v, .ty "list", _, _, _, rfl, .ty "list", dp_ty hd, kit_l d, _, rfl, ?_⟩
  cases ht : isLB d with
  | false =>
    refine iteT (iteT (q' H (Same.refl H) _ ?_))
    cases d <;> first | rfl | cases ht
  | true =>
    refine iteF ?_
    obtain ⟨p, xs, ds, rfl, rfl, hS, hA⟩ := isL_of hd ht
    have l := dpAll_len hA
    have l9 := hf.1
    refine ⟨.ref p, rfl, p, xs, rfl, .inl hS, .ref tp, rfl, tp, ws, rfl, .inr hTS, rfl, _, rfl, ?_⟩
    cases hl : decide (V.int (xs.length : Int) = V.int (ws.length : Int)) with
    | false =>
      refine iteT (q' H (Same.refl H) _ ?_)
      have h1 := of_decide_eq_false hl
      show false = (decide (ds.length = ts.length) && _)
      rw [decide_eq_false (fun z => h1 (by rw [l, lw, z]))]; rfl
    | true =>
      refine iteF ?_
      have h1 := V.int.inj (of_decide_eq_true hl)
      have ll : ds.length = ts.length := by omega
      have eC : contB ts (.list ds) = (allRows ts ds && decide (lenSum ds ≤ 60)) := by
        show (decide (ds.length = ts.length) && _) = _
        rw [decide_eq_true ll]; rfl
      -- widths
      refine ⟨.ref tp, rfl, tp, rfl, ⟨_, hTS⟩, fun D nD => ?_⟩
      refine lc_it walk_tup (PvM H D fun i => .int (wideOf ts i)) (pvm_start ..) (fun i H2 _ hP => sameT (pvm_same hP nD) hTS) (fun i x H2 H3 hi hP hY => ?_) (fun H2 hP => ?_)
      · obtain ⟨rfl, hx⟩ := hY
        obtain ⟨tb, qq, pc, ys, htb, rfl, g1, g2, g3⟩ := tab_at hTA hx
        have sm := pvm_same hP nD
        refine ⟨qq, _, rfl, sameT sm g1, rfl, .str tb.1, _, rfl, .ref pc, _, rfl, rfl, ?_⟩
        refine ⟨rfl, ?_⟩
        unfold tYes
        dsimp only
        refine iteT ?_
        refine ⟨.ref pc, rfl, pc, ys, rfl, .inr (sameT sm g2), pvm_step hP (Same.refl _) ?_ (by omega)⟩
        rw [wide_at htb, dpAll_len g3, List.length_map]
      · have sm2 : Same H H2 := pvm_same hP nD
        have eD : H2 D = some (.lst ((List.range ws.length).map fun i => .int (wideOf ts i))) := hP.1
        have lD : ((List.range ws.length).map fun i => V.int (wideOf ts i)).length = ts.length := by rw [List.length_map, List.length_range, lw]
        clear hP
        -- all(_is_rows(width, rows) ..)
        refine ⟨.ref D, rfl, .ref p, rfl, false, false, D, p, _, xs, rfl, .inl (.inl eD), sm2.seq hS, fun D2 nD2 => ?_⟩
        have lm : ts.length = min ((List.range ws.length).map fun i => V.int (wideOf ts i)).length xs.length := by rw [lD]; omega
        refine lc_it (walk_zipB lm) (PvM H2 D2 fun i => .bl (rowsB (wideOf ts i) (ds.getD i .none))) (pvm_start ..) (fun i H4 _ hP4 => ⟨.inl (.inl (pvm_same hP4 nD2 _ _ eD)), (sm2.trans (pvm_same hP4 nD2)).seq hS⟩) (fun i x H4 H5 hi hP4 hY => ?_) (fun H4 hP4 => ?_)
        · obtain ⟨Tq, xa, xb, rfl, nT, rfl, ha, hb⟩ := hY
          have sm4 := sm2.trans (pvm_same hP4 nD2)
          have s5 : Same H4 (upd H4 Tq (.tup [xa, xb])) := same_upd nT
          have ha2 : ((List.range ws.length).map fun i => V.int (wideOf ts i))[i]? = some xa := ha
          rw [List.getElem?_map, List.getElem?_range (by omega)] at ha2
          obtain rfl : V.int (wideOf ts i) = xa := Option.some.inj ha2
          obtain ⟨db, h3, h4⟩ := dpAll_get i hA hb
          obtain ⟨tb, htb⟩ : ∃ tb, ts[i]? = some tb := ⟨_, List.getElem?_eq_getElem hi⟩
          have n1 : 1 ≤ wideOf ts i := by
            rw [wide_at htb]
            exact (hT.ok.cs tb (List.mem_of_getElem? htb)).2
          refine ⟨Tq, _, rfl, .inl (.inl upd_same), rfl, .int (wideOf ts i), _, rfl, xb, _, rfl, rfl, ?_⟩
          refine ⟨rfl, ?_⟩
          unfold tYes
          dsimp only
          refine iteT ?_
          refine ⟨.int (wideOf ts i), rfl, xb, rfl, wideOf ts i, xb, db, rfl, n1, dp_same (sm4.trans s5) h4, fit_mem hf.2 (List.mem_of_getElem? h3), fun H6 s6 => pvm_step hP4 (s5.trans s6) ?_ (by omega)⟩
          rw [getD_of h3]
        · have sm4 := sm2.trans (pvm_same hP4 nD2)
          refine ⟨D2, (List.range ts.length).map fun i => rowsB (wideOf ts i) (ds.getD i .none), rfl, .inl (.inl ?_), _, rfl, ?_⟩
          · rw [hP4.1, List.map_map]; rfl
          cases hc : allRows ts ds with
          | false =>
            rw [show ((List.range ts.length).map fun i => rowsB (wideOf ts i) (ds.getD i .none)).all id = false from hc]; refine iteT (q' H4 sm4 _ ?_)
            rw [eC, hc]; rfl
          | true =>
            rw [show ((List.range ts.length).map fun i => rowsB (wideOf ts i) (ds.getD i .none)).all id = true from hc]; refine iteF ?_
            refine ⟨.ref p, rfl, p, rfl, ⟨_, sm4.seq hS⟩, fun D3 nD3 => ?_⟩
            refine lc_it walk_list (PvM H4 D3 fun i => .int (lenD (ds.getD i .none))) (pvm_start ..) (fun i H5 _ hP5 => (sm4.trans (pvm_same hP5 nD3)).seq hS) (fun i x H5 H6 hi hP5 hY => ?_) (fun H5 hP5 => ?_)
            · obtain ⟨rfl, hx⟩ := hY
              obtain ⟨db, h3, h4⟩ := dpAll_get i hA hx
              have sm5 := sm4.trans (pvm_same hP5 nD3)
              obtain ⟨pr, zs, es, rfl, rfl, hz, hzA⟩ := isL_of h4 (allRows_list hc ll h3)
              refine ⟨rfl, ?_⟩
              unfold tYes
              dsimp only
              refine iteT ?_
              refine ⟨.ref pr, rfl, pr, zs, rfl, .inl (sm5.seq hz), pvm_step hP5 (Same.refl _) ?_ (by omega)⟩
              rw [getD_of h3, dpAll_len hzA]; rfl
            · refine ⟨D3, ds.map fun d => (lenD d : Int), rfl, .inl (.inl ?_), _, _, rfl, rfl, q' H5 (sm4.trans (pvm_same hP5 nD3)) _ ?_⟩
              · rw [hP5.1, l, List.map_map]
                have e := range_map (fun d => V.int (lenD d)) .none ds
                rw [e]; rfl
              · rw [eC, hc]
                rfl
end
end TT

set_option Elab.async false
set_option linter.all false
set_option maxRecDepth 100000
namespace TT
open PySem PySem.Spec PyProof.Rows L2
/-! ### d.get(key, other) of a dict that the module's top has written -/
def KGet (K : PySem.W.Frag) (d : Addr) (k : Str) (r : Option V) : Prop := ∃ r0, PySem.W.nsIn K d k = some r0 ∧ match r, r0 with
  | none, none => True
  | some v, some u => RelV v u
  | _, _ => False
theorem KGet.rel {r : Option V} {r0 : Option Value} (h : match r, r0 with
  | none, none => True
  | some v, some u => RelV v u
  | _, _ => False) {z : V} {y : Value} (rz : RelV z y) : RelV (r.getD z) (r0.getD y) := by
  cases r <;> cases r0
  · exact rz
  · exact h.elim
  · exact h.elim
  · exact h
def tKGet2 (K : PySem.W.Frag) (d : Addr) (td ty tx : TE) : TE := fun σ H Q => td σ H fun x H1 => x = .ref d ∧ ty σ H1 fun y H2 => tx σ H2 fun z H3 => ∃ k r, y = .str k ∧ KGet K d k r ∧ Q (r.getD z) H3
theorem pe_kget2 {X : Cx} {d : Addr} {es : Array DictEntry} {n : Nat} {o e f : Expr} {apos cpos : Pos} {td ty tx : TE} (D : KDict X.K X.w d es n) (ho : PE X o td) (he : PE X e ty) (hf : PE X f tx)
    (m : M2 X o "get" apos e f cpos) : PE X (.Call (.Attribute o "get" apos) [e, f] [] cpos) (tKGet2 X.K d td ty tx) := by
  refine ⟨fun pins s σ H Q I h => ?_⟩
  refine wpAny_Call_method m.base m.few m.line PySem.F.plainAttrs_dict PySem.F.slot_dict_get PySem.F.type_dict_get (thn (ho.run pins s σ H _ I h) fun u s1 ⟨x, H1, I1, rx, ex, q1⟩ => ?_)
  subst ex
  obtain rfl : u = Value.ref d := rx
  have dd := PySem.W.mapOf_K (prog := X.prog) (w := X.w) I1.kIn D.at_ D.lit
  refine ⟨dd.typeIs, fun b q => ?_, ?_⟩
  · cases q
    exact ⟨_, I1.kIn _ _ D.at_, rfl⟩
  rw [m.trees]
  refine Calls.callWith_builtin rfl (Calls.evalArgs_plain (Calls.spliced_cons (thn (he.run pins s1 σ H1 _ I1 q1) fun iv s2 ⟨y, H2, I2, ry, q2⟩ =>
    Calls.spliced_cons (thn (hf.run pins s2 σ H2 _ I2 q2) fun fv s3 ⟨z, H3, I3, rz, k, r, ey, ⟨r0, e0, hr⟩, q3⟩ => Calls.spliced_nil ?_))))
  subst ey
  obtain ⟨t, rfl⟩ := ry
  have d3 := PySem.W.mapOf_K (prog := X.prog) (w := X.w) I3.kIn D.at_ D.lit
  refine call_meetsIn PySem.F.slot_dict_get d3.typeIs PySem.F.entry_dict_get (PySem.F.args_dict_get_3 _ _ _) (meets_dict_get_default (strKind X.prog X.w) d (strKind_is X.prog X.w k t) D.low fv) ⟨_, d3, ?_⟩
  rw [PySem.W.find_K D.at_ e0]
  exact ⟨r.getD z, H3, I3.tok _, KGet.rel hr rz, q3⟩
/-- its entries: texts, and numbers by them -/
inductive DEnts : List (Str × Int) → List DictEntry → Prop
  | nil : DEnts [] []
  | cons {k : Str} {i : Int} {e : DictEntry} {kvs : List (Str × Int)} {es : List DictEntry} : (∃ t, e.key = .str k t) → (∃ u, e.val = .int i u) → DEnts kvs es → DEnts ((k, i) :: kvs) (e :: es)
theorem DEnts.norefs : ∀ {kvs : List (Str × Int)} {es : List DictEntry}, DEnts kvs es → es.any (·.refKey) = false
  | _, _, .nil => rfl
  | _, _, .cons ⟨t, h⟩ _ r => by
    rw [List.any_cons, r.norefs, Bool.or_false]
    unfold DictEntry.refKey
    rw [h]
theorem DEnts.find (z : Str) : ∀ {kvs : List (Str × Int)} {es : List DictEntry}, DEnts kvs es → (∃ k i e u, kvs.find? (fun x => x.1 == z) = some (k, i) ∧ es.find? (·.key.isStr z) = some e ∧ e.val = .int i u) ∨ (kvs.find? (fun x => x.1 == z) = none ∧ es.find? (·.key.isStr z) = none)
  | _, _, .nil => .inr ⟨rfl, rfl⟩
  | _, _, .cons (k := k) (e := e) ⟨t, h⟩ ⟨u, h2⟩ r => by
    rw [List.find?_cons, List.find?_cons]
    have e1 : e.key.isStr z = (k == z) := by rw [h]; rfl
    rw [e1]
    cases hk : (k == z) with
    | true => exact .inl ⟨_, _, _, u, rfl, rfl, h2⟩
    | false => exact r.find z
def getOf (kvs : List (Str × Int)) (z : Str) : Option V := (kvs.find? (fun x => x.1 == z)).map fun x => V.int x.2
theorem kget_of {K : PySem.W.Frag} {d : Addr} {es : Array DictEntry} {n : Nat} {o : Option Addr} {c : Value} {sl : Array (Option Value)} {kvs : List (Str × Int)} (h : K.lookup d = some ⟨c, o, .dict es n, sl⟩) (D : DEnts kvs es.toList) (z : Str) : KGet K d z (getOf kvs z) := by
  rcases D.find z with ⟨k, i, e, u, h1, h2, h3⟩ | ⟨h1, h2⟩
  · refine ⟨some e.val, ?_, ?_⟩
    · unfold PySem.W.nsIn
      rw [h]
      dsimp only
      rw [h2]
    · unfold getOf
      rw [h1]
      show RelV (.int i) e.val
      rw [h3]
      exact ⟨u, rfl⟩
  · refine ⟨none, ?_, ?_⟩
    · unfold PySem.W.nsIn
      rw [h]
      dsimp only
      rw [h2, if_neg (by rw [D.norefs]; exact Bool.false_ne_true)]
    · unfold getOf
      rw [h1]
      trivial
end TT

set_option Elab.async false
set_option linter.all false
set_option maxRecDepth 100000
namespace TT
open PySem PySem.Spec PyProof.Rows L2
/-! ### which deeds may be -/
def lens : List (Str × Int) := [("put", 3), ("drop", 3), ("set", 5), ("sweep", 4), ("shift", 4)]
def lenI (z : Str) : Int := match lens.find? (fun x => x.1 == z) with
  | some x => x.2
  | none => 0
theorem getOf_len (z : Str) : (getOf lens z).getD (.int 0) = .int (lenI z) := by
  unfold getOf lenI
  cases lens.find? (fun x => x.1 == z) <;> rfl
theorem lenI_some {z : Str} (h : lenI z ≠ 0) : (z = "put" ∧ lenI z = 3) ∨ (z = "drop" ∧ lenI z = 3) ∨ (z = "set" ∧ lenI z = 5) ∨ (z = "sweep" ∧ lenI z = 4) ∨ (z = "shift" ∧ lenI z = 4) := by
  unfold lenI at h
  cases e : lens.find? (fun x => x.1 == z) with
  | none => rw [e] at h; exact absurd rfl h
  | some x =>
    have h1 := List.find?_some e
    have hz : x.1 = z := by simpa using h1
    have hm := List.mem_of_find?_eq_some e
    unfold lenI
    rw [e]
    unfold lens at hm
    simp only [List.mem_cons, List.not_mem_nil, or_false] at hm
    rcases hm with rfl | rfl | rfl | rfl | rfl
    · exact .inl ⟨hz.symm, rfl⟩
    · exact .inr (.inl ⟨hz.symm, rfl⟩)
    · exact .inr (.inr (.inl ⟨hz.symm, rfl⟩))
    · exact .inr (.inr (.inr (.inl ⟨hz.symm, rfl⟩)))
    · exact .inr (.inr (.inr (.inr ⟨hz.symm, rfl⟩)))
def cellB (zs : List Str) (c w : PyData) : Bool := match c with
  | .str z => decide (z ∈ zs) && (if zs.head? = some z then boundB w else worthB w)
  | _ => false
def deedP (ts : List Tab) (k : Str) (ds : List PyData) : Bool :=
  if k = "put" then rowB (cns ts (strOf (ds.getD 1 .none))).length (ds.getD 2 .none)
  else if k = "drop" then boundB (ds.getD 2 .none)
  else if k = "set" then boundB (ds.getD 2 .none) && cellB (cns ts (strOf (ds.getD 1 .none))) (ds.getD 3 .none) (ds.getD 4 .none)
  else if k = "sweep" then inS (cns ts (strOf (ds.getD 1 .none))) (ds.getD 2 .none) && worthB (ds.getD 3 .none)
  else inS (cns ts (strOf (ds.getD 1 .none))) (ds.getD 2 .none) && boundB (ds.getD 3 .none)
def deedL (ts : List Tab) (ds : List PyData) : Bool := match ds.getD 0 .none with
  | .str k => decide ((ds.length : Int) = lenI k) && (inS (tns ts) (ds.getD 1 .none) && deedP ts k ds)
  | _ => false
def deedB (ts : List Tab) : PyData → Bool
  | .tuple ds => deedL ts ds
  | _ => false
theorem deed_len {ts : List Tab} {d : PyData} (h : tupB 3 5 d = false) : deedB ts d = false := by
  cases d with
  | tuple ds =>
    have h' : (decide ((3 : Int) ≤ (ds.length : Int)) && decide ((ds.length : Int) ≤ 5)) = false := h
    show deedL ts ds = false
    unfold deedL
    cases e : ds.getD 0 .none with
    | str k =>
      show (decide ((ds.length : Int) = lenI k) && _) = false
      have hl : (ds.length : Int) ≠ lenI k := fun z => by
        have h0 : 0 < ds.length := by
          cases ds with
          | nil => cases e
          | cons a r => exact Nat.zero_lt_succ _
        have := lenI_some (z := k) (by omega)
        rw [Bool.and_eq_false_iff] at h'
        rcases h' with h' | h'
        · have := of_decide_eq_false h'; omega
        · have := of_decide_eq_false h'; omega
      rw [decide_eq_false hl]; rfl
    | _ => rfl
  | _ => rfl
/-- what looks at data beside tables, such as can be looked at within -/
def spTs (R : List Tab → PyData → Bool) (K : PySem.W.Frag) : Sp := fun vs H Q _ => ∃ (tp : Addr) (ts : List Tab) (v : V) (d : PyData), vs = [.ref tp, v] ∧ Tabs K H tp ts ∧ Dp K H v d ∧ Fit d ∧ SeqAt.shaped d = true ∧ ∀ H', Same H H' → Q (.bl (R ts d)) H'
theorem spTs_len {R : List Tab → PyData → Bool} {K : PySem.W.Frag} {vs : List V} {H : Hp} {Q : VK} {E : XK} (h : spTs R K vs H Q E) : vs.length = 2 := by
  obtain ⟨tp, ts, v, d, rfl, _⟩ := h
  rfl
structure GL (K : PySem.W.Frag) (w : World) (mg : Str → Option Value) : Prop where
  ex : ∃ a es n, mg "LENGTHS" = some (.ref a) ∧ KDict K w a es n ∧ DEnts lens es.toList
theorem inS_false {zs : List Str} {d : PyData} (h : ∀ z, d = .str z → z ∉ zs) : inS zs d = false := by
  cases d <;> first | rfl | exact decide_eq_false (h _ rfl)
section
variable {P : Program} {w : World} {K : PySem.W.Frag} {mg : Str → Option Value} {base : Heap}
def spCell (K : PySem.W.Frag) : Sp := fun vs H Q _ => ∃ (lp : Addr) (zs : List Str) (v u : V) (c d : PyData), vs = [.ref lp, v, u] ∧ SqL K H lp (zs.map V.str) ∧ (∀ z ∈ zs, NameOk z) ∧ 0 < zs.length ∧ Dp K H v c ∧ SeqAt.shaped c = true ∧ Dp K H u d ∧ Fit d ∧ ∀ H', Same H H' → Q (.bl (cellB zs c d)) H'
abbrev s_is_cell : Stmt := topS 38
abbrev N_is_cell : List Str := ["columns", "column", "worth"]
theorem sc_is_cell : FnScope N_is_cell ["columns", "column", "worth"] (defScope s_is_cell) := ⟨rfl, rfl, rfl, by decide +kernel, rfl, by decide +kernel, by decide +kernel⟩

theorem ok_is_cell {f : Addr} {fd : FuncData} (F : Fun K "_is_cell" "_is_cell" s_is_cell f fd) (D_is_bounded : Def P w K mg base 2 "is_bounded" ["thing"] (spB boundB K)) (D_is_worth : Def P w K mg base 3 "is_worth" ["thing"] (spB worthB K)) : FnOk P w K mg base CX0 4 f fd ["columns", "column", "worth"] (spCell K) := by
  refine F.ok sc_is_cell (fun vs H Q E h => ?_) (fun cdv A outer sh H vs Q E hr h => ?_)
  · obtain ⟨lp, zs, v, u, c, d, rfl, _⟩ := h
    rfl
  obtain ⟨lp, zs, v, u, c, d, rfl, hL, hn, l0, hc, sc, hd, hf, q⟩ := h
  have nd := sc_is_cell.nd
  have q' : ∀ H', Same H H' → ∀ b, b = cellB zs c d → Q (.bl b) H' := fun H' s b e => by rw [e]; exact q H' s
  refine ⟨_, (pss_cons (ps_if (pt_cmpR (op_ninN (u65 hr)) (pv 1) (pv 0) (by rfl))
        (pss_one (ps_ret pe_bl))
        pss_nil)
      (pss_one (ps_ret (pe_ifExp (pt_cmpR (op_eqD hr.units) (pv 1) (pe_ix ix_list (pv 0) pe_int (fun _ _ => rfl)) (nomark _)) (pe_own D_is_bounded hr (pa_cons (pv 2) pa_nil)) (pe_own D_is_worth hr (pa_cons (pv 2) pa_nil)))))), ?_⟩
  refine ⟨v, rfl, .ref lp, rfl, c, zs, lp, rfl, hc, sc, .inl hL, shaped_strs hn, _, rfl, ?_⟩
  cases hi : inS zs c with
  | false =>
    refine iteT (q' H (Same.refl H) _ ?_)
    cases c with
    | str z =>
      have e : decide (z ∈ zs) = false := hi
      show false = (decide (z ∈ zs) && _)
      rw [e]; rfl
    | _ => rfl
  | true =>
    refine iteF ?_
    obtain ⟨z, rfl, hz⟩ := inS_str hi
    cases hc
    obtain ⟨z0, r, rfl⟩ : ∃ z0 r, zs = z0 :: r := by
      cases zs with
      | nil => cases l0
      | cons a r => exact ⟨a, r, rfl⟩
    have eC : cellB (z0 :: r) (.str z) d = (if z0 = z then boundB d else worthB d) := by
      show (decide (z ∈ z0 :: r) && (if (z0 :: r).head? = some z then boundB d else worthB d)) = _
      rw [decide_eq_true hz, Bool.true_and]
      by_cases h : z0 = z
      · rw [if_pos h, if_pos (by rw [h]; rfl)]
      · rw [if_neg h, if_neg (show ¬ (z0 :: r).head? = some z from fun y => h (Option.some.inj y))]
    refine ⟨_, rfl, .ref lp, rfl, lp, _, 0, .str z0, rfl, rfl, hL, atI_nat (j := 0) rfl, .str z, .str z0, .str z, .str z0, sc, shaped_str (hn z0 (List.mem_cons_self ..)), _, rfl, ?_⟩
    have ev : PyData.eqv (.str z) (.str z0) = decide (z0 = z) := by
      show (z == z0) = decide (z0 = z)
      by_cases h : z0 = z
      · rw [decide_eq_true h, h]; exact beq_self_eq_true z
      · rw [decide_eq_false h]; exact beq_eq_false_iff_ne.mpr fun y => h y.symm
    rw [ev]
    by_cases h : z0 = z
    · rw [decide_eq_true h]
      refine iteT ?_
      refine ⟨u, rfl, u, d, rfl, hd, hf, fun H1 s1 => q' H1 s1 _ ?_⟩
      rw [eC, if_pos h]
    · rw [decide_eq_false h]
      refine iteF ?_
      refine ⟨u, rfl, u, d, rfl, hd, hf, fun H1 s1 => q' H1 s1 _ ?_⟩
      rw [eC, if_neg h]
abbrev s_is_deed : Stmt := topS 30
abbrev N_is_deed : List Str := ["tables", "thing", "kind", "table", "columns"]
theorem sc_is_deed : FnScope N_is_deed ["tables", "thing"] (defScope s_is_deed) := ⟨rfl, rfl, rfl, by decide +kernel, rfl, by decide +kernel, by decide +kernel⟩

set_option maxHeartbeats 4000000 in
theorem ok_is_deed {f : Addr} {fd : FuncData} (F : Fun K "is_deed" "is_deed" s_is_deed f fd) (nb : NB mg) (gl : GL K w mg) (D_is_tuple : Def P w K mg base 1 "is_tuple" ["thing", "least", "most"] (spTup K)) (D_is_bounded : Def P w K mg base 2 "is_bounded" ["thing"] (spB boundB K)) (D_is_worth : Def P w K mg base 3 "is_worth" ["thing"] (spB worthB K))
    (D_table_names : Def P w K mg base 1 "table_names" ["tables"] (spNamesOf K)) (D_column_names : Def P w K mg base 2 "column_names" ["tables", "table"] (spColNames K)) (D_is_row : Def P w K mg base 4 "is_row" ["width", "thing"] (spRow K)) (D_is_cell : Def P w K mg base 4 "_is_cell" ["columns", "column", "worth"] (spCell K)) :
    FnOk P w K mg base CX0 5 f fd ["tables", "thing"] (spTs deedB K) := by
  refine F.ok sc_is_deed (fun vs H Q E h => spTs_len h) (fun cdv A outer sh H vs Q E hr h => ?_)
  obtain ⟨tp, ts, v, d, rfl, hT, hd, hf, hs, q⟩ := h
  have nd := sc_is_deed.nd
  have q' : ∀ H', Same H H' → ∀ b, b = deedB ts d → Q (.bl b) H' := fun H' s b e => by rw [e]; exact q H' s
  obtain ⟨aL, esL, nL, mL, DL, EL⟩ := gl.ex
  refine ⟨_, (pss_cons (ps_if (PW.pt (pw_or (pt_not (pt_val (pe_own D_is_tuple hr (pa_cons (pv 1) (pa_cons pe_int (pa_cons pe_int pa_nil)))))) (pw_or1 (pt_not (pt_val (pe_callB call_isi (by rfl) nb.b_isinstance (by decide +kernel) (pa_cons (pe_ix ix_tup (pv 1) pe_int (fun _ _ => rfl)) (pa_cons (pe_bltn (v := .ty "str") (by rfl) nb.b_str (by decide +kernel) rfl) pa_nil))))))))
        (pss_one (ps_ret pe_bl))
        pss_nil)
      (pss_cons (ps_if (PW.pt (pw_or (pt_cmpR op_ne (pe_callB call_len_seq (by rfl) nb.b_len (by decide +kernel) (pa_cons (pv 1) pa_nil)) (pe_kget2 DL (pe_glob (v := .ref aL) (by rfl) mL rfl) (pe_ix ix_tup (pv 1) pe_int (fun _ _ => rfl)) pe_int ⟨by rfl, by rfl, by rfl, by rfl⟩) (nomark _)) (pw_or1 (pt_cmpR (op_ninN (u65 hr)) (pe_ix ix_tup (pv 1) pe_int (fun _ _ => rfl)) (pe_own D_table_names hr (pa_cons (pv 0) pa_nil)) (by rfl)))))
        (pss_one (ps_ret pe_bl))
        pss_nil)
      (pss_cons (ps_asg (pe_slice sl_tup (pv 1) po_none (po_some pe_int)) (pg_tup rfl (pgs_cons (pg_name (i := 2) nd rfl (Or.inl rfl)) (pgs_cons (pg_name (i := 3) nd rfl (Or.inl rfl)) pgs_nil))))
      (pss_cons (ps_set (i := 4) nd rfl (Or.inl rfl) (pe_own D_column_names hr (pa_cons (pv 0) (pa_cons (pv 3) pa_nil))))
      (pss_cons (ps_if (pt_cmpR op_eq (pv 2) pe_str (nomark _))
        (pss_one (ps_ret (pe_own D_is_row hr (pa_cons (pe_callB call_len_seq (by rfl) nb.b_len (by decide +kernel) (pa_cons (pv 4) pa_nil)) (pa_cons (pe_ix ix_tup (pv 1) pe_int (fun _ _ => rfl)) pa_nil)))))
        pss_nil)
      (pss_cons (ps_if (pt_cmpR op_eq (pv 2) pe_str (nomark _))
        (pss_one (ps_ret (pe_own D_is_bounded hr (pa_cons (pe_ix ix_tup (pv 1) pe_int (fun _ _ => rfl)) pa_nil))))
        pss_nil)
      (pss_cons (ps_if (pt_cmpR op_eq (pv 2) pe_str (nomark _))
        (pss_one (ps_ret (pe_and (pe_own D_is_bounded hr (pa_cons (pe_ix ix_tup (pv 1) pe_int (fun _ _ => rfl)) pa_nil)) (pe_one (pe_own D_is_cell hr (pa_cons (pv 4) (pa_cons (pe_ix ix_tup (pv 1) pe_int (fun _ _ => rfl)) (pa_cons (pe_ix ix_tup (pv 1) pe_int (fun _ _ => rfl)) pa_nil))))))))
        pss_nil)
      (pss_cons (ps_if (pt_cmpR op_eq (pv 2) pe_str (nomark _))
        (pss_one (ps_ret (pe_and (pe_cmpR (op_inN (u65 hr)) (pe_ix ix_tup (pv 1) pe_int (fun _ _ => rfl)) (pv 4) (by rfl)) (pe_one (pe_own D_is_worth hr (pa_cons (pe_ix ix_tup (pv 1) pe_int (fun _ _ => rfl)) pa_nil))))))
        pss_nil)
      (pss_one (ps_ret (pe_and (pe_cmpR (op_inN (u65 hr)) (pe_ix ix_tup (pv 1) pe_int (fun _ _ => rfl)) (pv 4) (by rfl)) (pe_one (pe_own D_is_bounded hr (pa_cons (pe_ix ix_tup (pv 1) pe_int (fun _ _ => rfl)) pa_nil)))))))))))))), ?_⟩
  refine ⟨v, rfl, v, d, 3, 5, rfl, hd, hf, fun H1 s1 => ⟨_, rfl, ?_⟩⟩
  cases ht : tupB 3 5 d with
  | false => exact iteT (iteT (q' H1 s1 _ (deed_len ht).symm))
  | true =>
    refine iteF ?_
    obtain ⟨p, xs, ds, rfl, rfl, hS, hA⟩ := isT_of hd (tupB_isT ht)
    have l := dpAll_len hA
    have lb : 3 ≤ ds.length ∧ ds.length ≤ 5 := by
      have h' : (decide ((3 : Int) ≤ (ds.length : Int)) && decide ((ds.length : Int) ≤ 5)) = true := ht
      rw [Bool.and_eq_true] at h'
      have g1 := of_decide_eq_true h'.1
      have g2 := of_decide_eq_true h'.2
      omega
    have at' : ∀ i, i < ds.length → ∃ u e, xs[i]? = some u ∧ ds[i]? = some e ∧ ds.getD i .none = e ∧ Dp K H u e ∧ Fit e ∧ SeqAt.shaped e = true := fun i hi => by
      have h1 : ds[i]? = some ds[i] := List.getElem?_eq_getElem hi
      obtain ⟨u, h2, h3⟩ := dpAll_at hA h1
      have hm := List.mem_of_getElem? h1
      exact ⟨u, _, h2, h1, getD_of h1, h3, fit_mem hf.2 hm, shaped_mem hs hm⟩
    obtain ⟨u0, e0, x0, y0, g0, d0, _, _⟩ := at' 0 (by omega)
    obtain ⟨u1, e1, x1, y1, g1, d1, _, sh1⟩ := at' 1 (by omega)
    obtain ⟨u2, e2, x2, y2, g2, d2, f2, sh2⟩ := at' 2 (by omega)
    refine ⟨.ref p, rfl, p, xs, 0, u0, rfl, rfl, sameT s1 hS, atI_nat (j := 0) x0, u0, .ty "str", _, _, _, rfl, .ty "str", dp_ty (dp_same s1 d0), kit_s e0, _, rfl, ?_⟩
    cases hk : isSB e0 with
    | false =>
      refine iteT (q' H1 s1 _ ?_)
      show false = deedL ts ds
      unfold deedL
      rw [g0]
      cases e0 <;> first | rfl | cases hk
    | true =>
      refine iteF ?_
      obtain ⟨k, rfl⟩ : ∃ k, e0 = .str k := by cases e0 <;> first | exact ⟨_, rfl⟩ | cases hk
      cases d0
      have eL : deedB ts (.tuple ds) = (decide ((ds.length : Int) = lenI k) && (inS (tns ts) e1 && deedP ts k ds)) := by
        show deedL ts ds = _
        unfold deedL
        rw [g0, g1]
      -- len(thing) != LENGTHS.get(thing[0], 0)
      refine ⟨.ref p, rfl, p, xs, rfl, .inr (sameT s1 hS), rfl, .ref p, rfl, p, xs, 0, .str k, rfl, rfl, sameT s1 hS, atI_nat (j := 0) x0, k, _, rfl, kget_of DL.at_ EL k, ?_⟩
      rw [getOf_len]
      refine ⟨rfl, _, rfl, ?_⟩
      cases hl : decide (V.int (xs.length : Int) = V.int (lenI k)) with
      | false =>
        refine iteT (iteT (q' H1 s1 _ ?_))
        have h1 := of_decide_eq_false hl
        rw [eL, decide_eq_false (fun z => h1 (by rw [l, z]))]; rfl
      | true =>
        refine iteF ?_
        have hlen : (ds.length : Int) = lenI k := by
          have := V.int.inj (of_decide_eq_true hl)
          omega
        -- thing[1] not in table_names(tables)
        obtain ⟨ws, hTS, hTA, lw⟩ := hT.parts
        refine ⟨.ref p, rfl, p, xs, 1, u1, rfl, rfl, sameT s1 hS, atI_nat x1, .ref tp, rfl, tp, ws, ts.map tabD, rfl, sameT s1 hTS, dpAll_same s1 hTA, by rw [List.length_map]; have := hT.l8; omega, strName_tabs ts, fun D H2 s2 eD => ?_⟩
        rw [namesOf_tabs] at eD
        have s12 := s1.trans s2
        refine ⟨e1, tns ts, D, rfl, dp_same s12 d1, sh1, .inl (.inl (.inl eD)), shaped_strs (tns_ok hT.ok), _, rfl, ?_⟩
        cases hi : inS (tns ts) e1 with
        | false =>
          refine iteT (q' H2 s12 _ ?_)
          rw [eL, hi, Bool.false_and, Bool.and_false]
        | true =>
          refine iteF ?_
          obtain ⟨t, rfl, htm⟩ := inS_str hi
          cases d1
          have eP : deedB ts (.tuple ds) = deedP ts k ds := by
            rw [eL, hi, decide_eq_true hlen]; rfl
          have ek := lenI_some (z := k) (by omega)
          -- kind, table = thing[:2]
          refine ⟨.ref p, rfl, 2, rfl, p, xs, rfl, sameT s12 hS, ?_, fun p2 n2 => ?_⟩
          · intro z
            have z2 := z.2
            rw [show ((2 : Int)) = ((2 : Nat) : Int) from rfl, HT.sIx_nat] at z2
            omega
          rw [show cutV xs none (some 2) = xs.take 2 from cutV_lo xs 2]
          have et : xs.take 2 = [.str k, .str t] := by
            have h0 : xs[0]? = some (.str k) := x0
            have h1 : xs[1]? = some (.str t) := x1
            match xs, h0, h1 with
            | a :: b :: r, h0, h1 =>
              rw [show a = V.str k from Option.some.inj h0, show b = V.str t from Option.some.inj h1]; rfl
          rw [et]
          have s3 := s12.trans (same_upd (o := .tup [.str k, .str t]) n2)
          refine ⟨p2, _, rfl, .inl (.inl upd_same), rfl, .str k, _, rfl, .str t, _, rfl, rfl, ?_⟩
          generalize upd H2 p2 (.tup [.str k, .str t]) = H3 at s3 ⊢
          -- columns
          refine ⟨.ref tp, rfl, .str t, rfl, tp, ts, t, rfl, hT.same s3, htm, fun C H4 s4' eC => ?_⟩
          have s4 := s3.trans s4'
          obtain ⟨hcn, hc0, hc5, _⟩ := cns_ok hT.ok htm
          have eZ : ∀ n : Nat, cns ts (strOf (ds.getD 1 .none)) = cns ts t := fun _ => by rw [g1]; rfl
          -- put
          refine ⟨.str k, rfl, rfl, _, rfl, ite2 (fun b1 => ?_) (fun b1 => ?_)⟩
          · have b1 : k = "put" := V.str.inj (of_decide_eq_true b1)
            refine ⟨.ref C, rfl, C, _, rfl, .inl (.inl (.inl eC)), .ref p, rfl, p, xs, 2, u2, rfl, rfl, sameT s4 hS, atI_nat x2, (cns ts t).length, u2, e2, by rw [List.length_map]; rfl, hc0, dp_same s4 d2, f2, fun H5 s5 => q' H5 (s4.trans s5) _ ?_⟩
            rw [eP]
            unfold deedP
            rw [if_pos b1, g1, g2]; rfl
          · have b1 : ¬ k = "put" := fun z => b1 (decide_eq_true (by rw [z]))
            refine ⟨.str k, rfl, rfl, _, rfl, ite2 (fun b2 => ?_) (fun b2 => ?_)⟩
            · have b2 : k = "drop" := V.str.inj (of_decide_eq_true b2)
              refine ⟨.ref p, rfl, p, xs, 2, u2, rfl, rfl, sameT s4 hS, atI_nat x2, u2, e2, rfl, dp_same s4 d2, f2, fun H5 s5 => q' H5 (s4.trans s5) _ ?_⟩
              rw [eP]
              unfold deedP
              rw [if_neg b1, if_pos b2, g2]
            · have b2 : ¬ k = "drop" := fun z => b2 (decide_eq_true (by rw [z]))
              refine ⟨.str k, rfl, rfl, _, rfl, ite2 (fun b3 => ?_) (fun b3 => ?_)⟩
              · have b3 : k = "set" := V.str.inj (of_decide_eq_true b3)
                have l5 : ds.length = 5 := by
                  rcases ek with ⟨z, _⟩ | ⟨z, _⟩ | ⟨_, z⟩ | ⟨z, _⟩ | ⟨z, _⟩
                  · exact absurd z b1
                  · exact absurd z b2
                  · omega
                  · rw [b3] at z; exact absurd z (by decide)
                  · rw [b3] at z; exact absurd z (by decide)
                obtain ⟨u3, e3, x3, y3, g3, d3, f3, sh3⟩ := at' 3 (by omega)
                obtain ⟨u4, e4, x4, y4, g4, d4, f4, sh4⟩ := at' 4 (by omega)
                have eQ : deedB ts (.tuple ds) = (boundB e2 && cellB (cns ts t) e3 e4) := by
                  rw [eP]
                  unfold deedP
                  rw [if_neg b1, if_neg b2, if_pos b3, g1, g2, g3, g4]; rfl
                refine ⟨.ref p, rfl, p, xs, 2, u2, rfl, rfl, sameT s4 hS, atI_nat x2, u2, e2, rfl, dp_same s4 d2, f2, fun H5 s5 => ⟨_, rfl, ite2 (fun b4 => ?_) (fun b4 => ?_)⟩⟩
                · have s45 := s4.trans s5
                  refine ⟨.ref C, rfl, .ref p, rfl, p, xs, 3, u3, rfl, rfl, sameT s45 hS, atI_nat x3, .ref p, rfl, p, xs, 4, u4, rfl, rfl, sameT s45 hS, atI_nat x4, C, cns ts t, u3, u4, e3, e4, rfl, .inl (.inl (s5 _ _ eC)), hcn, hc0, dp_same s45 d3, sh3, dp_same s45 d4, f4, fun H6 s6 => q' H6 (s45.trans s6) _ ?_⟩
                  rw [eQ, b4]; rfl
                · refine q' H5 (s4.trans s5) _ ?_
                  rw [eQ, Bool.eq_false_iff.mpr b4]; rfl
              · have b3 : ¬ k = "set" := fun z => b3 (decide_eq_true (by rw [z]))
                have l4 : ds.length = 4 := by
                  rcases ek with ⟨z, _⟩ | ⟨z, _⟩ | ⟨z, _⟩ | ⟨_, z⟩ | ⟨_, z⟩
                  · exact absurd z b1
                  · exact absurd z b2
                  · exact absurd z b3
                  · omega
                  · omega
                obtain ⟨u3, e3, x3, y3, g3, d3, f3, sh3⟩ := at' 3 (by omega)
                refine ⟨.str k, rfl, rfl, _, rfl, ite2 (fun b4 => ?_) (fun b4 => ?_)⟩
                · have b4 : k = "sweep" := V.str.inj (of_decide_eq_true b4)
                  have eQ : deedB ts (.tuple ds) = (inS (cns ts t) e2 && worthB e3) := by
                    rw [eP]
                    unfold deedP
                    rw [if_neg b1, if_neg b2, if_neg b3, if_pos b4, g1, g2, g3]; rfl
                  refine ⟨.ref p, rfl, p, xs, 2, u2, rfl, rfl, sameT s4 hS, atI_nat x2, .ref C, rfl, e2, cns ts t, C, rfl, dp_same s4 d2, sh2, .inl (.inl (.inl eC)), shaped_strs hcn, _, rfl, ite2 (fun b5 => ?_) (fun b5 => ?_)⟩
                  · refine ⟨.ref p, rfl, p, xs, 3, u3, rfl, rfl, sameT s4 hS, atI_nat x3, u3, e3, rfl, dp_same s4 d3, f3, fun H5 s5 => q' H5 (s4.trans s5) _ ?_⟩
                    rw [eQ, b5]; rfl
                  · refine q' H4 s4 _ ?_
                    rw [eQ, Bool.eq_false_iff.mpr b5]; rfl
                · have b4 : ¬ k = "sweep" := fun z => b4 (decide_eq_true (by rw [z]))
                  have eQ : deedB ts (.tuple ds) = (inS (cns ts t) e2 && boundB e3) := by
                    rw [eP]
                    unfold deedP
                    rw [if_neg b1, if_neg b2, if_neg b3, if_neg b4, g1, g2, g3]; rfl
                  refine ⟨.ref p, rfl, p, xs, 2, u2, rfl, rfl, sameT s4 hS, atI_nat x2, .ref C, rfl, e2, cns ts t, C, rfl, dp_same s4 d2, sh2, .inl (.inl (.inl eC)), shaped_strs hcn, _, rfl, ite2 (fun b5 => ?_) (fun b5 => ?_)⟩
                  · refine ⟨.ref p, rfl, p, xs, 3, u3, rfl, rfl, sameT s4 hS, atI_nat x3, u3, e3, rfl, dp_same s4 d3, f3, fun H5 s5 => q' H5 (s4.trans s5) _ ?_⟩
                    rw [eQ, b5]; rfl
                  · refine q' H4 s4 _ ?_
                    rw [eQ, Bool.eq_false_iff.mpr b5]; rfl
end
end TT

set_option Elab.async false
set_option linter.all false
set_option maxRecDepth 100000
namespace TT
open PySem PySem.Spec PyProof.Rows L2 LamX
/-! ### a content is one where it is fine -/
def BdI (x : Int) : Prop := -1000000000 ≤ x ∧ x ≤ 1000000000
theorem worth_bd (o : Option Int) : worthB (wD o) = true ↔ ∀ x, o = some x → BdI x := by
  cases o with
  | none => exact ⟨fun _ x h => (nomatch h), fun _ => rfl⟩
  | some k =>
    show (decide (-1000000000 ≤ k) && decide (k ≤ 1000000000)) = true ↔ _
    rw [Bool.and_eq_true, decide_eq_true_iff, decide_eq_true_iff]
    exact ⟨fun h x e => by rw [← Option.some.inj e]; exact h, fun h => h k rfl⟩
theorem row_bd {n : Nat} {r : Rw} (h : RwOk n r) : rowB n (rowD r) = true ↔ ∀ x ∈ r.filterMap id, BdI x := by
  have h1 : decide ((r.map wD).length = n) = true := decide_eq_true (by rw [List.length_map]; exact h.len)
  have h2 : (!isN ((r.map wD).headD .none)) = true := by
    obtain ⟨k, t, rfl⟩ := h.key
    rfl
  show (decide ((r.map wD).length = n) && (!isN ((r.map wD).headD .none) && (r.map wD).all worthB)) = true ↔ _
  rw [h1, h2, Bool.true_and, Bool.true_and, List.all_eq_true]
  constructor
  · intro g x hx
    obtain ⟨o, ho, e⟩ := List.mem_filterMap.mp hx
    exact (worth_bd o).mp (g _ (List.mem_map.mpr ⟨o, ho, rfl⟩)) x e
  · intro g d hd
    obtain ⟨o, ho, rfl⟩ := List.mem_map.mp hd
    exact (worth_bd o).mpr fun x e => g x (List.mem_filterMap.mpr ⟨o, ho, e⟩)
theorem key_data {r : Rw} (h : ∃ k t, r = some k :: t) : keyD (rowD r) = keyW r := by
  obtain ⟨k, t, rfl⟩ := h
  rfl
theorem rises_of {n : Nat} {rs : List Rw} (h : RwsOk n rs) : risesB (rs.map rowD) = true := by
  unfold risesB
  rw [List.all_eq_true]
  intro b hb
  obtain ⟨i, hi, rfl⟩ := List.mem_map.mp hb
  have hi := List.mem_range.mp hi
  rw [List.length_map] at hi
  have l1 : i < rs.length := by omega
  have l2 : i + 1 < rs.length := by omega
  have e1 : (rs.map rowD)[i]? = some (rowD rs[i]) := by rw [List.getElem?_map, List.getElem?_eq_getElem l1]; rfl
  have e2 : (rs.map rowD)[i + 1]? = some (rowD rs[i + 1]) := by rw [List.getElem?_map, List.getElem?_eq_getElem l2]; rfl
  rw [getD_of e1, getD_of e2, key_data (h.row _ (List.getElem_mem l1)).key, key_data (h.row _ (List.getElem_mem l2)).key]
  have := List.pairwise_iff_getElem.mp h.up i (i + 1) (by rw [List.length_map]; exact l1) (by rw [List.length_map]; exact l2) (Nat.lt_succ_self i)
  rw [List.getElem_map, List.getElem_map] at this
  exact decide_eq_true this
theorem rows_bd {n : Nat} {rs : List Rw} (h : RwsOk n rs) : rowsB n (rowsD rs) = true ↔ ∀ x ∈ numsR rs, BdI x := by
  show ((rs.map rowD).all (rowB n) && risesB (rs.map rowD)) = true ↔ _
  rw [rises_of h, Bool.and_true, List.all_eq_true]
  constructor
  · intro g x hx
    obtain ⟨r, hr, hx⟩ := List.mem_flatMap.mp hx
    exact (row_bd (h.row r hr)).mp (g _ (List.mem_map.mpr ⟨r, hr, rfl⟩)) x hx
  · intro g d hd
    obtain ⟨r, hr, rfl⟩ := List.mem_map.mp hd
    exact (row_bd (h.row r hr)).mpr fun x hx => g x (List.mem_flatMap.mpr ⟨r, hr, hx⟩)
theorem lenSum_cont (ct : List (List Rw)) : lenSum (ct.map rowsD) = (ct.map fun rs => (rs.length : Int)).sum := by
  unfold lenSum
  rw [List.map_map]
  congr 1
  exact List.map_congr_left fun rs _ => by
    show ((rs.map rowD).length : Int) = rs.length
    rw [List.length_map]
theorem cont_fine {L : Nat} {ts : List Tab} {ct : List (List Rw)} (okc : ContOk L ts ct) : contB ts (contD ct) = fineB ct := by
  show (decide ((ct.map rowsD).length = ts.length) && (allRows ts (ct.map rowsD) && decide (lenSum (ct.map rowsD) ≤ 60))) = _
  rw [decide_eq_true (by rw [List.length_map]; exact okc.len), Bool.true_and, lenSum_cont]
  unfold fineB
  congr 1
  · rw [Bool.eq_iff_iff, decide_eq_true_iff]
    unfold allRows
    rw [List.all_eq_true]
    have at' : ∀ i, i < ts.length → ∃ t rs, ts[i]? = some t ∧ ct[i]? = some rs ∧ rowsB (wideOf ts i) ((ct.map rowsD).getD i .none) = rowsB t.2.length (rowsD rs) ∧ RwsOk t.2.length rs := fun i hi => by
      obtain ⟨t, ht⟩ : ∃ x, ts[i]? = some x := ⟨_, List.getElem?_eq_getElem hi⟩
      obtain ⟨rs, hrs⟩ : ∃ x, ct[i]? = some x := ⟨_, List.getElem?_eq_getElem (by rw [okc.len]; exact hi)⟩
      refine ⟨t, rs, ht, hrs, ?_, okc.rows i t rs ht hrs⟩
      rw [wide_at ht, getD_of (by rw [List.getElem?_map, hrs]; rfl : (ct.map rowsD)[i]? = some (rowsD rs))]
    constructor
    · intro g x hx
      obtain ⟨rs, hr, hx⟩ := List.mem_flatMap.mp hx
      obtain ⟨i, hi⟩ := List.getElem?_of_mem hr
      have li := (List.getElem?_eq_some_iff.mp hi).1
      rw [okc.len] at li
      obtain ⟨t, rs2, h1, h2, h3, h4⟩ := at' i li
      rw [hi] at h2
      cases h2
      have := g _ (List.mem_map.mpr ⟨i, List.mem_range.mpr li, rfl⟩)
      rw [h3] at this
      exact (rows_bd h4).mp this x hx
    · intro g b hb
      obtain ⟨i, hi, rfl⟩ := List.mem_map.mp hb
      obtain ⟨t, rs, h1, h2, h3, h4⟩ := at' i (List.mem_range.mp hi)
      rw [h3]
      exact (rows_bd h4).mpr fun x hx => g x (List.mem_flatMap.mpr ⟨rs, List.mem_of_getElem? h2, hx⟩)
  · exact decide_eq_decide.mpr ⟨fun h => by omega, fun h => by omega⟩
end TT

set_option Elab.async false
set_option linter.all false
set_option maxRecDepth 100000
namespace TT
open PySem PySem.Spec PyProof.Rows L2 LamX
/-! ### sizes of deeds and contents with worths beyond the bounds -/
theorem words5_ok : ∀ z ∈ (["put", "drop", "sweep", "shift", "set"] : List Str), NameOk z := by
  have h : (["put", "drop", "sweep", "shift", "set"] : List Str).all (fun z => decide (0 < (cl z).length) && decide ((cl z).length ≤ 8) && (cl z).all fun c => decide (97 ≤ c) && decide (c ≤ 122)) = true := by decide +kernel
  intro z hz
  have h1 := List.all_eq_true.mp h z hz
  simp only [Bool.and_eq_true, decide_eq_true_eq, List.all_eq_true] at h1
  exact ⟨h1.1.1, h1.1.2, h1.2⟩
def DeedN (B : Int) : Deed → Prop
  | .put _ r => ∀ o ∈ r, WB B o
  | .drop _ k => WB B (some k)
  | .sweep _ _ o => WB B o
  | .shift _ _ b => -1000000000 ≤ b ∧ b ≤ 1000000000
  | .set _ k _ o => WB B (some k) ∧ WB B o
theorem deedB_N {B : Int} {dd : Deed} (h : DeedB B dd) : DeedN B dd := by
  cases dd with
  | shift t c b => exact ⟨by have := h.1; omega, by have := h.2; omega⟩
  | _ => exact h
theorem deedF_D (dd : Deed) : deedF true dd = deedD dd := by cases dd <;> rfl
abbrev BN : Nat := 1000000000000
theorem sz_wb {B : Int} {o : Option Int} (h : WB B o) (hB : B ≤ 1000000000000) : Sz BN 900 25 0 (wD o) := by
  cases o with
  | none => exact ⟨trivial, by show 4 ≤ 25; decide, Nat.le_refl 0⟩
  | some i =>
    refine ⟨?_, Nat.le_refl _, Nat.le_refl 0⟩
    have h' : -B ≤ i ∧ i ≤ B := h
    show i.natAbs ≤ 1000000000000
    omega
theorem sz_rowB {B : Int} {r : Rw} (h : ∀ o ∈ r, WB B o) (hB : B ≤ 1000000000000) (l : r.length ≤ 5) : Sz BN 900 146 1 (rowD r) := sz_seq (b := true) 5 (fun d hd => by
  obtain ⟨o, ho, rfl⟩ := List.mem_map.mp hd
  exact sz_wb (h o ho) hB) (by rw [List.length_map]; exact l) (by decide)
theorem mem3 {α : Type} {P : α → Prop} {a b c : α} (ha : P a) (hb : P b) (hc : P c) : ∀ x ∈ [a, b, c], P x := fun x hx => by
  simp only [List.mem_cons, List.not_mem_nil, or_false] at hx
  rcases hx with rfl | rfl | rfl <;> assumption
theorem mem5 {α : Type} {P : α → Prop} {a b c d e : α} (ha : P a) (hb : P b) (hc : P c) (hd : P d) (he : P e) : ∀ x ∈ [a, b, c, d, e], P x := fun x hx => by
  simp only [List.mem_cons, List.not_mem_nil, or_false] at hx
  rcases hx with rfl | rfl | rfl | rfl | rfl <;> assumption
theorem sz_deed {B : Int} {ts : List Tab} {dd : Deed} (okt : TabsOk 5 ts) (ok : DeedOk ts dd) (hb : DeedN B dd) (hB : B ≤ 1000000000000) : Sz BN 900 751 2 (deedD dd) := by
  have m : ∀ {d : PyData} {W D : Nat}, Sz BN 900 W D d → W ≤ 146 → D ≤ 1 → Sz BN 900 146 1 d := fun h a b => h.mono a b
  have wd : ∀ z ∈ (["put", "drop", "sweep", "shift", "set"] : List Str), Sz BN 900 146 1 (.str z) := fun z hz => (sz_name (words5_ok z hz)).mono (by decide) (by decide)
  have nt : ∀ t, t ∈ tns ts → Sz BN 900 146 1 (.str t) := fun t ht => (sz_name (tns_ok okt t ht)).mono (by decide) (by decide)
  have nc : ∀ t, t ∈ tns ts → ∀ c, c ∈ cns ts t → Sz BN 900 146 1 (.str c) := fun t ht c hc => (sz_name ((cns_ok okt ht).1 c hc)).mono (by decide) (by decide)
  cases dd with
  | put t r =>
    refine sz_seq (b := true) 5 (mem3 (wd _ (by decide +kernel)) (nt t ok.1) (sz_rowB hb hB ?_)) (by show 3 ≤ 5; decide) (by decide)
    rw [ok.2.len]; exact (cns_ok okt ok.1).2.2.1
  | drop t k => exact sz_seq (b := true) 5 (mem3 (wd _ (by decide +kernel)) (nt t ok) (m (sz_wb (o := some k) hb hB) (by decide) (by decide))) (by show 3 ≤ 5; decide) (by decide)
  | sweep t c o => exact sz_seq (b := true) 5 (mem4 (wd _ (by decide +kernel)) (nt t ok.1) (nc t ok.1 c ok.2) (m (sz_wb (o := o) hb hB) (by decide) (by decide))) (by show 4 ≤ 5; decide) (by decide)
  | shift t c b => exact sz_seq (b := true) 5 (mem4 (wd _ (by decide +kernel)) (nt t ok.1) (nc t ok.1 c ok.2) (m (sz_wb (o := some b) (B := 1000000000) hb (by decide)) (by decide) (by decide))) (by show 4 ≤ 5; decide) (by decide)
  | set t k c o => exact sz_seq (b := true) 5 (mem5 (wd _ (by decide +kernel)) (nt t ok.1) (m (sz_wb (o := some k) hb.1 hB) (by decide) (by decide)) (nc t ok.1 c ok.2.1) (m (sz_wb (o := o) hb.2 hB) (by decide) (by decide))) (by show 5 ≤ 5; decide) (by decide)
theorem row_top {L : Nat} {ts : List Tab} {ct : List (List Rw)} {n : Nat} (okt : TabsOk n ts) (okc : ContOk L ts ct) : ∀ rs ∈ ct, ∀ r ∈ rs, r.length ≤ n := fun rs hrs r hr => by
  obtain ⟨i, hi⟩ := List.getElem?_of_mem hrs
  have li := (List.getElem?_eq_some_iff.mp hi).1
  rw [okc.len] at li
  obtain ⟨t, ht⟩ : ∃ x, ts[i]? = some x := ⟨_, List.getElem?_eq_getElem li⟩
  rw [((okc.rows i t rs ht hi).row r hr).len]
  exact (okt.cs t (List.mem_of_getElem? ht)).1.top
theorem sz_cont {B : Int} {L : Nat} {ts : List Tab} {ct : List (List Rw)} (okt : TabsOk 5 ts) (okc : ContOk L ts ct) (hL : L ≤ 60) (l8 : ts.length ≤ 8) (hb : ∀ rs ∈ ct, ∀ r ∈ rs, ∀ o ∈ r, WB B o) (hB : B ≤ 1000000000000) : Sz BN 900 72000 3 (contD ct) := by
  refine (sz_seq (W := 8946) (D := 2) (b := false) 8 (fun d hd => ?_) (by rw [List.length_map, okc.len]; exact l8) (by decide)).mono (by decide) (by decide)
  obtain ⟨rs, hrs, rfl⟩ := List.mem_map.mp hd
  refine (sz_seq (W := 146) (D := 1) (b := false) 60 (fun d hd => ?_) (by rw [List.length_map]; exact Nat.le_trans (okc.few rs hrs) hL) (by decide)).mono (by decide) (by decide)
  obtain ⟨r, hr, rfl⟩ := List.mem_map.mp hd
  exact sz_rowB (hb rs hrs r hr) hB (row_top okt okc rs hrs r hr)
section
variable {P : Program} {w : World} {K : PySem.W.Frag} {mg : Str → Option Value} {base : Heap}
def spNearDeed (K : PySem.W.Frag) : Sp := fun vs H Q _ => ∃ (s c tp cp : Addr) (T L : Nat) (B : Int) (ts : List Tab) (ct : List (List Rw)), vs = [.ref s, .ref tp, .ref cp] ∧ StAt H s c T ∧ T + 101 ≤ 1000000 ∧ L ≤ 60 ∧ 1000000000 ≤ B ∧ B ≤ 100000000000 ∧ Tabs K (msk [s, c] H) tp ts ∧ ContOk L ts ct ∧ (∀ rs ∈ ct, ∀ r ∈ rs, ∀ o ∈ r, WB B o) ∧ Dp K (msk [s, c] H) (.ref cp) (contD ct) ∧
  ∀ (p : Addr) (dd : Deed) (H' : Hp), DeedOk ts dd → DeedN (B + 100) dd → Dp K (msk [s, c] H') (.ref p) (deedD dd) → StAt H' s c (T + 101) → Kept [s, c] H H' → Q (.ref p) H'
abbrev s_law_near_deed : Stmt := topS 52
abbrev N_law_near_deed : List Str := ["state", "tables", "content", "deed", "keys", "table", "row"]
theorem sc_law_near_deed : FnScope N_law_near_deed ["state", "tables", "content"] (defScope s_law_near_deed) := ⟨rfl, rfl, rfl, by decide +kernel, rfl, by decide +kernel, by decide +kernel⟩

set_option maxHeartbeats 8000000 in
theorem ok_near_deed {f : Addr} {fd : FuncData} (F : Fun K "_law_near_deed" "_law_near_deed" s_law_near_deed f fd) (nb : NB mg) (D_law_take : Def P w K mg base 1 "_law_take" ["state", "many"] spTake) (D_law_deed : Def P w K mg base 4 "_law_deed" ["state", "tables", "content"] (spDeed K))
    (D_is_deed : Def P w K mg base 5 "is_deed" ["tables", "thing"] (spTs deedB K)) : FnOk P w K mg base CX0 6 f fd ["state", "tables", "content"] (spNearDeed K) := by
  refine F.ok sc_law_near_deed (fun vs H Q E h => ?_) (fun cdv A outer sh H vs Q E hr h => ?_)
  · obtain ⟨s, c, tp, cp, T, L, B, ts, ct, rfl, _⟩ := h
    rfl
  obtain ⟨s, c, tp, cp, T, L, B, ts, ct, rfl, S, hT, hL, hB, hB2, hTt, okc, kb, dct, q⟩ := h
  have nd := sc_law_near_deed.nd
  refine ⟨_, (pss_cons (ps_set (i := 3) nd rfl (Or.inl rfl) (pe_own D_law_deed hr (pa_cons (pv 0) (pa_cons (pv 1) (pa_cons (pv 2) pa_nil)))))
      (pss_cons (ps_if (PW.pt (pw_and (pt_cmpR op_eq (pe_ix ix_tup (pv 3) pe_int (fun _ _ => rfl)) pe_str (nomark _)) (pw_and1 (pt_cmpR op_eq (pe_own D_law_take hr (pa_cons (pv 0) (pa_cons pe_int pa_nil))) pe_int (nomark _)))))
        (pss_one (ps_set (i := 3) nd rfl (Or.inl rfl) (pe_op (r := rCatT K) op_catT (pe_slice sl_tup (pv 3) po_none (po_some pe_int)) (pe_tup (pa_cons (pe_op op_pow pe_int pe_int) pa_nil)))))
        pss_nil)
      (pss_cons (ps_if (pt_val (pe_own D_is_deed hr (pa_cons (pv 1) (pa_cons (pv 3) pa_nil))))
        (pss_one (ps_ret (pv 3)))
        pss_nil)
      (pss_cons (ps_setLc (i := 4) (own := [("row", 6)]) (g := (gName 6)) (tt := tYes) rfl nd rfl rfl (sw_true rfl rfl rfl (by decide +kernel)) (pi_list (pe_ix ix_list (pv 2) (pe_bm PySem.F.plainAttrs_list PySem.F.slot_list_index PySem.F.type_list_index mt_index (pe_lc (own := [("table", 5)]) (g := (gName 5)) (tt := tYes) rfl nd (pi_tup (pv 1)) (blkOk_by (N := N_law_near_deed) (sc := defScope s_law_near_deed) (by decide +kernel)) (fun _ _ _ _ _ => (pg_name (i := 5) nd rfl (Or.inl rfl))) (fun _ _ _ _ _ => pts_nil) (fun _ _ _ _ _ => (pe_ix (r := rIxT K) ix_tup (pv 5) pe_int (fun _ _ => rfl)))) (pa_cons (pe_ix ix_tup (pv 3) pe_int (fun _ _ => rfl)) pa_nil)) (fun _ _ => rfl))) (blkOk_by (N := N_law_near_deed) (sc := defScope s_law_near_deed) (by decide +kernel)) (fun _ _ _ _ _ => (pg_name (i := 6) nd rfl (Or.inl rfl))) (fun _ _ _ _ _ => pts_nil) (fun _ _ _ _ _ => (pe_ix (r := rIxT K) ix_tup (pv 6) pe_int (fun _ _ => rfl))))
      (pss_one (ps_ret (pe_tup (pa_cons pe_str (pa_cons (pe_ix ix_tup (pv 3) pe_int (fun _ _ => rfl)) (pa_cons (pe_ifExp (pt_cmpR (op_neD hr.units) (pv 4) (pe_lst pa_nil) (nomark _)) (pe_ix ix_list (pv 4) (pe_un un_neg pe_int) (fun _ _ => rfl)) pe_int) pa_nil)))))))))), ?_⟩
  refine ⟨.ref s, rfl, .ref tp, rfl, .ref cp, rfl, s, c, tp, cp, T, L, B, ts, ct, rfl, S, by omega, hL, hB, hTt, okc, kb, dct, fun p0 dd0 H1 ok0 b0 np0 d0 S1 K1 => ?_⟩
  dsimp only [List.set]
  show tSeq (tIfS _ _ _) (tSeq _ _) _ [some (.ref s), some (.ref tp), some (.ref cp), some (.ref p0), none, none, none] H1
  refine splitS (fun v H' => ∃ (p : Addr) (dd : Deed), v = .ref p ∧ DeedOk ts dd ∧ DeedN (B + 100) dd ∧ Dp K (msk [s, c] H') (.ref p) (deedD dd) ∧ StAt H' s c (T + 101) ∧ Kept [s, c] H H') (fun v => [some (.ref s), some (.ref tp), some (.ref cp), some v, none, none, none]) ?_ (fun rest => ?_)
  · intro v H2 hP
    obtain ⟨p, dd, rfl, ok, bn, d, S2, K2⟩ := hP
    have sub := msk_sub [s, c] H2
    have m2 := (msk_same K2).trans sub
    have sz := sz_deed hTt.ok ok bn (by omega)
    have ht : tabOf dd ∈ tns ts := by
      cases dd with
      | put t r => exact ok.1
      | drop t k => exact ok
      | sweep t col o => exact ok.1
      | shift t col b => exact ok.1
      | set t k col o => exact ok.1
    obtain ⟨q0, xs, e, hX⟩ := deed_xs (K := K) (H := H2) (by rw [deedF_D]; exact dp_same sub d)
    cases e
    have hT2 := hTt.same m2
    refine ⟨.ref tp, rfl, .ref p, rfl, tp, ts, .ref p, _, rfl, hT2, dp_same sub d, fit_nice (by decide) sz.nice (Nat.le_trans sz.wt (by decide)), shaped_nice sz.nice (Nat.le_trans sz.dep (by decide)), fun H3 s3 => ⟨_, rfl, ite2 (fun e => ?_) (fun e => ?_)⟩⟩
    · exact ⟨.ref p, rfl, q p dd H3 ok bn (dp_same (msk_same (Kept.of_same s3)) d) (S2.same s3) (K2.trans (Kept.of_same s3))⟩
    · obtain ⟨ws, hTS, hTA, lw⟩ := hT2.parts
      have l8 := hTt.l8
      obtain ⟨cp', cx, e0, hCX, hCA, lcx⟩ := cont_dp (dp_same m2 dct)
      cases e0
      obtain ⟨rs, hA, lrs⟩ := at_in hTt.ok okc hL ht
      obtain ⟨at', hat⟩ : ∃ j, j = (tns ts).idxOf (tabOf dd) := ⟨_, rfl⟩
      have hrs : ct[at']? = some rs := by rw [hat]; exact hA.row
      refine ⟨.ref cp, rfl, .ref tp, rfl, tp, rfl, ⟨ws, sameT s3 hTS⟩, fun D1 n1 => ?_⟩
      refine lc_mapS (walk_tup (xs := ws)) (ys := (tns ts).map V.str) (by rw [List.length_map, List.length_map]; omega) (by omega) n1 (fun H' k => sameT (s3.trans (keptS k n1)) hTS) (fun i x H' C N hx sm hC => ?_) (fun H4 e1 s4 => ?_)
      · obtain ⟨tb, qq, pc, ys, htb, rfl, h1, h2, h3⟩ := tab_at hTA hx
        exact ⟨rfl, iteT ⟨.ref qq, rfl, qq, _, 0, .str tb.1, rfl, rfl, sameT (s3.trans sm) h1, atI_nat (j := 0) rfl, hC _ (by rw [List.getElem?_map, List.getElem?_map, htb]; rfl)⟩⟩
      have s34 := s3.trans s4
      refine ⟨.inl ⟨rfl, _, .inl (.inl e1)⟩, .ref p, rfl, p, xs, 1, .str (tabOf dd), rfl, rfl, sameT s34 hX.sq, atI_nat (j := 1) hX.t, ?_⟩
      unfold tNil
      dsimp only
      refine ix_strs e1 ht ?_
      rw [← hat]
      obtain ⟨x, hx, hd⟩ := dpAll_at (i := at') (d := rowsD rs) hCA (by rw [List.getElem?_map, hrs]; rfl)
      obtain ⟨rp, yr, rfl, hRP, hRA, lyr⟩ := rows_dp hd
      refine ⟨cp, cx, at', .ref rp, rfl, rfl, stillL s34 hCX, atI_nat hx, rp, rfl, ⟨yr, stillL s34 hRP⟩, fun DK nK => ?_⟩
      refine lc_mapS (walk_list (xs := yr)) (ys := (rs.map keyW).map V.int) (by rw [List.length_map, List.length_map, lyr]) (by omega) nK (fun H' kk => stillL (s34.trans (keptS kk nK)) hRP) (fun i3 x3 H' C N hx3 sm hC3 => ?_) (fun H5 eK s5 => ?_)
      · obtain ⟨r3, p3, hr3, rfl, hp3⟩ := row_at' hRA hx3
        exact ⟨rfl, iteT ⟨.ref p3, rfl, p3, _, 0, .int (keyW r3), rfl, rfl, sameT (s34.trans sm) hp3, atI_nat (j := 0) (row_key (hA.ok.row r3 (List.mem_of_getElem? hr3))), hC3 _ (by rw [List.getElem?_map, List.getElem?_map, hr3]; rfl)⟩⟩
      have s35 := s34.trans s5
      refine ⟨.ref p, rfl, p, xs, 1, .str (tabOf dd), rfl, rfl, sameT s35 hX.sq, atI_nat (j := 1) hX.t, ?_⟩
      refine ⟨.ref DK, rfl, Nat.zero_le _, fun p1 n1 => ?_⟩
      have s6 := same_upd (o := .lst []) n1
      refine ⟨.list ((rs.map keyW).map PyData.int), .list [], .lst (.inl (.inl (s6 _ _ eK))) (dp_ints _), .lst (.inl (.inl upd_same)) .nil, shaped_ints _, rfl, _, rfl, ?_⟩
      rw [eqv_nil]
      have eK6 := s6 _ _ eK
      have s36 := s35.trans s6
      generalize upd H5 p1 (.lst []) = H6 at s36 eK6 ⊢
      have fin : ∀ k : Int, WB (B + 100) (some k) → ∀ p2, H6 p2 = none → Q (.ref p2) (upd H6 p2 (.tup [.str "drop", .str (tabOf dd), .int k])) := fun k hk p2 np2 => by
        have s37 := s36.trans (same_upd (o := .tup [.str "drop", .str (tabOf dd), .int k]) np2)
        refine q p2 (.drop (tabOf dd) k) _ ht hk ?_ (S2.same s37) (K2.trans (Kept.of_same s37))
        have op : p2 ∉ [s, c] := out2 (S2.same s36) np2
        exact .tup (.inl (.inl (msk_at upd_same op))) (.cons (.str _) (.cons (.str _) (.cons (.int _) .nil)))
      refine ite2 (fun hE => ?_) (fun hE => ?_)
      · rcases List.eq_nil_or_concat rs with rfl | ⟨l', r, el⟩
        · cases hE
        rw [List.concat_eq_append] at el
        subst el
        refine ⟨.ref DK, rfl, 1, rfl, DK, _, -1, .int (keyW r), rfl, rfl, .inl (.inl eK6), ?_, (by show 3 ≤ sizeLine; decide), fin (keyW r) ?_⟩
        · rw [List.map_append, List.map_append]
          exact atI_last _ _
        · have hr := hA.ok.row r (List.mem_append_right _ (List.mem_singleton.mpr rfl))
          obtain ⟨k, t, rfl⟩ := hr.key
          exact (kb _ (List.mem_of_getElem? hA.row) _ (List.mem_append_right _ (List.mem_singleton.mpr rfl)) (some k) (List.mem_cons_self ..)).mono (by omega)
      · exact ⟨(by show 3 ≤ sizeLine; decide), fin 0 ⟨by omega, by omega⟩⟩
  · obtain ⟨q0, xs, e, hX⟩ := deed_xs (K := K) (H := msk [s, c] H1) (by rw [deedF_D]; exact d0)
    cases e
    have sub := msk_sub [s, c] H1
    have keep : ∀ H' : Hp, StAt H' s c (T + 101) → Kept [s, c] H1 H' → _ := fun H' S' K' => rest (.ref p0) H' ⟨p0, dd0, rfl, ok0, deedB_N b0, dp_same (msk_same K') d0, S', K1.trans K'⟩
    have skip : (∀ t col b, dd0 ≠ .shift t col b) → wordOf dd0 ≠ "shift" := fun h => by
      cases dd0 with
      | shift t col b => exact absurd rfl (h t col b)
      | put t r => show ("put" : Str) ≠ "shift"; decide
      | drop t k => show ("drop" : Str) ≠ "shift"; decide
      | sweep t col o => show ("sweep" : Str) ≠ "shift"; decide
      | set t k col o => show ("set" : Str) ≠ "shift"; decide
    refine ⟨.ref p0, rfl, p0, xs, 0, .str (wordOf dd0), rfl, rfl, sameT sub hX.sq, atI_nat (j := 0) hX.w, rfl, _, rfl, ?_⟩
    by_cases z : ∃ t col b, dd0 = .shift t col b
    · obtain ⟨t, col, b, rfl⟩ := z
      refine wd_eq ?_
      refine ⟨.ref s, rfl, s, c, _, _, rfl, S1, by omega, by decide, by decide, fun d H2 d0' d1 S2 K2 => ?_⟩
      refine ⟨rfl, _, rfl, ite2 (fun e => ?_) (fun e => ?_)⟩
      · have ex := hX.shift t col b rfl
        subst ex
        have sub2 := msk_sub [s, c] H2
        have m12 := (msk_same K2).trans sub2
        have hX2 := sameT m12 hX.sq
        refine ⟨.ref p0, rfl, 3, rfl, p0, _, rfl, hX2, (fun z => absurd (show HT.sIx 4 4 (some 3) = 4 from z.2) (by decide)), fun p2 n2 => ?_⟩
        refine ⟨10, 9, rfl, rfl, ⟨by decide, by decide, by decide⟩, (by show 1 ≤ sizeLine; decide), fun p3 n3 => ?_⟩
        have n23 : p2 ≠ p3 := ne_of_none upd_same n3
        refine ⟨p2, p3, [.str "shift", .str t, .str col], [.int 1000000000], rfl, rfl, .inl (.inl (by rw [upd_ne n23]; exact upd_same)), .inl (.inl upd_same), (fun z => by cases z), (by show 4 ≤ sizeLine; decide), (fun z => by cases z), fun _ p4 n4 => ?_⟩
        have s2 := (same_upd (o := .tup (cutV [.str "shift", .str t, .str col, .int b] none (some 3))) n2).trans (same_upd (o := .tup [.int (10 ^ (9 : Int).toNat)]) n3)
        have s24 := s2.trans (same_upd (o := .tup ([.str "shift", .str t, .str col] ++ [.int 1000000000])) n4)
        refine rest (.ref p4) _ ⟨p4, .shift t col 1000000000, rfl, ok0, ⟨by decide, by decide⟩, ?_, (S2.mono (by omega)).same s24, K1.trans (K2.trans (Kept.of_same s24))⟩
        have op : p4 ∉ [s, c] := out2 (S2.same s2) n4
        exact .tup (.inl (.inl (msk_at upd_same op))) (.cons (.str _) (.cons (.str _) (.cons (.str _) (.cons (.int _) .nil))))
      · exact keep H2 (S2.mono (by omega)) K2
    · refine wd_ne (skip fun t col b e => z ⟨t, col, b, e⟩) (iteF ?_)
      exact keep H1 (S1.mono (by omega)) (Kept.refl _ _)
end
end TT

set_option Elab.async false
set_option linter.all false
set_option maxRecDepth 100000
namespace TT
open PySem PySem.Spec PyProof.Rows L2 LamX
/-! ### a content behind a deed -/
section
variable {ts : List Tab} {ct : List (List Rw)} {dd : Deed} {rs : List Rw} {L : Nat} {B : Int}
theorem step_ok (hA : At ts ct (tabOf dd) rs) (okd : DeedOk ts dd) {r r' : Rw} (hr : r ∈ rs) (h : stepR (cns ts (tabOf dd)) dd r = some r') : RwOk (cns ts (tabOf dd)).length r' := by
  have okr := hA.ok.row r hr
  cases dd with
  | put t row => cases h; exact okr
  | drop t k =>
    have h : (if keyW r = k then none else some r) = some r' := h
    by_cases z : keyW r = k
    · rw [if_pos z] at h; cases h
    · rw [if_neg z] at h; cases h; exact okr
  | sweep t c o =>
    have h : (if cellAt (cns ts t) c r = o then none else some r) = some r' := h
    by_cases z : cellAt (cns ts t) c r = o
    · rw [if_pos z] at h; cases h
    · rw [if_neg z] at h; cases h; exact okr
  | shift t c b =>
    have h : some (match cellAt (cns ts t) c r with | some x => r.set ((cns ts t).idxOf c) (some (x + b)) | none => r) = some r' := h
    cases e : cellAt (cns ts t) c r with
    | none => rw [e] at h; cases h; exact okr
    | some x =>
      rw [e] at h; cases h
      obtain ⟨k, tl, rfl⟩ := okr.key
      refine ⟨by rw [List.length_set]; exact okr.len, ?_⟩
      cases (cns ts t).idxOf c with
      | zero => exact ⟨_, _, rfl⟩
      | succ n => exact ⟨_, _, rfl⟩
  | set t k c o =>
    obtain ⟨ht, hc, hk⟩ := okd
    have h : some (if keyW r = k then r.set ((cns ts t).idxOf c) o else r) = some r' := h
    by_cases z : keyW r = k
    · rw [if_pos z] at h; cases h
      obtain ⟨k0, tl, rfl⟩ := okr.key
      refine ⟨by rw [List.length_set]; exact okr.len, ?_⟩
      cases e : (cns ts t).idxOf c with
      | zero =>
        have hh : (cns ts t).head? = some c := by
          have l0 : 0 < (cns ts t).length := by
            have := List.idxOf_lt_length_of_mem hc
            omega
          have e2 : (cns ts t)[0]? = some c := by
            have h3 : (cns ts t)[(cns ts t).idxOf c]? = some c := by rw [List.getElem?_eq_getElem (List.idxOf_lt_length_of_mem hc), List.getElem_idxOf]
            rw [e] at h3
            exact h3
          rw [← List.head?_eq_getElem?] at e2
          exact e2
        cases ho : o with
        | none => exact absurd ho (hk hh)
        | some x => exact ⟨_, _, rfl⟩
      | succ n => exact ⟨_, _, rfl⟩
    · rw [if_neg z] at h; cases h; exact okr
theorem made_ok (hA : At ts ct (tabOf dd) rs) (okd : DeedOk ts dd) : ∀ r ∈ madeR (cns ts (tabOf dd)) rs dd, RwOk (cns ts (tabOf dd)).length r := fun r hr => by
  rcases List.mem_append.mp hr with h | h
  · obtain ⟨r0, h1, h2⟩ := List.mem_filterMap.mp h
    exact step_ok hA okd h1 h2
  · obtain ⟨x, hx, rfl⟩ := List.mem_map.mp h
    cases dd with
    | put t row =>
      rw [List.mem_singleton.mp hx]
      exact okd.2
    | _ => cases hx
theorem mem_setR {α : Type} {l : List α} {i : Nat} {x y : α} (h : y ∈ l.set i x) : y ∈ l ∨ y = x := List.mem_or_eq_of_mem_set h
theorem made_wb (hb : ∀ r ∈ rs, ∀ o ∈ r, WB B o) (hB : 1000000000 ≤ B) (bn : DeedN (B + 100) dd) {zs : List Str} : ∀ r ∈ madeR zs rs dd, ∀ o ∈ r, WB (B + 1000000100) o := fun r hr o ho => by
  have old : ∀ r0 ∈ rs, ∀ o ∈ r0, WB (B + 1000000100) o := fun r0 h o ho => (hb r0 h o ho).mono (by omega)
  rcases List.mem_append.mp hr with h | h
  · obtain ⟨r0, h1, h2⟩ := List.mem_filterMap.mp h
    cases dd with
    | put t row => cases h2; exact old _ h1 o ho
    | drop t k =>
      have h2 : (if keyW r0 = k then none else some r0) = some r := h2
      by_cases z : keyW r0 = k
      · rw [if_pos z] at h2; cases h2
      · rw [if_neg z] at h2; cases h2; exact old _ h1 o ho
    | sweep t c o' =>
      have h2 : (if cellAt zs c r0 = o' then none else some r0) = some r := h2
      by_cases z : cellAt zs c r0 = o'
      · rw [if_pos z] at h2; cases h2
      · rw [if_neg z] at h2; cases h2; exact old _ h1 o ho
    | shift t c b =>
      have h2 : some (match cellAt zs c r0 with | some x => r0.set (zs.idxOf c) (some (x + b)) | none => r0) = some r := h2
      cases e : cellAt zs c r0 with
      | none => rw [e] at h2; cases h2; exact old _ h1 o ho
      | some x =>
        rw [e] at h2; cases h2
        rcases mem_setR ho with h3 | rfl
        · exact old r0 h1 o h3
        · have hx : some x ∈ r0 := by
            have e2 : r0.getD (zs.idxOf c) none = some x := e
            rw [List.getD_eq_getElem?_getD] at e2
            cases e3 : r0[zs.idxOf c]? with
            | none => rw [e3] at e2; cases e2
            | some y =>
              rw [e3] at e2
              have e2 : y = some x := e2
              rw [← e2]; exact List.mem_of_getElem? e3
          have h4 : -B ≤ x ∧ x ≤ B := hb r0 h1 (some x) hx
          have h5 : -1000000000 ≤ b ∧ b ≤ 1000000000 := bn
          exact ⟨by omega, by omega⟩
    | set t k c o' =>
      have h2 : some (if keyW r0 = k then r0.set (zs.idxOf c) o' else r0) = some r := h2
      by_cases z : keyW r0 = k
      · rw [if_pos z] at h2; cases h2
        rcases mem_setR ho with h3 | rfl
        · exact old r0 h1 o h3
        · exact bn.2.mono (by omega)
      · rw [if_neg z] at h2; cases h2; exact old _ h1 o ho
  · obtain ⟨x, hx, rfl⟩ := List.mem_map.mp h
    cases dd with
    | put t row =>
      rw [List.mem_singleton.mp hx] at ho
      exact (bn o ho).mono (by omega)
    | _ => cases hx
theorem made_len {zs : List Str} : (madeR zs rs dd).length ≤ rs.length + 1 := by
  unfold madeR
  rw [List.length_append, List.length_map]
  have h1 := List.length_filterMap_le (stepR zs dd) rs
  have h2 := put_len (dd := dd)
  omega
theorem fresh_key' (hA : At ts ct (tabOf dd) rs) (okd : DeedOk ts dd) : ∀ r ∈ freshD ts ct rs dd (tabOf dd), ∃ k t0, r = some k :: t0 := fun r hr =>
  (made_ok hA okd r ((made_fresh hA okd).mem_iff.mpr hr)).key
theorem next_ok (okc : ContOk L ts ct) (okt : TabsOk 5 ts) (hA : At ts ct (tabOf dd) rs) (okd : DeedOk ts dd) (no : twiceD ts ct rs dd = none) : ContOk (L + 1) ts (nextR ts ct rs dd) := by
  have few := okc.few rs (List.mem_of_getElem? hA.row)
  have per := (rise_perm (freshD ts ct rs dd (tabOf dd))).trans (made_fresh hA okd).symm
  refine ⟨by unfold nextR; rw [List.length_set]; exact okc.len, fun i t rs2 h1 h2 => ?_, fun rs2 h => ?_⟩
  · unfold nextR at h2
    rw [List.getElem?_set] at h2
    by_cases z : (tns ts).idxOf (tabOf dd) = i
    · rw [if_pos z] at h2
      have li := (List.getElem?_eq_some_iff.mp h1).1
      rw [if_pos (by rw [okc.len, z]; exact li)] at h2
      cases h2
      have e1 : t.1 = tabOf dd := by
        have h5 : (tns ts)[(tns ts).idxOf (tabOf dd)]? = some (tabOf dd) := by
          rw [List.getElem?_eq_getElem (List.idxOf_lt_length_of_mem hA.mem), List.getElem_idxOf]
        rw [z, List.getElem?_map, h1] at h5
        exact Option.some.inj h5
      have e2 : (cns ts (tabOf dd)).length = t.2.length := by
        show ((colsOf ts (tabOf dd)).map _).length = _
        rw [← e1, colsOf_mem okt.nd (List.mem_of_getElem? h1), List.length_map]
      refine ⟨fun r hr => ?_, up_strict (rise_up _) no⟩
      rw [← e2]
      exact made_ok hA okd r (per.mem_iff.mp hr)
    · rw [if_neg z] at h2
      exact okc.rows i t rs2 h1 h2
  · rcases mem_setR h with h3 | rfl
    · have := okc.few rs2 h3; omega
    · rw [per.length_eq]
      have := made_len (rs := rs) (dd := dd) (zs := cns ts (tabOf dd))
      omega
theorem next_wb (hA : At ts ct (tabOf dd) rs) (okd : DeedOk ts dd) (hb : ∀ rs ∈ ct, ∀ r ∈ rs, ∀ o ∈ r, WB B o) (hB : 1000000000 ≤ B) (bn : DeedN (B + 100) dd) : ∀ rs2 ∈ nextR ts ct rs dd, ∀ r ∈ rs2, ∀ o ∈ r, WB (B + 1000000100) o := fun rs2 h r hr o ho => by
  rcases mem_setR h with h3 | rfl
  · exact (hb rs2 h3 r hr o ho).mono (by omega)
  · exact made_wb (hb rs (List.mem_of_getElem? hA.row)) hB bn r (((rise_perm _).trans (made_fresh hA okd).symm).mem_iff.mp hr) o ho
theorem keys_nodup {n : Nat} (h : RwsOk n rs) : (rs.map keyW).Nodup := h.up.imp fun h => by omega
theorem shift_once {t c : Str} {b : Int} (e : dd = .shift t c b) (hA : At ts ct (tabOf dd) rs) (okd : DeedOk ts dd) : twiceD ts ct rs dd = none := by
  cases q : twiceD ts ct rs dd with
  | none => rfl
  | some k =>
    refine absurd ?_ (twice_nodup q)
    have per := (rise_perm (freshD ts ct rs dd (tabOf dd))).trans (made_fresh hA okd).symm
    refine (per.map keyW).nodup_iff.mpr ?_
    subst e
    have eM : (madeR (cns ts t) rs (.shift t c b)).map keyW = (rs.map keyW).map fun k => if (cns ts t).idxOf c = 0 then k + b else k := by
      unfold madeR
      rw [show (putR (.shift t c b)).map (·.2) = [] from rfl, List.append_nil, List.map_map]
      have key : ∀ l : List Rw, (∀ r ∈ l, ∃ k t0, r = some k :: t0) → (l.filterMap (stepR (cns ts t) (.shift t c b))).map keyW = l.map ((fun k => if (cns ts t).idxOf c = 0 then k + b else k) ∘ keyW) := fun l hl => by
        induction l with
        | nil => rfl
        | cons r l ih =>
          obtain ⟨k, t0, rfl⟩ := hl r (List.mem_cons_self ..)
          rw [List.filterMap_cons]
          show (keyW (match cellAt (cns ts t) c (some k :: t0) with | some x => (some k :: t0).set ((cns ts t).idxOf c) (some (x + b)) | none => some k :: t0) :: _) = _
          rw [List.map_cons, ih fun x hx => hl x (List.mem_cons_of_mem _ hx)]
          congr 1
          show _ = if (cns ts t).idxOf c = 0 then k + b else k
          unfold cellAt
          cases (cns ts t).idxOf c with
          | zero => rfl
          | succ n =>
            rw [if_neg (Nat.succ_ne_zero n)]
            cases (some k :: t0).getD (n + 1) none <;> rfl
      exact key rs fun r hr => (hA.ok.row r hr).key
    show ((madeR (cns ts t) rs (.shift t c b)).map keyW).Nodup
    rw [eM]
    have nd := keys_nodup hA.ok
    refine List.pairwise_map.mpr (nd.imp fun {x y} h w => h ?_)
    by_cases z : (cns ts t).idxOf c = 0
    · rw [if_pos z, if_pos z] at w; omega
    · rw [if_neg z, if_neg z] at w; exact w
end
end TT

set_option Elab.async false
set_option linter.all false
set_option maxRecDepth 100000
namespace TT
open PySem PySem.Spec PyProof.Rows L2 LamX
theorem eqvAll_ws : ∀ r : Rw, PyData.eqvAll (r.map wD) (r.map wD) = true
  | [] => rfl
  | o :: r => by rw [List.map_cons, PyData.eqvAll, eqv_w, decide_eq_true rfl, eqvAll_ws r]; rfl
theorem eqv_rowD (r : Rw) : PyData.eqv (rowD r) (rowD r) = true := by
  show PyData.eqv (.tuple _) (.tuple _) = true
  rw [PyData.eqv]
  exact eqvAll_ws r
theorem mem_cutV {xs : List V} {lo hi : Option Int} {x : V} (h : x ∈ cutV xs lo hi) : x ∈ xs := by
  unfold cutV at h
  exact List.mem_of_mem_drop (List.mem_of_mem_take h)
theorem split4 {A B C E R : TS} {D : Ends} {σ0 : L2.St} {H0 : Hp} (Pp : L2.St → Hp → Prop) (rest : ∀ σ H, Pp σ H → R D σ H) (main : (∀ σ H, Pp σ H → R D σ H) → tSeq A (tSeq B (tSeq C (tSeq E R))) D σ0 H0) : tSeq A (tSeq B (tSeq C (tSeq E R))) D σ0 H0 := main rest
theorem ContOk.mono {L L' : Nat} {ts : List Tab} {ct : List (List Rw)} (h : ContOk L ts ct) (l : L ≤ L') : ContOk L' ts ct := ⟨h.len, h.rows, fun rs hr => Nat.le_trans (h.few rs hr) l⟩
/-- a content sits on nothing that the draws keep -/
theorem go_st {H : Hp} {s c p : Addr} {T : Nat} {o : HO} (S : StAt H s c T) (h : H p = some o) (n1 : ∀ kvs, o ≠ .dK kvs) (n2 : ∀ ns : List Int, 0 < ns.length → o ≠ .lst (ns.map V.int)) : msk [s, c] H p = some o := by
  refine msk_at h fun z => ?_
  simp only [List.mem_cons, List.not_mem_nil, or_false] at z
  rcases z with rfl | rfl
  · obtain ⟨t, _, e⟩ := S.ex
    rw [h] at e
    exact n1 _ (Option.some.inj e)
  · obtain ⟨ns, l, _, e⟩ := S.cs
    rw [h] at e
    exact n2 ns l (Option.some.inj e)
theorem sql_st {K : PySem.W.Frag} {H : Hp} {s c p : Addr} {T : Nat} {xs : List V} (S : StAt H s c T) (h : SqL K H p xs) (hx : ∀ ns : List Int, 0 < ns.length → xs ≠ ns.map V.int) : SqL K (msk [s, c] H) p xs := by
  rcases h with (h | ⟨o, h⟩) | h
  · exact .inl (.inl (go_st S h (fun _ z => by cases z) fun ns l z => hx ns l (by cases z; rfl)))
  · exact .inl (.inr ⟨o, go_st S h (fun _ z => by cases z) fun ns l z => by cases z⟩)
  · exact .inr h
theorem sqt_st {K : PySem.W.Frag} {H : Hp} {s c p : Addr} {T : Nat} {xs : List V} (S : StAt H s c T) (h : SqT K H p xs) : SqT K (msk [s, c] H) p xs := by
  rcases h with (h | ⟨o, h⟩) | h
  · exact .inl (.inl (go_st S h (fun _ z => by cases z) fun ns l z => by cases z))
  · exact .inl (.inr ⟨o, go_st S h (fun _ z => by cases z) fun ns l z => by cases z⟩)
  · exact .inr h
theorem not_ints {K : PySem.W.Frag} {H : Hp} {xs : List V} {ds : List PyData} (h : DpAll K H xs ds) (hd : ∀ d ∈ ds, ∀ n, d ≠ .int n) (ns : List Int) (l : 0 < ns.length) : xs ≠ ns.map V.int := fun e => by
  cases ns with
  | nil => cases l
  | cons n t =>
    rw [e] at h
    cases h with
    | cons h1 h2 =>
      cases h1 with
      | int _ => exact hd _ (List.mem_cons_self ..) n rfl
theorem dp_all_map {K : PySem.W.Frag} {H H' : Hp} : ∀ {xs : List V} {ds : List PyData}, (∀ x d, d ∈ ds → Dp K H x d → Dp K H' x d) → DpAll K H xs ds → DpAll K H' xs ds
  | _, _, _, .nil => .nil
  | _, _, h, .cons a t => .cons (h _ _ (List.mem_cons_self ..) a) (dp_all_map (fun x d hd => h x d (List.mem_cons_of_mem _ hd)) t)
theorem cont_st {K : PySem.W.Frag} {H : Hp} {s c : Addr} {T : Nat} (S : StAt H s c T) {v : V} {ct : List (List Rw)} (h : Dp K H v (contD ct)) : Dp K (msk [s, c] H) v (contD ct) := by
  cases h with
  | lst h1 h2 =>
    refine .lst (sql_st S h1 (not_ints h2 fun d hd n e => ?_)) (dp_all_map (fun x d hd h => ?_) h2)
    · obtain ⟨rs, _, rfl⟩ := List.mem_map.mp hd
      cases e
    · obtain ⟨rs, _, rfl⟩ := List.mem_map.mp hd
      cases h with
      | lst h3 h4 =>
        refine .lst (sql_st S h3 (not_ints h4 fun d hd n e => ?_)) (dp_all_map (fun x d hd h => ?_) h4)
        · obtain ⟨r, _, rfl⟩ := List.mem_map.mp hd
          cases e
        · obtain ⟨r, _, rfl⟩ := List.mem_map.mp hd
          obtain ⟨q, rfl, hq⟩ := row_dp h
          exact .tup (sqt_st S hq) (dps_row _)
section
variable {P : Program} {w : World} {K : PySem.W.Frag} {mg : Str → Option Value} {base : Heap}
def spCopied (K : PySem.W.Frag) : Sp := fun vs H Q _ => ∃ (cp : Addr) (ct : List (List Rw)), vs = [.ref cp] ∧ Dp K H (.ref cp) (contD ct) ∧ ct.length ≤ 900 ∧ ∀ (D : Addr) (H' : Hp), Same H H' → Dp K H' (.ref D) (contD ct) → Q (.ref D) H'
abbrev s_law_copied : Stmt := topS 49
abbrev N_law_copied : List Str := ["content", "rows"]
theorem sc_law_copied : FnScope N_law_copied ["content"] (defScope s_law_copied) := ⟨rfl, rfl, rfl, by decide +kernel, rfl, by decide +kernel, by decide +kernel⟩

theorem ok_copied {f : Addr} {fd : FuncData} (F : Fun K "_law_copied" "_law_copied" s_law_copied f fd) (nb : NB mg) : FnOk P w K mg base CX0 1 f fd ["content"] (spCopied K) := by
  refine F.ok sc_law_copied (fun vs H Q E h => ?_) (fun cdv A outer sh H vs Q E hr h => ?_)
  · obtain ⟨cp, ct, rfl, _⟩ := h
    rfl
  obtain ⟨cp, ct, rfl, hc, few, q⟩ := h
  have nd := sc_law_copied.nd
  refine ⟨_, (pss_one (ps_ret (pe_lc (own := [("rows", 1)]) (g := (gName 1)) (tt := tYes) rfl nd (pi_list (pv 0)) (blkOk_by (N := N_law_copied) (sc := defScope s_law_copied) (by decide +kernel)) (fun _ _ _ _ _ => (pg_name (i := 1) nd rfl (Or.inl rfl))) (fun _ _ _ _ _ => pts_nil) (fun _ _ _ _ _ => (pe_callTy (T := "list") (r := rLstQ K) call_list_of (by rfl) nb.b_list (by decide +kernel) (pa_cons (pv 1) pa_nil)))))), ?_⟩
  obtain ⟨p, xs, e, hS, hA, lx⟩ := cont_dp hc
  cases e
  refine ⟨.ref cp, rfl, cp, rfl, ⟨xs, hS⟩, fun D nD => ?_⟩
  refine lc_it (walk_list (xs := xs)) (fun i H' => ∃ us, Grow K [] H' D us ((ct.take i).map rowsD) ∧ Kept [D] H H') ⟨[], .start, Kept.upd_new nD⟩ (fun i H' _ hP => let ⟨_, _, kk⟩ := hP; (keptS kk nD).seq hS) (fun i x H' H'' hi hP hY => ?_) (fun H2 hP => ?_)
  · obtain ⟨rfl, hx⟩ := hY
    obtain ⟨us, gr, kk⟩ := hP
    obtain ⟨rs, h1, h2⟩ := cont_at hA hx
    obtain ⟨rp, ys, rfl, h3, h4, _⟩ := rows_dp h2
    have et : (ct.take (i + 1)).map rowsD = (ct.take i).map rowsD ++ [rowsD rs] := by
      rw [List.take_add_one, h1, List.map_append]; rfl
    have lu : us.length = i := by rw [gr.len, List.length_map, List.length_take]; have := (List.getElem?_eq_some_iff.mp h1).1; omega
    refine ⟨rfl, ?_⟩
    unfold tYes
    dsimp only
    refine iteT ?_
    refine ⟨.ref rp, rfl, rp, ys, rfl, .inl ((keptS kk nD).seq h3), fun l nl => ?_⟩
    have nDl : D ≠ l := ne_of_none gr.at' nl
    have g2 := gr.kept (Kept.upd_new (o := .lst ys) nl) List.not_mem_nil
    refine ⟨us, g2.at', small1000 (by omega), us ++ [.ref l], ?_, kk.trans ((Kept.upd_new nl).trans (Kept.upd_in (List.mem_cons_self ..)))⟩
    rw [et]
    have sm : Same H (msk [D] (upd H'' l (.lst ys))) := keptM (kk.trans (Kept.upd_new nl)) nD
    exact g2.put (.lst (.inl (.inl (msk_at upd_same (by simp [nDl.symm])))) (dpAll_same sm h4))
  · obtain ⟨us, gr, kk⟩ := hP
    rw [lx, List.take_length] at gr
    exact q D H2 (keptS kk nD) (gr.done List.not_mem_nil |> dp_same (msk_sub _ _))
def spLaw (K : PySem.W.Frag) (Pt : Addr) : Sp := fun vs H Q _ => ∃ (a : Addr) (ns : List Int), vs = [.ref a] ∧ SqL K H a (ns.map V.int) ∧ H Pt = some (.tbl #[]) ∧ ∀ H', Q (.bl true) H'
abbrev s_law : Stmt := topS 54
abbrev N_law : List Str := ["script", "state", "tables", "content", "turn", "deed", "due", "kept", "found", "table", "columns", "rows", "row"]
theorem sc_law : FnScope N_law ["script"] (defScope s_law) := ⟨rfl, rfl, rfl, by decide +kernel, rfl, by decide +kernel, by decide +kernel⟩

set_option maxHeartbeats 4000000 in
theorem ok_law {Pt : Addr} {f : Addr} {fd : FuncData} (F : Fun K "law" "law" s_law f fd) (nb : NB mg) (D_law_begin : Def P w K mg base 1 "_law_begin" ["script"] (spBegin K)) (D_law_take : Def P w K mg base 1 "_law_take" ["state", "many"] spTake) (D_law_tables : Def P w K mg base 3 "_law_tables" ["state", "many", "wide"] (spTables K))
    (D_law_content : Def P w K mg base 4 "_law_content" ["state", "tables", "many"] (spContent K)) (D_law_near_deed : Def P w K mg base 6 "_law_near_deed" ["state", "tables", "content"] (spNearDeed K)) (D_law_behind : Def P w K mg base 1 "_law_behind" ["tables", "content", "deed"] (spBehind K))
    (D_law_copied : Def P w K mg base 1 "_law_copied" ["content"] (spCopied K)) (D_law_done : Def P w K mg base 7 "_law_done" ["tables", "content", "deed"] (spDone K Pt)) (D_law_fine : Def P w K mg base 1 "_law_fine" ["content"] (spFine K)) (D_is_content : Def P w K mg base 6 "is_content" ["tables", "thing"] (spT contB K)) (D_row_of : Def P w K mg base 3 "row_of" ["tables", "content", "table", "key"] (spRowOf K)) :
    FnG P w K mg base CX0 8 f fd ["script"] (spLaw K Pt) := by
  refine okG F sc_law (fun vs H Q E h => ?_) (fun cdv A outer sh H vs Q E hr hg h => ?_)
  · obtain ⟨a, ns, rfl, _⟩ := h
    rfl
  obtain ⟨a, ns, rfl, hS, eP, q⟩ := h
  have nd := sc_law.nd
  have hu := hu_of hr
  refine ⟨_, (pss_cons (ps_set (i := 1) nd rfl (Or.inl rfl) (pe_own D_law_begin hr (pa_cons (pv 0) pa_nil)))
      (pss_cons (ps_set (i := 2) nd rfl (Or.inl rfl) (pe_own D_law_tables hr (pa_cons (pv 1) (pa_cons (pe_op op_add pe_int (pe_own D_law_take hr (pa_cons (pv 1) (pa_cons pe_int pa_nil)))) (pa_cons pe_int pa_nil)))))
      (pss_cons (ps_set (i := 3) nd rfl (Or.inl rfl) (pe_own D_law_content hr (pa_cons (pv 1) (pa_cons (pv 2) (pa_cons (pe_op op_add pe_int (pe_own D_law_take hr (pa_cons (pv 1) (pa_cons pe_int pa_nil)))) pa_nil)))))
      (pss_cons (ps_for PassesOwn.never rfl (pi_range1 (by rfl) nb.b_range (pa_cons pe_int pa_nil)) (pg_name (i := 4) nd rfl (Or.inl rfl))
        (pss_cons (ps_set (i := 5) nd rfl (Or.inl rfl) (pe_own D_law_near_deed hr (pa_cons (pv 1) (pa_cons (pv 2) (pa_cons (pv 3) pa_nil)))))
        (pss_cons (ps_par (i := 6) (j := 7) (by rfl) nd rfl rfl (by decide) rfl rfl (pa_cons (pe_own D_law_behind hr (pa_cons (pv 2) (pa_cons (pv 3) (pa_cons (pv 5) pa_nil)))) (pa_cons (pe_callB (call_repr_d hg hr) (by rfl) nb.b_repr (by decide +kernel) (pa_cons (pv 3) pa_nil)) pa_nil)) (by rfl))
        (pss_cons (ps_set (i := 8) nd rfl (Or.inl rfl) (pe_own D_law_done hr (pa_cons (pv 2) (pa_cons (pe_own D_law_copied hr (pa_cons (pv 3) pa_nil)) (pa_cons (pv 5) pa_nil)))))
        (pss_cons (ps_if (pt_cmpR op_isN (pv 6) pe_non (nomark _))
          (pss_one (ps_if (PW.pt (pw_or (pt_cmpR op_ne (pv 8) pe_str (nomark _)) (pw_or1 (pt_cmpR op_eq (pe_ix ix_tup (pv 5) pe_int (fun _ _ => rfl)) pe_str (nomark _)))))
            (pss_one (ps_ret pe_bl))
            pss_nil))
          (pss_cons (ps_if (PW.pt (pw_or (pt_cmpR op_ne (pe_callB (call_repr_d hg hr) (by rfl) nb.b_repr (by decide +kernel) (pa_cons (pv 8) pa_nil)) (pe_callB (call_repr_d hg hr) (by rfl) nb.b_repr (by decide +kernel) (pa_cons (pv 6) pa_nil)) (nomark _)) (pw_or1 (pt_cmpR op_ne (pe_callB (call_repr_d hg hr) (by rfl) nb.b_repr (by decide +kernel) (pa_cons (pv 3) pa_nil)) (pv 7) (nomark _)))))
            (pss_one (ps_ret pe_bl))
            pss_nil)
          (pss_one (ps_set (i := 3) nd rfl (Or.inl rfl) (pv 6)))))
        (pss_cons (ps_if (pt_cmpR op_ne (pe_own D_law_fine hr (pa_cons (pv 3) pa_nil)) (pe_own D_is_content hr (pa_cons (pv 2) (pa_cons (pe_own D_law_copied hr (pa_cons (pv 3) pa_nil)) pa_nil))) (nomark _))
          (pss_one (ps_ret pe_bl))
          pss_nil)
        (pss_one (ps_for PassesOwn.never rfl (pi_zipB (by rfl) nb.b_zip (pa_cons (pv 2) (pa_cons (pv 3) pa_nil))) (pg_tup rfl (pgs_cons (pg_tup rfl (pgs_cons (pg_name (i := 9) nd rfl (Or.inl rfl)) (pgs_cons (pg_name (i := 10) nd rfl (Or.inl rfl)) pgs_nil))) (pgs_cons (pg_name (i := 11) nd rfl (Or.inl rfl)) pgs_nil)))
          (pss_one (ps_for PassesOwn.never rfl (pi_list (pe_op op_cat (pe_slice sl_list (pv 11) po_none (po_some pe_int)) (pe_slice sl_list (pv 11) (po_some (pe_un un_neg pe_int)) po_none))) (pg_name (i := 12) nd rfl (Or.inl rfl))
            (pss_one (ps_if (pt_cmpR (op_neD hr.units) (pe_own D_row_of hr (pa_cons (pv 2) (pa_cons (pv 3) (pa_cons (pv 9) (pa_cons (pe_ix ix_tup (pv 12) pe_int (fun _ _ => rfl)) pa_nil))))) (pv 12) (nomark _))
              (pss_one (ps_ret pe_bl))
              pss_nil))))))))))))
      (pss_one (ps_ret pe_bl)))))), ?_⟩
  -- state
  refine ⟨.ref a, rfl, a, ns, rfl, hS, fun s c H1 S1 _ _ s1 => ?_⟩
  have T1 : TabS H1 Pt lamQ := (tab_none eP).ext s1
  -- tables
  refine ⟨.ref s, rfl, .ref s, rfl, s, c, 0, _, rfl, S1, by decide, by decide, by decide, fun d H2 d0 d1 S2 K2 => ⟨_, _, rfl, rfl, ?_⟩⟩
  obtain ⟨m, hm⟩ : ∃ m : Nat, 1 + d = (m : Int) := ⟨(1 + d).toNat, by omega⟩
  have T2 := tab_drawn T1 S1 K2
  refine ⟨s, c, 1, m, 4, congrArg (fun z => [V.ref s, V.int z, V.int 4]) hm, S2, by omega, by omega, by decide, by decide, fun tp ts H3 lts okts ftp dts S3 K3 => ?_⟩
  have TM : Tabs K (msk [s, c] H3) tp ts := ⟨dts, tabs5 okts, by omega, by omega⟩
  have T3 := tab_drawn T2 S2 K3
  -- content
  refine ⟨.ref s, rfl, .ref tp, rfl, .ref s, rfl, s, c, _, _, rfl, S3, by omega, by decide, by decide, fun g H5 g0 g1 S5 K5 => ⟨_, _, rfl, rfl, ?_⟩⟩
  obtain ⟨mm, hmm⟩ : ∃ mm : Nat, 1 + g = (mm : Int) := ⟨(1 + g).toNat, by omega⟩
  have T5 := tab_drawn T3 S3 K5
  refine ⟨s, c, tp, _, mm, ts, congrArg (fun z => [V.ref s, V.ref tp, V.int z]) hmm, S5, by omega, by omega, by omega, TM.same (msk_same K5), fun cp ct H6 okc kb wb fcp dct S6 K6 => ?_⟩
  have TM6 := TM.same (msk_same (K5.trans K6))
  have T6 := tab_drawn T5 S5 K6
  replace S6 : StAt H6 s c 20000 := S6.mono (by omega)
  have okt := TM6.ok
  have l4 : ts.length ≤ 4 := by omega
  have l0 := TM6.l0
  have l8 := TM6.l8
  have m7 : mm ≤ 7 := by omega
  clear kb TM dts K3 K5 K6 K2 T1 T2 T3 T5 S1 S2 S3 S5
  show tSeq _ _ _ [some (.ref a), some (.ref s), some (.ref tp), some (.ref cp), none, none, none, none, none, none, none, none, none] H6
  refine ⟨40, rfl, by decide, by decide, ?_⟩
  refine for_range (lo := 0) (n := (40 : Int).toNat) (fun i σ H' => ∃ (cp : Addr) (ct : List (List Rw)), (∃ y4 y5 y6 y7 y8 y9 y10 y11 y12, σ = [some (.ref a), some (.ref s), some (.ref tp), some (.ref cp), y4, y5, y6, y7, y8, y9, y10, y11, y12]) ∧ Tabs K (msk [s, c] H') tp ts ∧ Dp K (msk [s, c] H') (.ref cp) (contD ct) ∧ ContOk (7 + i) ts ct ∧ (∀ rs ∈ ct, ∀ r ∈ rs, ∀ o ∈ r, WB (1000000000 + (i : Int) * 1000000100) o) ∧ StAt H' s c (20000 + i * 200) ∧ TabS H' Pt lamQ) ⟨cp, ct, ⟨_, _, _, _, _, _, _, _, _, rfl⟩, TM6, dct, okc.mono (by omega), fun rs hrs r hr o ho => (wb rs hrs r hr o ho).mono (by decide), S6.mono (by omega), T6⟩ (fun i σ H7 hi hP => ?_) (fun σ H7 hP => ?_)
  rotate_left
  · exact q _
  clear TM6 dct okc wb S6 T6
  obtain ⟨cp, ct, ⟨y4, y5, y6, y7, y8, y9, y10, y11, y12, rfl⟩, TM, dC, okc, wb, S, T⟩ := hP
  have hi : i < 40 := hi
  refine gN ?_
  dsimp only [List.set]
  refine split4 (fun σ H' => ∃ (cp : Addr) (ct : List (List Rw)), (∃ y4 y5 y6 y7 y8 y9 y10 y11 y12, σ = [some (.ref a), some (.ref s), some (.ref tp), some (.ref cp), y4, y5, y6, y7, y8, y9, y10, y11, y12]) ∧ Tabs K (msk [s, c] H') tp ts ∧ Dp K (msk [s, c] H') (.ref cp) (contD ct) ∧ ContOk (7 + (i + 1)) ts ct ∧ (∀ rs ∈ ct, ∀ r ∈ rs, ∀ o ∈ r, WB (1000000000 + ((i + 1 : Nat) : Int) * 1000000100) o) ∧ StAt H' s c (20000 + (i + 1) * 200) ∧ TabS H' Pt lamQ) (fun σ Ha hP => ?_) (fun rest => ?_)
  · clear TM dC okc wb S T
    obtain ⟨cp, ct, ⟨y4, y5, y6, y7, y8, y9, y10, y11, y12, rfl⟩, TM, dC, okc, wb, S, T⟩ := hP
    have sub := msk_sub [s, c] Ha
    have dC1 := dp_same sub dC
    have TM1 := TM.same sub
    have lct : ct.length ≤ 4 := by rw [okc.len]; exact l4
    have rt := row_top okts okc
    have sz := sz_cont okt okc (by omega) l8 wb (by omega)
    refine ⟨.ref cp, rfl, cp, ct, rfl, dC1, lct, fun rs h => ⟨by have := okc.few rs h; omega, rt rs h⟩, fun Hb sb => ?_⟩
    refine ⟨.ref tp, rfl, .ref cp, rfl, cp, ct, rfl, dp_same sb dC1, by omega, fun DL Hc sc' hDL => ?_⟩
    have sac := sb.trans sc'
    refine ⟨tp, ts, .ref DL, contD ct, rfl, TM1.same sac, hDL, fit_nice (by decide) sz.nice (Nat.le_trans sz.wt (by decide)), fun Hd sd => ⟨rfl, _, rfl, ?_⟩⟩
    rw [cont_fine okc, decide_eq_true rfl]
    refine iteF ?_
    have sad := sac.trans sd
    have TM2 := TM1.same sad
    have dC2 := dp_same sad dC1
    obtain ⟨ws, hTS, hTA, lw⟩ := TM2.parts
    obtain ⟨cp', cx, e1, hCX, hCA, lcx⟩ := cont_dp dC2
    cases e1
    have hlen : min ws.length cx.length = ts.length := by rw [lw, lcx, okc.len]; exact Nat.min_self _
    refine ⟨.ref tp, rfl, .ref cp, rfl, true, false, tp, cp, ws, cx, rfl, hTS, hCX, ?_⟩
    refine for_it (walk_zipB (xs := ws) (ys := cx) (n := ts.length) hlen.symm) (fun j σ H' => (∃ y9 y10 y11 y12, σ = [some (.ref a), some (.ref s), some (.ref tp), some (.ref cp), y4, y5, y6, y7, y8, y9, y10, y11, y12]) ∧ Same Hd H') ⟨⟨_, _, _, _, rfl⟩, Same.refl _⟩ (fun j σ H' _ hP => ⟨sameT hP.2 hTS, stillL hP.2 hCX⟩) (fun j x σ H5 H5' hj hP hY => ?_) (fun σ H5 hP => ?_)
    rotate_left
    · obtain ⟨⟨y9, y10, y11, y12, rfl⟩, s5⟩ := hP
      have sz5 := msk_same (Kept.of_same (M := [s, c]) (sad.trans s5))
      exact ⟨cp, ct, ⟨_, _, _, _, _, _, _, _, _, rfl⟩, TM.same sz5, dp_same sz5 dC, okc, wb, S.same (sad.trans s5), T.ext (sad.trans s5)⟩
    obtain ⟨TT', x1, y1, rfl, nT, e8, hx, hy⟩ := hY
    obtain ⟨⟨y9, y10, y11, y12, rfl⟩, s5⟩ := hP
    obtain ⟨tb, qq, pc, yc, htb, rfl, h1, h2, h3⟩ := tab_at hTA hx
    obtain ⟨rs, hrs, hd⟩ := cont_at hCA hy
    have htm : tb.1 ∈ tns ts := List.mem_map.mpr ⟨tb, List.mem_of_getElem? htb, rfl⟩
    have htn : (tns ts)[j]? = some tb.1 := by rw [List.getElem?_map, htb]; rfl
    have hidx : (tns ts).idxOf tb.1 = j := by
      obtain ⟨lt1, z2⟩ := List.getElem?_eq_some_iff.mp htn
      rw [← z2]; exact okt.nd.idxOf_getElem _ _
    obtain ⟨rs', hA', lrs⟩ := at_in okt okc (by omega) htm
    have hrs2 : ct[(tns ts).idxOf tb.1]? = some rs := by rw [hidx]; exact hrs
    obtain rfl : rs' = rs := Option.some.inj (hA'.row.symm.trans hrs2)
    obtain ⟨rp, yr, rfl, hRP, hRA, lyr⟩ := rows_dp hd
    have s55 : Same Hd H5' := s5.trans (by rw [e8]; exact same_upd nT)
    have eT : H5' TT' = some (.tup [.ref qq, .ref rp]) := by rw [e8]; exact upd_same
    clear e8
    refine ⟨TT', _, rfl, .inl (.inl eT), rfl, .ref qq, _, rfl, qq, _, rfl, sameT s55 h1, rfl, .str tb.1, _, rfl, .ref pc, _, rfl, rfl, .ref rp, _, rfl, rfl, ?_⟩
    -- rows[:2] + rows[-1:]
    refine ⟨.ref rp, rfl, 2, rfl, rp, yr, rfl, stillL s55 hRP, fun p1 n1 => ?_⟩
    have t1 := same_upd (o := .lst (cutV yr none (some 2))) n1
    refine ⟨.ref rp, rfl, 1, rfl, -1, rfl, rp, yr, rfl, stillL (s55.trans t1) hRP, fun p2 n2 => ?_⟩
    have t2 := same_upd (o := .lst (cutV yr (some (-1)) none)) n2
    have n12 : p1 ≠ p2 := ne_of_none upd_same n2
    refine ⟨p1, p2, _, _, rfl, rfl, (by rw [upd_ne n12]; exact upd_same), upd_same, Nat.le_of_lt (small1000 (by have := cutV_length yr none (some 2); have := cutV_length yr (some (-1)) none; omega)), fun p3 n3 => ?_⟩
    have hmem : ∀ z ∈ cutV yr none (some 2) ++ cutV yr (some (-1)) none, z ∈ yr := fun z hz => by
      rcases List.mem_append.mp hz with h | h
      · exact mem_cutV h
      · exact mem_cutV h
    have s56 := s55.trans (t1.trans (t2.trans (same_upd (o := .lst (cutV yr none (some 2) ++ cutV yr (some (-1)) none)) n3)))
    have e3 : (upd (upd (upd H5' p1 (.lst (cutV yr none (some 2)))) p2 (.lst (cutV yr (some (-1)) none))) p3 (.lst (cutV yr none (some 2) ++ cutV yr (some (-1)) none))) p3 = some (.lst (cutV yr none (some 2) ++ cutV yr (some (-1)) none)) := upd_same
    generalize cutV yr none (some 2) ++ cutV yr (some (-1)) none = zs at e3 hmem s56 ⊢
    generalize upd (upd (upd H5' p1 (.lst (cutV yr none (some 2)))) p2 (.lst (cutV yr (some (-1)) none))) p3 (.lst zs) = H6 at e3 s56 ⊢
    refine ⟨p3, rfl, ⟨_, .inl (.inl e3)⟩, ?_⟩
    refine for_list (K := K) (a := p3) (xs := zs) (fun k σ H' => (∃ y12, σ = [some (.ref a), some (.ref s), some (.ref tp), some (.ref cp), y4, y5, y6, y7, y8, some (.str tb.1), some (.ref pc), some (.ref rp), y12]) ∧ Same H6 H') ⟨⟨_, rfl⟩, Same.refl _⟩ (fun k σ H' _ hP => .inl (.inl (hP.2 _ _ e3))) (fun k x σ H7 hx hP => ?_) (fun σ H7 hP => ?_)
    rotate_left
    · obtain ⟨⟨y12, rfl⟩, s7⟩ := hP
      exact ⟨⟨_, _, _, _, rfl⟩, s56.trans s7⟩
    obtain ⟨⟨y12, rfl⟩, s7⟩ := hP
    obtain ⟨k3, hk3⟩ := List.getElem?_of_mem (hmem x (List.mem_of_getElem? hx))
    obtain ⟨r, p3', hr3, rfl, hp3⟩ := row_at' hRA hk3
    have hrm := List.mem_of_getElem? hr3
    have okr := hA'.ok.row r hrm
    have s67 := s56.trans s7
    have hp7 := sameT s67 hp3
    have szr := sz_rowB (wb rs' (List.mem_of_getElem? hrs) r hrm) (by omega) (Nat.le_trans (rt rs' (List.mem_of_getElem? hrs) r hrm) (by decide))
    have shr := shaped_nice szr.nice (Nat.le_trans szr.dep (by decide))
    refine gN ⟨.ref tp, rfl, .ref cp, rfl, .str tb.1, rfl, .ref p3', rfl, p3', _, 0, .int (keyW r), rfl, rfl, hp7, atI_nat (j := 0) (row_key okr), tp, ts, .ref cp, false, false, true, ct, tb.1, keyW r, rs', rfl, TM2.same s67, dp_same s67 dC2, hA', fun row pr H8 hrow hkey s8 hpr => ?_, fun no => absurd (List.mem_map.mpr ⟨r, hrm, rfl⟩) no⟩
    obtain rfl := key_inj hA'.ok.up hrow hrm hkey
    refine ⟨.ref p3', rfl, rowD row, rowD row, .tup hpr (dps_row _), .tup (sameT s8 hp7) (dps_row _), shr, shr, _, rfl, ?_⟩
    rw [eqv_rowD]
    exact iteF ⟨⟨_, rfl⟩, s7.trans s8⟩
  have okt4 := row_top okts okc
  have sub := msk_sub [s, c] H7
  refine ⟨.ref s, rfl, .ref tp, rfl, .ref cp, rfl, s, c, tp, cp, _, 7 + i, 1000000000 + (i : Int) * 1000000100, ts, ct, rfl, S, by omega, by omega, by omega, by omega, TM, okc, wb, dC, fun p dd Ha ok bn dD Sa Ka => ?_⟩
  have Ta := tab_drawn T S Ka
  have ht : tabOf dd ∈ tns ts := by
    cases dd with
    | put t r => exact ok.1
    | drop t k => exact ok
    | sweep t col o => exact ok.1
    | shift t col b => exact ok.1
    | set t k col o => exact ok.1
  obtain ⟨rs, hA, lrs⟩ := at_in okt okc (by omega) ht
  have hfk := fresh_key' hA ok
  have TMa := TM.same (msk_same Ka)
  have dCa := dp_same (msk_same Ka) dC
  have suba := msk_sub [s, c] Ha
  have TM1 := TMa.same suba
  have dC1 := dp_same suba dCa
  have dD1 : Dp K Ha (.ref p) (deedF true dd) := by rw [deedF_D]; exact dp_same suba dD
  have sz := sz_cont okt okc (by omega) l8 wb (by omega)
  have shw := shows_nice sz.nice (by decide) (Nat.le_trans sz.dep (by decide)) (Nat.le_trans sz.wt (by decide))
  have lct : ct.length ≤ 4 := by rw [okc.len]; exact l4
  refine ⟨.ref tp, rfl, .ref cp, rfl, .ref p, rfl, tp, cp, ts, .ref p, ct, dd, rs, 7 + i, rfl, TM1, dC1, okc, by omega, hA, ok, dD1, hfk, fun no Hb sb => ?_, fun yes once pd Hb sb hpd => ?_⟩
  · have dCb := dp_same sb dC1
    refine ⟨.ref cp, rfl, .ref cp, contD ct, rfl, dCb, shw.sh, shw.nd, shw.dp, shw.sz, _, _, rfl, ?_⟩
    refine ⟨.ref tp, rfl, .ref cp, rfl, cp, ct, rfl, dCb, by omega, fun DL Hc sc' hDL => ⟨.ref p, rfl, ?_⟩⟩
    have sac := sb.trans sc'
    have Tc := Ta.ext sac
    have smc := msk_same (Kept.of_same (M := [s, c]) sac)
    have Sc := Sa.same sac
    refine ⟨tp, ts, .ref DL, .ref p, false, false, true, ct, dd, rs, 7 + i, rfl, Tc, TM1.same sac, hDL, okc, by omega, hA, ok, dp_same sac dD1, hfk, fun _ Hd kd Td => ?_, fun y o => ?_⟩
    · refine ⟨.non, rfl, rfl, _, rfl, iteT ?_⟩
      refine ⟨.str "refused", rfl, rfl, _, rfl, ?_⟩
      rw [decide_eq_true rfl]
      refine iteF ?_
      have dDd := dp_over Tc kd (dp_same sac dD1)
      obtain ⟨q0, xs, e, hX⟩ := deed_xs dDd
      cases e
      have hw : wordOf dd ≠ "shift" := by
        cases dd with
        | shift t col b =>
          rcases no with h | h
          · cases h
          · exact absurd (shift_once rfl hA ok) h
        | put t r => show ("put" : Str) ≠ "shift"; decide
        | drop t k => show ("drop" : Str) ≠ "shift"; decide
        | sweep t col o => show ("sweep" : Str) ≠ "shift"; decide
        | set t k col o => show ("set" : Str) ≠ "shift"; decide
      refine ⟨.ref p, rfl, p, xs, 0, .str (wordOf dd), rfl, rfl, hX.sq, atI_nat (j := 0) hX.w, rfl, _, rfl, ?_⟩
      rw [decide_eq_false (fun z => hw (V.str.inj z))]
      refine iteF ?_
      refine rest _ Hd ⟨cp, ct, ⟨_, _, _, _, _, _, _, _, _, rfl⟩, ⟨dp_overM Tc kd (dp_same smc TMa.dp), okt, l0, l8⟩, dp_overM Tc kd (dp_same smc dCa), okc.mono (by omega), fun rs hrs r hr o ho => (wb rs hrs r hr o ho).mono (by omega), (st_over Tc kd Sc).mono (by omega), Td⟩
    · rcases no with h | h
      · rw [y] at h; cases h
      · exact absurd o h
  · have okn := next_ok okc okt hA ok once
    have wbn := next_wb hA ok wb (by omega) bn
    have szn := sz_cont okt okn (by omega) l8 wbn (by omega)
    have shn := shows_nice szn.nice (by decide) (Nat.le_trans szn.dep (by decide)) (Nat.le_trans szn.wt (by decide))
    have dCb := dp_same sb dC1
    refine ⟨.ref cp, rfl, .ref cp, contD ct, rfl, dCb, shw.sh, shw.nd, shw.dp, shw.sz, _, _, rfl, ?_⟩
    refine ⟨.ref tp, rfl, .ref cp, rfl, cp, ct, rfl, dCb, by omega, fun DL Hc sc' hDL => ⟨.ref p, rfl, ?_⟩⟩
    have sac := sb.trans sc'
    have Tc := Ta.ext sac
    have smc := msk_same (Kept.of_same (M := [s, c]) sac)
    have Sc := Sa.same sac
    have hpc := dp_same sc' hpd
    refine ⟨tp, ts, .ref DL, .ref p, false, false, true, ct, dd, rs, 7 + i, rfl, Tc, TM1.same sac, hDL, okc, by omega, hA, ok, dp_same sac dD1, hfk, fun no => ?_, fun _ _ pf Hd kd Td hpf => ?_⟩
    · rcases no with h | h
      · rw [yes] at h; cases h
      · exact absurd once h
    · refine ⟨.ref pd, rfl, rfl, _, rfl, iteF ?_⟩
      refine ⟨.ref pf, rfl, .ref pf, contD (nextR ts ct rs dd), rfl, hpf, shn.sh, shn.nd, shn.dp, shn.sz, .ref pd, rfl, .ref pd, contD (nextR ts ct rs dd), rfl, dp_over Tc kd hpc, shn.sh, shn.nd, shn.dp, shn.sz, rfl, _, rfl, ?_⟩
      rw [decide_eq_true rfl]
      refine iteF ?_
      refine ⟨.ref cp, rfl, .ref cp, contD ct, rfl, dp_over Tc kd (dp_same sac dC1), shw.sh, shw.nd, shw.dp, shw.sz, .str _, rfl, rfl, _, rfl, ?_⟩
      rw [decide_eq_true rfl]
      refine iteF ?_
      have Sd := st_over Tc kd Sc
      have ei : (((i + 1 : Nat)) : Int) = (i : Int) + 1 := Int.natCast_succ i
      exact ⟨_, rfl, rest _ Hd ⟨pd, nextR ts ct rs dd, ⟨_, _, _, _, _, _, _, _, _, rfl⟩, ⟨dp_overM Tc kd (dp_same smc TMa.dp), okt, l0, l8⟩, cont_st Sd (dp_over Tc kd hpc), okn.mono (by omega), fun rs2 hrs r hr o ho => (wbn rs2 hrs r hr o ho).mono (by omega), Sd.mono (by omega), Td⟩⟩
end
end TT

set_option Elab.async false
set_option linter.all false
set_option maxRecDepth 100000
namespace TT
open PySem PySem.Spec PyProof.Rows L2
/-! ### the law's call from the caller's own frame, where nothing is being shown -/
/-- what is tracked ahead of the call: the script alone, or nothing where it is one of the module's objects -/
def scr (a : Addr) (o : Obj) (xs : List V) (own : Bool) : Hp := fun b => if own = true ∧ b = a then some (.frz o (.lst xs)) else none
theorem scr_only (a : Addr) (o : Obj) (xs : List V) (own : Bool) : Only (scr a o xs own) := fun b => by
  unfold scr
  split
  · exact .inr ⟨_, _, rfl⟩
  · exact .inl rfl
theorem scr_at {a b : Addr} {o : Obj} {xs : List V} {own : Bool} {u : HO} (h : scr a o xs own b = some u) : own = true ∧ b = a ∧ u = .frz o (.lst xs) := by
  unfold scr at h
  split at h
  · rename_i z
    exact ⟨z.1, z.2, (Option.some.inj h).symm⟩
  · cases h
theorem law_callG {P : Program} {w : World} {K : PySem.W.Frag} {mg mb : Str → Option Value} {k : Nat} {fa a : Addr} {fd : FuncData} {x : Str} {sp : Sp} {s1 : Shared} {vs : List Value} {ns : List Int}
    (KX : K.In s1.heap) (hns : s1.heap.Ns mainGlobals mg) (hb : s1.heap.Ns builtinsNs mb) (hbb : ∀ x : Str, x ≠ "__name__" → mb x = bootBuiltins x) (lim : s1.heap.NoLimit) (bare : s1.gens = #[])
    (ha : s1.heap.get? a = some { cls := .type "list", data := .seq vs.toArray }) (hi : IntsAre vs ns) (hl : ns.length ≤ sizeLine) (hr : Room k callerA)
    (F : ∀ base : Heap, K.In base → base.Ns mainGlobals mg → FnG P w K mg base CX0 k fa fd [x] sp) (bind : ∀ (s : Shared) (u : Value), BindsTo s fd ⟨[u], []⟩ [(x, u)])
    (hsp : ∀ H : Hp, Only H → SqL K H a (ns.map V.int) → sp [.ref a] H (fun v _ => v = .bl true) E0) :
    codeAny (model P w) callerA (.call (.ref fa) ⟨[.ref a], []⟩) (fun r s' => r = .ok (.ret (.bool true)) ∧ OldK s1.heap s'.heap ∧ s'.os = s1.os ∧ AllBare s'.gens) s1 := by
  have rv := vals_ints hi
  have lv := hi.length
  obtain ⟨own, hown, hK⟩ : ∃ own : Bool, (own = true → K.lookup a = none) ∧ (own = false → SqL K (scr a { cls := .type "list", data := .seq vs.toArray } (ns.map V.int) false) a (ns.map V.int)) := by
    cases e : K.lookup a with
    | none => exact ⟨true, ⟨fun _ => rfl, fun z => absurd z (by decide)⟩⟩
    | some o =>
      refine ⟨false, ⟨fun z => absurd z (by decide), fun _ => ?_⟩⟩
      have q := KX a o e
      rw [ha] at q
      cases q
      exact .inr ⟨_, vs.toArray, _, e, rfl, rfl, rfl, by rw [List.size_toArray, lv]; exact hl, by simpa using rv⟩
  generalize hH : scr a { cls := .type "list", data := .seq vs.toArray } (ns.map V.int) own = H
  have at' : ∀ {b u}, H b = some u → own = true ∧ b = a ∧ u = .frz { cls := .type "list", data := .seq vs.toArray } (.lst (ns.map V.int)) := fun {b u} e => scr_at (by rw [hH]; exact e)
  have hO : Only H := by rw [← hH]; exact scr_only a _ _ own
  have hS : SqL K H a (ns.map V.int) := by
    cases e : own with
    | false =>
      rw [← hH, e]
      exact hK e
    | true =>
      refine .inl (.inr ⟨{ cls := .type "list", data := .seq vs.toArray }, ?_⟩)
      rw [← hH, e]
      exact if_pos ⟨rfl, rfl⟩
  have hok : HOk P w H s1.heap := fun b u e => by
    obtain ⟨_, rfl, rfl⟩ := at' e
    exact ⟨ha, by rw [List.length_map]; exact hl, vs, _, rv, ha⟩
  -- what is not the script stands in the heap that is leant on
  have bare' : ∀ {b o es ep}, s1.heap.get? b = some o → o.data = .dict es ep → H b = none := fun {b o es ep} e d => by
    cases q : H b with
    | none => rfl
    | some u =>
      obtain ⟨_, rfl, _⟩ := at' q
      rw [ha] at e
      cases e
      cases d
  have ns' : ∀ {b m}, s1.heap.Ns b m → (hidT s1.heap H).Ns b m := fun {b m} ⟨o, es, ep, e, d, r⟩ => ⟨o, es, ep, hidT_get e (bare' e d), d, r⟩
  have kb : K.In (hidT s1.heap H) := fun b o e => hidT_get (KX b o e) (by
    cases q : H b with
    | none => rfl
    | some u =>
      obtain ⟨z, rfl, _⟩ := at' q
      rw [hown z] at e
      cases e)
  have e0 : Env0 P w K mg (hidT s1.heap H) callerA [] s1 H := ⟨rfl, ⟨kb, ns' hns, ⟨mb, ns' hb, hbb⟩, let ⟨mc, h1, h2⟩ := lim; ⟨mc, ns' h1, h2⟩⟩, fun b o e => of_hidT e, Nat.le_of_eq (hidT_size _ _), trivial,
    fun b z => absurd (show b ∈ ([] : List Addr) from z) (by simp), hok, .of_eq bare⟩
  refine codeAny_mono ((F _ kb (ns' hns)).run callerA [] s1 H ⟨[.ref a], []⟩ [.ref a] [.ref a] _ _ hr rfl e0 (bind s1 (.ref a)) (.cons rfl .nil) (hsp H hO hS)) fun r s' h => ?_
  rcases r with err | fl
  · exact False.elim h
  cases fl with
  | next => exact False.elim h
  | brk => exact False.elim h
  | cont => exact False.elim h
  | ret u =>
    obtain ⟨v, H', os, bg, un, ok', r', q⟩ := h
    obtain rfl : v = .bl true := q
    obtain rfl : u = Value.bool true := r'
    refine ⟨rfl, OldK.of_keep fun b o e => ?_, os, bg⟩
    cases q : H b with
    | none => exact un.keep b o e q (fun z => absurd (show b ∈ ([] : List Addr) from z) (by simp)) (by simp)
    | some u =>
      obtain ⟨_, rfl, rfl⟩ := at' q
      rw [ha] at e
      cases e
      exact (ok' _ _ (un.frzs _ _ _ q)).1
/-- a law by its promise: L2.walk_ofK, where nothing is being shown -/
theorem walk_ofG {l : PySem.W.OpenLaw} {n k : Nat} {q : Program} {loose : List Str} {XP : (Str → Option Value) → Heap → Prop} {YP : World → Heap → Prop} {d : DefRec} {K : Params → PySem.W.Frag} {sp : PySem.W.Frag → Sp} {x : Str}
    (hn : l.most = some n) (hn2 : n ≤ sizeLine) (hdf : d.params.defaults = []) (hr : Room k callerA) (hY : ∀ (w : World) (h : Heap), YP w h → (K w.params).In h)
    (F : ∀ (w : World) (mg : Str → Option Value) (fa : Addr) (h : Heap), (K w.params).In h → h.Ns mainGlobals mg → mg d.name = some (.ref fa) →
      ∃ fd : FuncData, (∀ (s : Shared) (u : Value), BindsTo s fd ⟨[u], []⟩ [(x, u)]) ∧
        ∀ base : Heap, (K w.params).In base → base.Ns mainGlobals mg → FnG l.prog w (K w.params) mg base CX0 k fa fd [x] (sp (K w.params)))
    (hsp : ∀ (K : PySem.W.Frag) (H : Hp) (a : Addr) (ns : List Int), ns.length ≤ n → Only H → SqL K H a (ns.map V.int) → sp K [.ref a] H (fun v _ => v = .bl true) E0) :
    PySem.W.WalkO q loose XP YP l.row.toRowW d [] (fun f vs => PySem.call f vs) := by
  refine Att.attach_call hn hdf fun w s0 s1 mg mb fa o pm cd doc a vs ns G Y ho hd hcd hmg hobj hints hlen hg => ?_
  have KX := hY w _ Y
  obtain ⟨fd, hb, hF⟩ := F w mg fa _ KX G.T.g hmg
  exact law_callG KX G.T.g G.T.b G.T.builtins G.T.nolimit hg hobj hints (Nat.le_trans hlen hn2) hr hF hb fun H hO hS => hsp (K w.params) H a ns hlen hO hS
end TT

set_option Elab.async false
set_option linter.all false
set_option maxRecDepth 100000
namespace TT
open PySem PySem.Spec PyProof.Rows L2 LamX
/-! ### the law's call where nothing is being shown and lambdas are made: cs, the code objects that make them, each with its table -/
def scrT (a : Addr) (o : Obj) (xs : List V) (own : Bool) (ps : List Addr) : Hp := fun b => if own = true ∧ b = a then some (.frz o (.lst xs)) else if b ∈ ps then some (.tbl #[]) else none
theorem scrT_at {a b : Addr} {o : Obj} {xs : List V} {own : Bool} {ps : List Addr} {u : HO} (h : scrT a o xs own ps b = some u) : (own = true ∧ b = a ∧ u = .frz o (.lst xs)) ∨ (b ∈ ps ∧ u = .tbl #[]) := by
  unfold scrT at h
  split at h
  · rename_i z
    exact .inl ⟨z.1, z.2, (Option.some.inj h).symm⟩
  · split at h
    · rename_i z
      exact .inr ⟨z, (Option.some.inj h).symm⟩
    · cases h
theorem law_callGT {P : Program} {w : World} {K : PySem.W.Frag} {mg mb : Str → Option Value} {k : Nat} {fa a : Addr} {cs : List (Addr × Addr)} {fd : FuncData} {x : Str} {sp : Sp} {s1 : Shared} {vs : List Value} {ns : List Int}
    (KX : K.In s1.heap) (hns : s1.heap.Ns mainGlobals mg) (hb : s1.heap.Ns builtinsNs mb) (hbb : ∀ x : Str, x ≠ "__name__" → mb x = bootBuiltins x) (lim : s1.heap.NoLimit) (bare : s1.gens = #[])
    (tabs : ∀ p ∈ cs, s1.heap.get? p.2 = some { cls := .none, data := .fields #[] }) (nK : ∀ p ∈ cs, K.lookup p.2 = none) (code : ∀ p ∈ cs, PySem.W.CodeHd s1.heap p.1 p.2)
    (bmain : ∃ (bm : Addr) (ob : Obj), mg "__builtins__" = some (.ref bm) ∧ bm ≠ builtinsNs ∧ s1.heap.get? bm = some ob ∧ ob.cls = .type "module" ∧ ob.dict = some builtinsNs ∧ ob.data = .plain)
    (ha : s1.heap.get? a = some { cls := .type "list", data := .seq vs.toArray }) (hi : IntsAre vs ns) (hl : ns.length ≤ sizeLine) (hr : Room k callerA)
    (F : ∀ base : Heap, K.In base → base.Ns mainGlobals mg → (∀ p ∈ cs, TabB base mg p.1 p.2) → FnG P w K mg base CX0 k fa fd [x] sp) (bind : ∀ (s : Shared) (u : Value), BindsTo s fd ⟨[u], []⟩ [(x, u)])
    (hsp : ∀ H : Hp, (∀ p ∈ cs, H p.2 = some (.tbl #[])) → SqL K H a (ns.map V.int) → sp [.ref a] H (fun v _ => v = .bl true) E0) :
    codeAny (model P w) callerA (.call (.ref fa) ⟨[.ref a], []⟩) (fun r s' => r = .ok (.ret (.bool true)) ∧ OldK s1.heap s'.heap ∧ s'.os = s1.os ∧ AllBare s'.gens) s1 := by
  have rv := vals_ints hi
  have lv := hi.length
  obtain ⟨ps, eps⟩ : ∃ ps, ps = cs.map (·.2) := ⟨_, rfl⟩
  have inP : ∀ p ∈ cs, p.2 ∈ ps := fun p hp => by rw [eps]; exact List.mem_map.mpr ⟨p, hp, rfl⟩
  have ofP : ∀ b ∈ ps, ∃ p ∈ cs, p.2 = b := fun b hb => by rw [eps] at hb; exact List.mem_map.mp hb
  have tab' : ∀ b ∈ ps, s1.heap.get? b = some { cls := .none, data := .fields #[] } := fun b hb => by
    obtain ⟨p, hp, rfl⟩ := ofP b hb
    exact tabs p hp
  have aP : a ∉ ps := fun z => by
    have q := tab' a z
    rw [ha] at q
    cases congrArg Obj.data (Option.some.inj q)
  obtain ⟨own, hown, hK⟩ : ∃ own : Bool, (own = true → K.lookup a = none) ∧ (own = false → SqL K (scrT a { cls := .type "list", data := .seq vs.toArray } (ns.map V.int) false ps) a (ns.map V.int)) := by
    cases e : K.lookup a with
    | none => exact ⟨true, ⟨fun _ => rfl, fun z => absurd z (by decide)⟩⟩
    | some o =>
      refine ⟨false, ⟨fun z => absurd z (by decide), fun _ => ?_⟩⟩
      have q := KX a o e
      rw [ha] at q
      cases q
      exact .inr ⟨_, vs.toArray, _, e, rfl, rfl, rfl, by rw [List.size_toArray, lv]; exact hl, by simpa using rv⟩
  generalize hH : scrT a { cls := .type "list", data := .seq vs.toArray } (ns.map V.int) own ps = H
  have at' : ∀ {b u}, H b = some u → (own = true ∧ b = a ∧ u = .frz { cls := .type "list", data := .seq vs.toArray } (.lst (ns.map V.int))) ∨ (b ∈ ps ∧ u = .tbl #[]) := fun {b u} e => scrT_at (by rw [hH]; exact e)
  have hT : ∀ p ∈ cs, H p.2 = some (.tbl #[]) := fun p hp => by
    have ne : ¬ (own = true ∧ p.2 = a) := fun z => aP (by rw [← z.2]; exact inP p hp)
    rw [← hH]
    unfold scrT
    rw [if_neg ne, if_pos (inP p hp)]
  have hS : SqL K H a (ns.map V.int) := by
    cases e : own with
    | false =>
      rw [← hH, e]
      exact hK e
    | true =>
      refine .inl (.inr ⟨{ cls := .type "list", data := .seq vs.toArray }, ?_⟩)
      rw [← hH, e]
      exact if_pos ⟨rfl, rfl⟩
  have hok : HOk P w H s1.heap := fun b u e => by
    rcases at' e with ⟨_, rfl, rfl⟩ | ⟨hb, rfl⟩
    · exact ⟨ha, by rw [List.length_map]; exact hl, vs, _, rv, ha⟩
    · exact tab' b hb
  -- what is neither the script nor a table stands in the heap that is leant on
  have non : ∀ {b o}, s1.heap.get? b = some o → (∀ ys n, o.data ≠ .seq ys n) → o.data ≠ .fields #[] → H b = none := fun {b o} e n1 n2 => by
    cases q : H b with
    | none => rfl
    | some u =>
      rcases at' q with ⟨_, rfl, _⟩ | ⟨hb, _⟩
      · rw [ha] at e
        cases e
        exact absurd rfl (n1 _ _)
      · rw [tab' b hb] at e
        cases e
        exact absurd rfl n2
  have dict' : ∀ {b o es ep}, s1.heap.get? b = some o → o.data = .dict es ep → H b = none := fun {b o es ep} e d => non e (fun ys n z => by rw [d] at z; cases z) (fun z => by rw [d] at z; cases z)
  have ns' : ∀ {b m}, s1.heap.Ns b m → (hidT s1.heap H).Ns b m := fun {b m} ⟨o, es, ep, e, d, r⟩ => ⟨o, es, ep, hidT_get e (dict' e d), d, r⟩
  have kb : K.In (hidT s1.heap H) := fun b o e => hidT_get (KX b o e) (by
    cases q : H b with
    | none => rfl
    | some u =>
      rcases at' q with ⟨z, rfl, _⟩ | ⟨hb, _⟩
      · rw [hown z] at e
        cases e
      · obtain ⟨p, hp, rfl⟩ := ofP b hb
        rw [nK p hp] at e
        cases e)
  have TB : ∀ p ∈ cs, TabB (hidT s1.heap H) mg p.1 p.2 := fun p hp => by
    refine ⟨?_, ?_, fun z => ?_⟩
    · obtain ⟨o, us, file, tf, flags, tg, inF, text, tt, e1, r1, r2, r3, r4⟩ := code p hp
      refine ⟨o, us, file, tf, flags, tg, inF, text, tt, hidT_get e1 (non e1 (fun ys n z => by rw [r2] at z; cases z) (fun z => ?_)), r1, r2, r3, r4⟩
      rw [r2] at z
      cases z
      simp at r3
    · obtain ⟨bm, ob, b1, b2, b3, b4, b5, b6⟩ := bmain
      refine ⟨bm, ob, b1, b2, fun q => ?_, fun q => ?_, hidT_get b3 (non b3 (fun ys n z => by rw [b6] at z; cases z) (fun z => by rw [b6] at z; cases z)), b4, b5, b6⟩
      · obtain ⟨o, es, ep, e, hd, _⟩ := hns
        rw [q, e] at b3
        cases b3
        rw [hd] at b6
        cases b6
      · rw [q, tabs p hp] at b3
        cases b3
        cases b6
    · obtain ⟨o, es, ep, e, hd, _⟩ := hns
      rw [z, tabs p hp] at e
      cases e
      cases hd
  have e0 : Env0 P w K mg (hidT s1.heap H) callerA [] s1 H := ⟨rfl, ⟨kb, ns' hns, ⟨mb, ns' hb, hbb⟩, let ⟨mc, h1, h2⟩ := lim; ⟨mc, ns' h1, h2⟩⟩, fun b o e => of_hidT e, Nat.le_of_eq (hidT_size _ _), trivial,
    fun b z => absurd (show b ∈ ([] : List Addr) from z) (by simp), hok, .of_eq bare⟩
  refine codeAny_mono ((F _ kb (ns' hns) TB).run callerA [] s1 H ⟨[.ref a], []⟩ [.ref a] [.ref a] _ _ hr rfl e0 (bind s1 (.ref a)) (.cons rfl .nil) (hsp H hT hS)) fun r s' h => ?_
  rcases r with err | fl
  · exact False.elim h
  cases fl with
  | next => exact False.elim h
  | brk => exact False.elim h
  | cont => exact False.elim h
  | ret u =>
    obtain ⟨v, H', os, bg, un, ok', r', q⟩ := h
    obtain rfl : v = .bl true := q
    obtain rfl : u = Value.bool true := r'
    have rest : ∀ b o, b ∉ ps → s1.heap.get? b = some o → s'.heap.get? b = some o := fun b o nb e => by
      cases q : H b with
      | none => exact un.keep b o e q (fun z => absurd (show b ∈ ([] : List Addr) from z) (by simp)) (by simp)
      | some u =>
        rcases at' q with ⟨_, rfl, rfl⟩ | ⟨z, _⟩
        · rw [ha] at e
          cases e
          exact (ok' _ _ (un.frzs _ _ _ q)).1
        · exact absurd z nb
    have more : ∀ p ∈ cs, ∃ ms : Array Value, s'.heap.get? p.2 = some { cls := .none, data := .fields ms } := fun p hp => by
      obtain ⟨ms, z⟩ := un.tbls p.2 #[] (hT p hp)
      exact ⟨_, ok' p.2 _ z⟩
    refine ⟨rfl, ⟨fun b o e => ?_, fun b o e => ?_⟩, os, bg⟩
    · by_cases z : b ∈ ps
      · obtain ⟨p, hp, rfl⟩ := ofP b z
        obtain ⟨ms, hm⟩ := more p hp
        rw [tabs p hp] at e
        cases e
        exact .inr (.inl ⟨((code p hp).tab (tabs p hp)).isCodeTable, rfl, #[], ms, rfl, by rw [Array.empty_append]; exact hm⟩)
      · exact .inl (rest b o z e)
    · by_cases z : b ∈ ps
      · obtain ⟨p, hp, rfl⟩ := ofP b z
        obtain ⟨ms, hm⟩ := more p hp
        exact ⟨_, hm⟩
      · exact ⟨o, rest b o z e⟩
end TT

set_option Elab.async false
set_option linter.all false
set_option maxRecDepth 100000
namespace TT
open PySem PySem.Spec PyProof.Rows L2 LamX
/-! ### what the top has written; the law's own head -/
theorem kit_blt {K : PySem.W.Frag} {C : Addr} {T : String} {b : Bool} (h : PySem.W.subIn K (.ref C) (.type T) = some b) (hm : PySem.W.kitMeta T = true) : PySem.W.kitOne K (.ref C) (.type T) = some b := by
  unfold PySem.W.kitOne
  rw [if_neg (fun z => nomatch (beq_iff_eq.mp z : Value.ref C = Value.type T))]
  show (if PySem.W.kitMeta T = true then PySem.W.subIn K (.ref C) (.type T) else none) = some b
  rw [if_pos hm]
  exact h
theorem kit_self {K : PySem.W.Frag} {C : Addr} : PySem.W.kitOne K (.ref C) (.ref C) = some true := by
  unfold PySem.W.kitOne
  rw [if_pos (beq_self_eq_true _)]
theorem kit_own {K : PySem.W.Frag} {C CT : Addr} {b : Bool} (ne : C ≠ CT) (hd : PySem.W.hasDictIn K CT = true) (ht : PySem.W.typeIn K (.ref CT) = some (.type "type")) (h : PySem.W.subIn K (.ref C) (.ref CT) = some b) : PySem.W.kitOne K (.ref C) (.ref CT) = some b := by
  obtain ⟨cd, hc, _⟩ := PySem.W.any_some hd
  unfold PySem.W.kitOne
  rw [if_neg (fun z => ne (Value.ref.inj (beq_iff_eq.mp z)))]
  show (if ((PySem.W.clsIn K CT).isSome && PySem.W.typeIn K (.ref CT) == some (.type "type")) = true then PySem.W.subIn K (.ref C) (.ref CT) else none) = some b
  rw [hc, ht, if_pos (by rfl)]
  exact h
/-- a law by its promise, where nothing is being shown and lambdas are made -/
def LawAtG (l : PySem.W.OpenLaw) (w : World) (K : PySem.W.Frag) (k n : Nat) (x : Str) (mg : Str → Option Value) (fa : Addr) (h : Heap) : Prop :=
  ∃ (fd : FuncData) (cs : List (Addr × Addr)) (sp : Sp), (∀ p ∈ cs, h.get? p.2 = some { cls := .none, data := .fields #[] }) ∧ (∀ p ∈ cs, K.lookup p.2 = none) ∧ (∀ p ∈ cs, PySem.W.CodeHd h p.1 p.2) ∧ (∀ (s : Shared) (u : Value), BindsTo s fd ⟨[u], []⟩ [(x, u)]) ∧
    (∀ (H : Hp) (a : Addr) (ns : List Int), ns.length ≤ n → (∀ p ∈ cs, H p.2 = some (.tbl #[])) → SqL K H a (ns.map V.int) → sp [.ref a] H (fun v _ => v = .bl true) E0) ∧
    ∀ base : Heap, K.In base → base.Ns mainGlobals mg → (∀ p ∈ cs, TabB base mg p.1 p.2) → FnG l.prog w K mg base CX0 k fa fd [x] sp
theorem walk_ofGT {l : PySem.W.OpenLaw} {n k : Nat} {q : Program} {loose : List Str} {XP : (Str → Option Value) → Heap → Prop} {YP : World → Heap → Prop} {d : DefRec} {K : Params → PySem.W.Frag} {x : Str}
    (hn : l.most = some n) (hn2 : n ≤ sizeLine) (hdf : d.params.defaults = []) (hr : Room k callerA) (hY : ∀ (w : World) (h : Heap), YP w h → (K w.params).In h)
    (F : ∀ (w : World) (mg : Str → Option Value) (fa : Addr) (h : Heap), YP w h → (K w.params).In h → h.Ns mainGlobals mg → mg d.name = some (.ref fa) → LawAtG l w (K w.params) k n x mg fa h) :
    PySem.W.WalkO q loose XP YP l.row.toRowW d [] (fun f vs => PySem.call f vs) := by
  refine Att.attach_call hn hdf fun w s0 s1 mg mb fa o pm cd doc a vs ns G Y ho hd hcd hmg hobj hints hlen hg => ?_
  have KX := hY w _ Y
  obtain ⟨fd, cs, sp, hT, nT, C, hb, hsp, hF⟩ := F w mg fa _ Y KX G.T.g hmg
  exact law_callGT KX G.T.g G.T.b G.T.builtins G.T.nolimit hg hT nT C G.T.bmain hobj hints (Nat.le_trans hlen hn2) hr hF hb fun H hH hS => hsp H a ns hlen hH hS
section
variable {P : Program} {w : World} {K : PySem.W.Frag} {mg : Str → Option Value} {base : Heap}
abbrev s_init_Taken : Stmt := match topS 2 with
  | .ClassDef (body := b) .. => b.getD 0 (.Pass ⟨0, 0, 0, 0⟩)
  | _ => .Pass ⟨0, 0, 0, 0⟩
theorem sc_init_Taken : FnScope ["self", "table", "key"] ["self", "table", "key"] (defScope s_init_Taken) := ⟨rfl, rfl, rfl, by decide +kernel, rfl, by decide +kernel, by decide +kernel⟩
theorem ok_init_Taken {C : Addr} {f : Addr} {fd : FuncData} (F : Fun K "__init__" "Taken.__init__" s_init_Taken f fd) (T : OexG K C) (h1 : PySem.W.findIn K (.ref C) "table" = some none) (h2 : PySem.W.findIn K (.ref C) "key" = some none) : FnOk P w K mg base CX0 1 f fd ["self", "table", "key"] (spInitF "table" "key" K C) := by
  refine F.ok sc_init_Taken (fun vs H Q E h => ?_) (fun cdv A outer sh H vs Q E hr h => ?_)
  · obtain ⟨a, x, y, rfl, _⟩ := h
    rfl
  obtain ⟨a, x, y, rfl, ea, q⟩ := h
  refine ⟨_, pss_cons (ps_osg (pv 0) (pv 1)) (pss_one (ps_osg (pv 0) (pv 2))), ?_⟩
  refine ⟨x, rfl, .ref a, rfl, a, C, rfl, T, h1, .inl ⟨ea, fun dx n ne => ?_⟩⟩
  refine ⟨y, rfl, .ref a, rfl, a, C, rfl, T, h2, .inr ⟨dx, _, upd_same, ?_, (by show 1 ≤ 900; decide), q dx n ne⟩⟩
  rw [upd_ne ne, upd_same]
abbrev s_init_NoRow : Stmt := match topS 3 with
  | .ClassDef (body := b) .. => b.getD 0 (.Pass ⟨0, 0, 0, 0⟩)
  | _ => .Pass ⟨0, 0, 0, 0⟩
theorem sc_init_NoRow : FnScope ["self", "table", "key"] ["self", "table", "key"] (defScope s_init_NoRow) := ⟨rfl, rfl, rfl, by decide +kernel, rfl, by decide +kernel, by decide +kernel⟩
theorem ok_init_NoRow {C : Addr} {f : Addr} {fd : FuncData} (F : Fun K "__init__" "NoRow.__init__" s_init_NoRow f fd) (T : OexG K C) (h1 : PySem.W.findIn K (.ref C) "table" = some none) (h2 : PySem.W.findIn K (.ref C) "key" = some none) : FnOk P w K mg base CX0 1 f fd ["self", "table", "key"] (spInitF "table" "key" K C) := by
  refine F.ok sc_init_NoRow (fun vs H Q E h => ?_) (fun cdv A outer sh H vs Q E hr h => ?_)
  · obtain ⟨a, x, y, rfl, _⟩ := h
    rfl
  obtain ⟨a, x, y, rfl, ea, q⟩ := h
  refine ⟨_, pss_cons (ps_osg (pv 0) (pv 1)) (pss_one (ps_osg (pv 0) (pv 2))), ?_⟩
  refine ⟨x, rfl, .ref a, rfl, a, C, rfl, T, h1, .inl ⟨ea, fun dx n ne => ?_⟩⟩
  refine ⟨y, rfl, .ref a, rfl, a, C, rfl, T, h2, .inr ⟨dx, _, upd_same, ?_, (by show 1 ≤ 900; decide), q dx n ne⟩⟩
  rw [upd_ne ne, upd_same]
end
set_option maxHeartbeats 8000000 in
theorem all_mk {l : PySem.W.OpenLaw} {w : World} {K : PySem.W.Frag} {h : Heap} {mg : Str → Option Value} {fa cR Pt CT CN CE fTaken fNoRow f1 f2 f3 f4 f5 f6 f7 f8 f9 f10 f11 f12 f13 f14 f15 f16 f17 f18 f19 f20 f21 f22 f23 f24 f25 f26 f27 f28 f29 f30 f31 f32 f33 f34 f35 f36 f37 f38 f39 f40 f41 f42 : Addr} (X : K.In h) (G : h.Ns mainGlobals mg) (hfa : mg "law" = some (.ref fa))
    {odTaken anTaken odNoRow anNoRow od1 an1 od2 an2 od3 an3 od4 an4 od5 an5 od6 an6 od7 an7 od8 an8 od9 an9 od10 an10 od11 an11 od12 an12 od13 an13 od14 an14 od15 an15 od16 an16 od17 an17 od18 an18 od19 an19 od20 an20 od21 an21 od22 an22 od23 an23 od24 an24 od25 an25 od26 an26 od27 an27 od28 an28 od29 an29 od30 an30 od31 an31 od32 an32 od33 an33 od34 an34 od35 an35 od36 an36 od37 an37 od38 an38 od39 an39 od40 an40 od41 an41 od42 an42 : Option Addr} {slTaken slNoRow sl1 sl2 sl3 sl4 sl5 sl6 sl7 sl8 sl9 sl10 sl11 sl12 sl13 sl14 sl15 sl16 sl17 sl18 sl19 sl20 sl21 sl22 sl23 sl24 sl25 sl26 sl27 sl28 sl29 sl30 sl31 sl32 sl33 sl34 sl35 sl36 sl37 sl38 sl39 sl40 sl41 sl42 : Array (Option Value)} {ocTaken kVTaken dcTaken pmTaken ctTaken cdTaken ocNoRow kVNoRow dcNoRow pmNoRow ctNoRow cdNoRow oc1 kV1 dc1 pm1 ct1 cd1 oc2 kV2 dc2 pm2 ct2 cd2 oc3 kV3 dc3 pm3 ct3 cd3 oc4 kV4 dc4 pm4 ct4 cd4 oc5 kV5 dc5 pm5 ct5 cd5 oc6 kV6 dc6 pm6 ct6 cd6 oc7 kV7 dc7 pm7 ct7 cd7 oc8 kV8 dc8 pm8 ct8 cd8 oc9 kV9 dc9 pm9 ct9 cd9 oc10 kV10 dc10 pm10 ct10 cd10 oc11 kV11 dc11 pm11 ct11 cd11 oc12 kV12 dc12 pm12 ct12 cd12 oc13 kV13 dc13 pm13 ct13 cd13 oc14 kV14 dc14 pm14 ct14 cd14 oc15 kV15 dc15 pm15 ct15 cd15 oc16 kV16 dc16 pm16 ct16 cd16 oc17 kV17 dc17 pm17 ct17 cd17 oc18 kV18 dc18 pm18 ct18 cd18 oc19 kV19 dc19 pm19 ct19 cd19 oc20 kV20 dc20 pm20 ct20 cd20 oc21 kV21 dc21 pm21 ct21 cd21 oc22 kV22 dc22 pm22 ct22 cd22 oc23 kV23 dc23 pm23 ct23 cd23 oc24 kV24 dc24 pm24 ct24 cd24 oc25 kV25 dc25 pm25 ct25 cd25 oc26 kV26 dc26 pm26 ct26 cd26 oc27 kV27 dc27 pm27 ct27 cd27 oc28 kV28 dc28 pm28 ct28 cd28 oc29 kV29 dc29 pm29 ct29 cd29 oc30 kV30 dc30 pm30 ct30 cd30 oc31 kV31 dc31 pm31 ct31 cd31 oc32 kV32 dc32 pm32 ct32 cd32 oc33 kV33 dc33 pm33 ct33 cd33 oc34 kV34 dc34 pm34 ct34 oc35 kV35 dc35 pm35 ct35 cd35 oc36 kV36 dc36 pm36 ct36 cd36 oc37 kV37 dc37 pm37 ct37 cd37 oc38 kV38 dc38 pm38 ct38 cd38 oc39 kV39 dc39 pm39 ct39 cd39 oc40 kV40 dc40 pm40 ct40 cd40 oc41 kV41 dc41 pm41 ct41 cd41 oc42 kV42 dc42 pm42 ct42 cd42 : Value}
    {nmTaken qTaken : Str} {NTaken : Addr} {bsTaken bmTaken : List Value} {snTaken : List Str} {subTaken : List Value} {abTaken : Bool} {colTaken : Option Bool} {ddTaken : Option Addr} {m0Taken m1Taken m2Taken m3Taken m5Taken : Option Value}
    {nmNoRow qNoRow : Str} {NNoRow : Addr} {bsNoRow bmNoRow : List Value} {snNoRow : List Str} {subNoRow : List Value} {abNoRow : Bool} {colNoRow : Option Bool} {ddNoRow : Option Addr} {m0NoRow m1NoRow m2NoRow m3NoRow m5NoRow : Option Value}
    (gCT : PySem.W.nsIn K mainGlobals "Taken" = some (some (.ref CT)))
    (hdCT : PySem.W.hasDictIn K CT = true)
    (tyCT : PySem.W.typeIn K (.ref CT) = some (.type "type"))
    (gCN : PySem.W.nsIn K mainGlobals "NoRow" = some (some (.ref CN)))
    (hdCN : PySem.W.hasDictIn K CN = true)
    (tyCN : PySem.W.typeIn K (.ref CN) = some (.type "type"))
    (gCE : PySem.W.nsIn K mainGlobals "TableError" = some (some (.ref CE)))
    (hdCE : PySem.W.hasDictIn K CE = true)
    (tyCE : PySem.W.typeIn K (.ref CE) = some (.type "type"))
    (xCT : K.lookup CT = some (excClassObj nmTaken qTaken CT NTaken bsTaken bmTaken true snTaken subTaken abTaken colTaken ddTaken m0Taken m1Taken m2Taken m3Taken m5Taken "ValueError.__new__"))
    (tlCT : PySem.W.excTail [.type "ValueError", .type "Exception", .type "BaseException", .type "object"] bmTaken = true)
    (saCT : PySem.W.findIn K (.ref CT) "__setattr__" = some (some (.builtin "object.__setattr__")))
    (exCT : PySem.W.subIn K (.ref CT) (.type "BaseException") = some true)
    (kkCT : PySem.W.keepIn K (.ref CT) = true)
    (iiCT : PySem.W.findIn K (.ref CT) "__init__" = some (some (.ref fTaken)))
    (tiCT : PySem.W.typeIn K (.ref fTaken) = some (.type "function"))
    (liCT : K.lookup fTaken = some ⟨ocTaken, odTaken, .func (PySem.W.fnOf "__init__" "Taken.__init__" (defArgs s_init_Taken) (defBody s_init_Taken) (defScope s_init_Taken) .none kVTaken dcTaken pmTaken anTaken cdTaken ctTaken), slTaken⟩)
    (ciCT : PySem.W.codeIn K cdTaken "Taken.__init__" = true)
    (kiCT : PySem.W.keepIn K (.ref fTaken) = true)
    (f1CT : PySem.W.findIn K (.ref CT) "table" = some none)
    (f2CT : PySem.W.findIn K (.ref CT) "key" = some none)
    (gaCT : PySem.W.findIn K (.ref CT) "__getattribute__" = some (some (.builtin "BaseException.__getattribute__")))
    (ggCT : PySem.W.findIn K (.ref CT) "__getattr__" = some none)
    (caCT : PySem.W.findIn K (.ref CT) "__class__" = some (some (.builtin "object.__class__")))
    (moCT : PySem.W.mroIn K CT (.type "object") = some true)
    (xCN : K.lookup CN = some (excClassObj nmNoRow qNoRow CN NNoRow bsNoRow bmNoRow true snNoRow subNoRow abNoRow colNoRow ddNoRow m0NoRow m1NoRow m2NoRow m3NoRow m5NoRow "ValueError.__new__"))
    (tlCN : PySem.W.excTail [.type "ValueError", .type "Exception", .type "BaseException", .type "object"] bmNoRow = true)
    (saCN : PySem.W.findIn K (.ref CN) "__setattr__" = some (some (.builtin "object.__setattr__")))
    (exCN : PySem.W.subIn K (.ref CN) (.type "BaseException") = some true)
    (kkCN : PySem.W.keepIn K (.ref CN) = true)
    (iiCN : PySem.W.findIn K (.ref CN) "__init__" = some (some (.ref fNoRow)))
    (tiCN : PySem.W.typeIn K (.ref fNoRow) = some (.type "function"))
    (liCN : K.lookup fNoRow = some ⟨ocNoRow, odNoRow, .func (PySem.W.fnOf "__init__" "NoRow.__init__" (defArgs s_init_NoRow) (defBody s_init_NoRow) (defScope s_init_NoRow) .none kVNoRow dcNoRow pmNoRow anNoRow cdNoRow ctNoRow), slNoRow⟩)
    (ciCN : PySem.W.codeIn K cdNoRow "NoRow.__init__" = true)
    (kiCN : PySem.W.keepIn K (.ref fNoRow) = true)
    (f1CN : PySem.W.findIn K (.ref CN) "table" = some none)
    (f2CN : PySem.W.findIn K (.ref CN) "key" = some none)
    (gaCN : PySem.W.findIn K (.ref CN) "__getattribute__" = some (some (.builtin "BaseException.__getattribute__")))
    (ggCN : PySem.W.findIn K (.ref CN) "__getattr__" = some none)
    (caCN : PySem.W.findIn K (.ref CN) "__class__" = some (some (.builtin "object.__class__")))
    (moCN : PySem.W.mroIn K CN (.type "object") = some true)
    (sp : PySem.W.specialIn K (.builtin "object.__class__") "__get__" = some (some (.builtin "getset_descriptor.__get__")))
    (tk : PySem.W.takesIn K (.builtin "object.__class__") = some true)
    (exE : PySem.W.subIn K (.ref CE) (.type "BaseException") = some true)
    (sTE : PySem.W.subIn K (.ref CT) (.ref CE) = some true)
    (sNE : PySem.W.subIn K (.ref CN) (.ref CE) = some true)
    (sNT : PySem.W.subIn K (.ref CN) (.ref CT) = some false)
    (sTN : PySem.W.subIn K (.ref CT) (.ref CN) = some false)
    (neTN : CT ≠ CN)
    (g_MOST_NUMBER : ∃ u, PySem.W.nsIn K mainGlobals "MOST_NUMBER" = some (some (.int 1000000000 u)))
    (g_MOST_ROWS : ∃ u, PySem.W.nsIn K mainGlobals "MOST_ROWS" = some (some (.int 60 u)))
    {a_LENGTHS : Addr} {es_LENGTHS : Array DictEntry} {n_LENGTHS : Nat}
    (t_LENGTHS : PySem.W.nsIn K mainGlobals "LENGTHS" = some (some (.ref a_LENGTHS)))
    (o_LENGTHS : K.lookup a_LENGTHS = some ⟨.type "dict", none, .dict es_LENGTHS n_LENGTHS, #[]⟩)
    (kl_LENGTHS : PySem.W.KeysLit w.params es_LENGTHS.toList)
    (sm_LENGTHS : (a_LENGTHS == sysModules) = false)
    (de_LENGTHS : DEnts lens es_LENGTHS.toList)
    (a1 : PySem.W.nsIn K mainGlobals "_law_begin" = some (some (.ref f1))) (l1 : K.lookup f1 = some ⟨oc1, od1, .func (PySem.W.fnOf "_law_begin" "_law_begin" (defArgs s_law_begin) (defBody s_law_begin) (defScope s_law_begin) .none kV1 dc1 pm1 an1 cd1 ct1), sl1⟩) (c1 : PySem.W.codeIn K cd1 "_law_begin" = true) (k1 : PySem.W.keepIn K (.ref f1) = true)
    (a2 : PySem.W.nsIn K mainGlobals "_law_take" = some (some (.ref f2))) (l2 : K.lookup f2 = some ⟨oc2, od2, .func (PySem.W.fnOf "_law_take" "_law_take" (defArgs s_law_take) (defBody s_law_take) (defScope s_law_take) .none kV2 dc2 pm2 an2 cd2 ct2), sl2⟩) (c2 : PySem.W.codeIn K cd2 "_law_take" = true) (k2 : PySem.W.keepIn K (.ref f2) = true)
    (a3 : PySem.W.nsIn K mainGlobals "_law_some" = some (some (.ref f3))) (l3 : K.lookup f3 = some ⟨oc3, od3, .func (PySem.W.fnOf "_law_some" "_law_some" (defArgs s_law_some) (defBody s_law_some) (defScope s_law_some) .none kV3 dc3 pm3 an3 cd3 ct3), sl3⟩) (c3 : PySem.W.codeIn K cd3 "_law_some" = true) (k3 : PySem.W.keepIn K (.ref f3) = true)
    (a4 : PySem.W.nsIn K mainGlobals "_law_names" = some (some (.ref f4))) (l4 : K.lookup f4 = some ⟨oc4, od4, .func (PySem.W.fnOf "_law_names" "_law_names" (defArgs s_law_names) (defBody s_law_names) (defScope s_law_names) .none kV4 dc4 pm4 an4 cd4 ct4), sl4⟩) (c4 : PySem.W.codeIn K cd4 "_law_names" = true) (k4 : PySem.W.keepIn K (.ref f4) = true)
    (a5 : PySem.W.nsIn K mainGlobals "_law_worth" = some (some (.ref f5))) (l5 : K.lookup f5 = some ⟨oc5, od5, .func (PySem.W.fnOf "_law_worth" "_law_worth" (defArgs s_law_worth) (defBody s_law_worth) (defScope s_law_worth) .none kV5 dc5 pm5 an5 cd5 ct5), sl5⟩) (c5 : PySem.W.codeIn K cd5 "_law_worth" = true) (k5 : PySem.W.keepIn K (.ref f5) = true)
    (a6 : PySem.W.nsIn K mainGlobals "_law_tables" = some (some (.ref f6))) (l6 : K.lookup f6 = some ⟨oc6, od6, .func (PySem.W.fnOf "_law_tables" "_law_tables" (defArgs s_law_tables) (defBody s_law_tables) (defScope s_law_tables) .none kV6 dc6 pm6 an6 cd6 ct6), sl6⟩) (c6 : PySem.W.codeIn K cd6 "_law_tables" = true) (k6 : PySem.W.keepIn K (.ref f6) = true)
    (a7 : PySem.W.nsIn K mainGlobals "_law_near" = some (some (.ref f7))) (l7 : K.lookup f7 = some ⟨oc7, od7, .func (PySem.W.fnOf "_law_near" "_law_near" (defArgs s_law_near) (defBody s_law_near) (defScope s_law_near) .none kV7 dc7 pm7 an7 cd7 ct7), sl7⟩) (c7 : PySem.W.codeIn K cd7 "_law_near" = true) (k7 : PySem.W.keepIn K (.ref f7) = true)
    (a8 : PySem.W.nsIn K mainGlobals "_law_content" = some (some (.ref f8))) (l8 : K.lookup f8 = some ⟨oc8, od8, .func (PySem.W.fnOf "_law_content" "_law_content" (defArgs s_law_content) (defBody s_law_content) (defScope s_law_content) .none kV8 dc8 pm8 an8 cd8 ct8), sl8⟩) (c8 : PySem.W.codeIn K cd8 "_law_content" = true) (k8 : PySem.W.keepIn K (.ref f8) = true)
    (a9 : PySem.W.nsIn K mainGlobals "is_tuple" = some (some (.ref f9))) (l9 : K.lookup f9 = some ⟨oc9, od9, .func (PySem.W.fnOf "is_tuple" "is_tuple" (defArgs s_is_tuple) (defBody s_is_tuple) (defScope s_is_tuple) .none kV9 dc9 pm9 an9 cd9 ct9), sl9⟩) (c9 : PySem.W.codeIn K cd9 "is_tuple" = true) (k9 : PySem.W.keepIn K (.ref f9) = true)
    (a10 : PySem.W.nsIn K mainGlobals "is_number" = some (some (.ref f10))) (l10 : K.lookup f10 = some ⟨oc10, od10, .func (PySem.W.fnOf "is_number" "is_number" (defArgs s_is_number) (defBody s_is_number) (defScope s_is_number) .none kV10 dc10 pm10 an10 cd10 ct10), sl10⟩) (c10 : PySem.W.codeIn K cd10 "is_number" = true) (k10 : PySem.W.keepIn K (.ref f10) = true)
    (a11 : PySem.W.nsIn K mainGlobals "is_bounded" = some (some (.ref f11))) (l11 : K.lookup f11 = some ⟨oc11, od11, .func (PySem.W.fnOf "is_bounded" "is_bounded" (defArgs s_is_bounded) (defBody s_is_bounded) (defScope s_is_bounded) .none kV11 dc11 pm11 an11 cd11 ct11), sl11⟩) (c11 : PySem.W.codeIn K cd11 "is_bounded" = true) (k11 : PySem.W.keepIn K (.ref f11) = true)
    (a12 : PySem.W.nsIn K mainGlobals "is_worth" = some (some (.ref f12))) (l12 : K.lookup f12 = some ⟨oc12, od12, .func (PySem.W.fnOf "is_worth" "is_worth" (defArgs s_is_worth) (defBody s_is_worth) (defScope s_is_worth) .none kV12 dc12 pm12 an12 cd12 ct12), sl12⟩) (c12 : PySem.W.codeIn K cd12 "is_worth" = true) (k12 : PySem.W.keepIn K (.ref f12) = true)
    (a13 : PySem.W.nsIn K mainGlobals "is_row" = some (some (.ref f13))) (l13 : K.lookup f13 = some ⟨oc13, od13, .func (PySem.W.fnOf "is_row" "is_row" (defArgs s_is_row) (defBody s_is_row) (defScope s_is_row) .none kV13 dc13 pm13 an13 cd13 ct13), sl13⟩) (c13 : PySem.W.codeIn K cd13 "is_row" = true) (k13 : PySem.W.keepIn K (.ref f13) = true)
    (a14 : PySem.W.nsIn K mainGlobals "table_names" = some (some (.ref f14))) (l14 : K.lookup f14 = some ⟨oc14, od14, .func (PySem.W.fnOf "table_names" "table_names" (defArgs s_table_names) (defBody s_table_names) (defScope s_table_names) .none kV14 dc14 pm14 an14 cd14 ct14), sl14⟩) (c14 : PySem.W.codeIn K cd14 "table_names" = true) (k14 : PySem.W.keepIn K (.ref f14) = true)
    (a15 : PySem.W.nsIn K mainGlobals "_columns_of" = some (some (.ref f15))) (l15 : K.lookup f15 = some ⟨oc15, od15, .func (PySem.W.fnOf "_columns_of" "_columns_of" (defArgs s_columns_of) (defBody s_columns_of) (defScope s_columns_of) .none kV15 dc15 pm15 an15 cd15 ct15), sl15⟩) (c15 : PySem.W.codeIn K cd15 "_columns_of" = true) (k15 : PySem.W.keepIn K (.ref f15) = true)
    (a16 : PySem.W.nsIn K mainGlobals "column_names" = some (some (.ref f16))) (l16 : K.lookup f16 = some ⟨oc16, od16, .func (PySem.W.fnOf "column_names" "column_names" (defArgs s_column_names) (defBody s_column_names) (defScope s_column_names) .none kV16 dc16 pm16 an16 cd16 ct16), sl16⟩) (c16 : PySem.W.codeIn K cd16 "column_names" = true) (k16 : PySem.W.keepIn K (.ref f16) = true)
    (a17 : PySem.W.nsIn K mainGlobals "_law_deed" = some (some (.ref f17))) (l17 : K.lookup f17 = some ⟨oc17, od17, .func (PySem.W.fnOf "_law_deed" "_law_deed" (defArgs s_law_deed) (defBody s_law_deed) (defScope s_law_deed) .none kV17 dc17 pm17 an17 cd17 ct17), sl17⟩) (c17 : PySem.W.codeIn K cd17 "_law_deed" = true) (k17 : PySem.W.keepIn K (.ref f17) = true)
    (a18 : PySem.W.nsIn K mainGlobals "_is_cell" = some (some (.ref f18))) (l18 : K.lookup f18 = some ⟨oc18, od18, .func (PySem.W.fnOf "_is_cell" "_is_cell" (defArgs s_is_cell) (defBody s_is_cell) (defScope s_is_cell) .none kV18 dc18 pm18 an18 cd18 ct18), sl18⟩) (c18 : PySem.W.codeIn K cd18 "_is_cell" = true) (k18 : PySem.W.keepIn K (.ref f18) = true)
    (a19 : PySem.W.nsIn K mainGlobals "is_deed" = some (some (.ref f19))) (l19 : K.lookup f19 = some ⟨oc19, od19, .func (PySem.W.fnOf "is_deed" "is_deed" (defArgs s_is_deed) (defBody s_is_deed) (defScope s_is_deed) .none kV19 dc19 pm19 an19 cd19 ct19), sl19⟩) (c19 : PySem.W.codeIn K cd19 "is_deed" = true) (k19 : PySem.W.keepIn K (.ref f19) = true)
    (a20 : PySem.W.nsIn K mainGlobals "_is_rows" = some (some (.ref f20))) (l20 : K.lookup f20 = some ⟨oc20, od20, .func (PySem.W.fnOf "_is_rows" "_is_rows" (defArgs s_is_rows) (defBody s_is_rows) (defScope s_is_rows) .none kV20 dc20 pm20 an20 cd20 ct20), sl20⟩) (c20 : PySem.W.codeIn K cd20 "_is_rows" = true) (k20 : PySem.W.keepIn K (.ref f20) = true)
    (a21 : PySem.W.nsIn K mainGlobals "is_content" = some (some (.ref f21))) (l21 : K.lookup f21 = some ⟨oc21, od21, .func (PySem.W.fnOf "is_content" "is_content" (defArgs s_is_content) (defBody s_is_content) (defScope s_is_content) .none kV21 dc21 pm21 an21 cd21 ct21), sl21⟩) (c21 : PySem.W.codeIn K cd21 "is_content" = true) (k21 : PySem.W.keepIn K (.ref f21) = true)
    (a22 : PySem.W.nsIn K mainGlobals "column_place" = some (some (.ref f22))) (l22 : K.lookup f22 = some ⟨oc22, od22, .func (PySem.W.fnOf "column_place" "column_place" (defArgs s_column_place) (defBody s_column_place) (defScope s_column_place) .none kV22 dc22 pm22 an22 cd22 ct22), sl22⟩) (c22 : PySem.W.codeIn K cd22 "column_place" = true) (k22 : PySem.W.keepIn K (.ref f22) = true)
    (a23 : PySem.W.nsIn K mainGlobals "table_place" = some (some (.ref f23))) (l23 : K.lookup f23 = some ⟨oc23, od23, .func (PySem.W.fnOf "table_place" "table_place" (defArgs s_table_place) (defBody s_table_place) (defScope s_table_place) .none kV23 dc23 pm23 an23 cd23 ct23), sl23⟩) (c23 : PySem.W.codeIn K cd23 "table_place" = true) (k23 : PySem.W.keepIn K (.ref f23) = true)
    (a24 : PySem.W.nsIn K mainGlobals "row_of" = some (some (.ref f24))) (l24 : K.lookup f24 = some ⟨oc24, od24, .func (PySem.W.fnOf "row_of" "row_of" (defArgs s_row_of) (defBody s_row_of) (defScope s_row_of) .none kV24 dc24 pm24 an24 cd24 ct24), sl24⟩) (c24 : PySem.W.codeIn K cd24 "row_of" = true) (k24 : PySem.W.keepIn K (.ref f24) = true)
    (a25 : PySem.W.nsIn K mainGlobals "rows_of" = some (some (.ref f25))) (l25 : K.lookup f25 = some ⟨oc25, od25, .func (PySem.W.fnOf "rows_of" "rows_of" (defArgs s_rows_of) (defBody s_rows_of) (defScope s_rows_of) .none kV25 dc25 pm25 an25 cd25 ct25), sl25⟩) (c25 : PySem.W.codeIn K cd25 "rows_of" = true) (k25 : PySem.W.keepIn K (.ref f25) = true)
    (a26 : PySem.W.nsIn K mainGlobals "_row_there" = some (some (.ref f26))) (l26 : K.lookup f26 = some ⟨oc26, od26, .func (PySem.W.fnOf "_row_there" "_row_there" (defArgs s_row_there) (defBody s_row_there) (defScope s_row_there) .none kV26 dc26 pm26 an26 cd26 ct26), sl26⟩) (c26 : PySem.W.codeIn K cd26 "_row_there" = true) (k26 : PySem.W.keepIn K (.ref f26) = true)
    (a27 : PySem.W.nsIn K mainGlobals "_rows_put" = some (some (.ref f27))) (l27 : K.lookup f27 = some ⟨oc27, od27, .func (PySem.W.fnOf "_rows_put" "_rows_put" (defArgs s_rows_put) (defBody s_rows_put) (defScope s_rows_put) .none kV27 dc27 pm27 an27 cd27 ct27), sl27⟩) (c27 : PySem.W.codeIn K cd27 "_rows_put" = true) (k27 : PySem.W.keepIn K (.ref f27) = true)
    (a28 : PySem.W.nsIn K mainGlobals "_rows_dropped" = some (some (.ref f28))) (l28 : K.lookup f28 = some ⟨oc28, od28, .func (PySem.W.fnOf "_rows_dropped" "_rows_dropped" (defArgs s_rows_dropped) (defBody s_rows_dropped) (defScope s_rows_dropped) .none kV28 dc28 pm28 an28 cd28 ct28), sl28⟩) (c28 : PySem.W.codeIn K cd28 "_rows_dropped" = true) (k28 : PySem.W.keepIn K (.ref f28) = true)
    (a29 : PySem.W.nsIn K mainGlobals "_cells_set" = some (some (.ref f29))) (l29 : K.lookup f29 = some ⟨oc29, od29, .func (PySem.W.fnOf "_cells_set" "_cells_set" (defArgs s_cells_set) (defBody s_cells_set) (defScope s_cells_set) .none kV29 dc29 pm29 an29 cd29 ct29), sl29⟩) (c29 : PySem.W.codeIn K cd29 "_cells_set" = true) (k29 : PySem.W.keepIn K (.ref f29) = true)
    (a30 : PySem.W.nsIn K mainGlobals "_rows_swept" = some (some (.ref f30))) (l30 : K.lookup f30 = some ⟨oc30, od30, .func (PySem.W.fnOf "_rows_swept" "_rows_swept" (defArgs s_rows_swept) (defBody s_rows_swept) (defScope s_rows_swept) .none kV30 dc30 pm30 an30 cd30 ct30), sl30⟩) (c30 : PySem.W.codeIn K cd30 "_rows_swept" = true) (k30 : PySem.W.keepIn K (.ref f30) = true)
    (a31 : PySem.W.nsIn K mainGlobals "_cells_shifted" = some (some (.ref f31))) (l31 : K.lookup f31 = some ⟨oc31, od31, .func (PySem.W.fnOf "_cells_shifted" "_cells_shifted" (defArgs s_cells_shifted) (defBody s_cells_shifted) (defScope s_cells_shifted) .none kV31 dc31 pm31 an31 cd31 ct31), sl31⟩) (c31 : PySem.W.codeIn K cd31 "_cells_shifted" = true) (k31 : PySem.W.keepIn K (.ref f31) = true)
    (a32 : PySem.W.nsIn K mainGlobals "own_part" = some (some (.ref f32))) (l32 : K.lookup f32 = some ⟨oc32, od32, .func (PySem.W.fnOf "own_part" "own_part" (defArgs s_own_part) (defBody s_own_part) (defScope s_own_part) .none kV32 dc32 pm32 an32 cd32 ct32), sl32⟩) (c32 : PySem.W.codeIn K cd32 "own_part" = true) (k32 : PySem.W.keepIn K (.ref f32) = true)
    (a33 : PySem.W.nsIn K mainGlobals "with_sets" = some (some (.ref f33))) (l33 : K.lookup f33 = some ⟨oc33, od33, .func (PySem.W.fnOf "with_sets" "with_sets" (defArgs s_with_sets) (defBody s_with_sets) (defScope s_with_sets) .none kV33 dc33 pm33 an33 cd33 ct33), sl33⟩) (c33 : PySem.W.codeIn K cd33 "with_sets" = true) (k33 : PySem.W.keepIn K (.ref f33) = true)
    (a34 : PySem.W.nsIn K mainGlobals "_risen" = some (some (.ref f34))) (l34 : K.lookup f34 = some ⟨oc34, od34, .func (PySem.W.fnOf "_risen" "_risen" (defArgs s_risen) (defBody s_risen) (defScope s_risen) .none kV34 dc34 pm34 an34 (.ref cR) ct34), sl34⟩) (c34 : PySem.W.codeIn K (.ref cR) "_risen" = true) (k34 : PySem.W.keepIn K (.ref f34) = true)
    (a35 : PySem.W.nsIn K mainGlobals "sets_by_row" = some (some (.ref f35))) (l35 : K.lookup f35 = some ⟨oc35, od35, .func (PySem.W.fnOf "sets_by_row" "sets_by_row" (defArgs s_sets_by_row) (defBody s_sets_by_row) (defScope s_sets_by_row) .none kV35 dc35 pm35 an35 cd35 ct35), sl35⟩) (c35 : PySem.W.codeIn K cd35 "sets_by_row" = true) (k35 : PySem.W.keepIn K (.ref f35) = true)
    (a36 : PySem.W.nsIn K mainGlobals "changed" = some (some (.ref f36))) (l36 : K.lookup f36 = some ⟨oc36, od36, .func (PySem.W.fnOf "changed" "changed" (defArgs s_changed) (defBody s_changed) (defScope s_changed) .none kV36 dc36 pm36 an36 cd36 ct36), sl36⟩) (c36 : PySem.W.codeIn K cd36 "changed" = true) (k36 : PySem.W.keepIn K (.ref f36) = true)
    (a37 : PySem.W.nsIn K mainGlobals "_law_behind" = some (some (.ref f37))) (l37 : K.lookup f37 = some ⟨oc37, od37, .func (PySem.W.fnOf "_law_behind" "_law_behind" (defArgs s_law_behind) (defBody s_law_behind) (defScope s_law_behind) .none kV37 dc37 pm37 an37 cd37 ct37), sl37⟩) (c37 : PySem.W.codeIn K cd37 "_law_behind" = true) (k37 : PySem.W.keepIn K (.ref f37) = true)
    (a38 : PySem.W.nsIn K mainGlobals "_law_done" = some (some (.ref f38))) (l38 : K.lookup f38 = some ⟨oc38, od38, .func (PySem.W.fnOf "_law_done" "_law_done" (defArgs s_law_done) (defBody s_law_done) (defScope s_law_done) .none kV38 dc38 pm38 an38 cd38 ct38), sl38⟩) (c38 : PySem.W.codeIn K cd38 "_law_done" = true) (k38 : PySem.W.keepIn K (.ref f38) = true)
    (a39 : PySem.W.nsIn K mainGlobals "_law_fine" = some (some (.ref f39))) (l39 : K.lookup f39 = some ⟨oc39, od39, .func (PySem.W.fnOf "_law_fine" "_law_fine" (defArgs s_law_fine) (defBody s_law_fine) (defScope s_law_fine) .none kV39 dc39 pm39 an39 cd39 ct39), sl39⟩) (c39 : PySem.W.codeIn K cd39 "_law_fine" = true) (k39 : PySem.W.keepIn K (.ref f39) = true)
    (a40 : PySem.W.nsIn K mainGlobals "_law_near_deed" = some (some (.ref f40))) (l40 : K.lookup f40 = some ⟨oc40, od40, .func (PySem.W.fnOf "_law_near_deed" "_law_near_deed" (defArgs s_law_near_deed) (defBody s_law_near_deed) (defScope s_law_near_deed) .none kV40 dc40 pm40 an40 cd40 ct40), sl40⟩) (c40 : PySem.W.codeIn K cd40 "_law_near_deed" = true) (k40 : PySem.W.keepIn K (.ref f40) = true)
    (a41 : PySem.W.nsIn K mainGlobals "_law_copied" = some (some (.ref f41))) (l41 : K.lookup f41 = some ⟨oc41, od41, .func (PySem.W.fnOf "_law_copied" "_law_copied" (defArgs s_law_copied) (defBody s_law_copied) (defScope s_law_copied) .none kV41 dc41 pm41 an41 cd41 ct41), sl41⟩) (c41 : PySem.W.codeIn K cd41 "_law_copied" = true) (k41 : PySem.W.keepIn K (.ref f41) = true)
    (a42 : PySem.W.nsIn K mainGlobals "law" = some (some (.ref f42))) (l42 : K.lookup f42 = some ⟨oc42, od42, .func (PySem.W.fnOf "law" "law" (defArgs s_law) (defBody s_law) (defScope s_law) .none kV42 dc42 pm42 an42 cd42 ct42), sl42⟩) (c42 : PySem.W.codeIn K cd42 "law" = true) (k42 : PySem.W.keepIn K (.ref f42) = true)
    (tb : h.get? Pt = some { cls := .none, data := .fields #[] })
    (hdR : PySem.W.codeHdIn K cR Pt = true)
    (nPt : K.lookup Pt = none)
    (z_list : PySem.W.nsIn K mainGlobals "list" = some none)
    (z_len : PySem.W.nsIn K mainGlobals "len" = some none)
    (z_divmod : PySem.W.nsIn K mainGlobals "divmod" = some none)
    (z_range : PySem.W.nsIn K mainGlobals "range" = some none)
    (z_min : PySem.W.nsIn K mainGlobals "min" = some none)
    (z_int : PySem.W.nsIn K mainGlobals "int" = some none)
    (z_bool : PySem.W.nsIn K mainGlobals "bool" = some none)
    (z_str : PySem.W.nsIn K mainGlobals "str" = some none)
    (z_tuple : PySem.W.nsIn K mainGlobals "tuple" = some none)
    (z_all : PySem.W.nsIn K mainGlobals "all" = some none)
    (z_any : PySem.W.nsIn K mainGlobals "any" = some none)
    (z_repr : PySem.W.nsIn K mainGlobals "repr" = some none)
    (z_isinstance : PySem.W.nsIn K mainGlobals "isinstance" = some none)
    (z_zip : PySem.W.nsIn K mainGlobals "zip" = some none)
    (z_enumerate : PySem.W.nsIn K mainGlobals "enumerate" = some none)
    (z_set : PySem.W.nsIn K mainGlobals "set" = some none)
    (z_sum : PySem.W.nsIn K mainGlobals "sum" = some none)
    (z_sorted : PySem.W.nsIn K mainGlobals "sorted" = some none)
    (z_max : PySem.W.nsIn K mainGlobals "max" = some none)
    (z_abs : PySem.W.nsIn K mainGlobals "abs" = some none)
    : LawAtG l w K 8 63 "script" mg fa h := by
  have e := hfa.symm.trans (PySem.W.mg_of X G a42)
  cases e
  have nb : NB mg := ⟨PySem.W.mg_none_of X G z_list, PySem.W.mg_none_of X G z_len, PySem.W.mg_none_of X G z_divmod, PySem.W.mg_none_of X G z_range, PySem.W.mg_none_of X G z_min, PySem.W.mg_none_of X G z_int, PySem.W.mg_none_of X G z_bool, PySem.W.mg_none_of X G z_str, PySem.W.mg_none_of X G z_tuple, PySem.W.mg_none_of X G z_all, PySem.W.mg_none_of X G z_any, PySem.W.mg_none_of X G z_repr, PySem.W.mg_none_of X G z_isinstance, PySem.W.mg_none_of X G z_zip, PySem.W.mg_none_of X G z_enumerate, PySem.W.mg_none_of X G z_set, PySem.W.mg_none_of X G z_sum, PySem.W.mg_none_of X G z_sorted, PySem.W.mg_none_of X G z_max⟩
  have TCT : OexG K CT := ⟨⟨_, _, _, _, nmTaken, qTaken, NTaken, bsTaken, _, snTaken, subTaken, abTaken, colTaken, ddTaken, m0Taken, m1Taken, m2Taken, m3Taken, m5Taken, PySem.F.excBase_ValueError, PySem.F.store_ValueError, xCT, tlCT⟩, saCT, exCT, tyCT, kkCT⟩
  have kxCT : KxC K CT := ⟨(let ⟨cd, hc, _⟩ := PySem.W.any_some hdCT; by rw [hc]; rfl), gaCT, ggCT, exCT, caCT, sp, tk, moCT, hdCT⟩
  have FCT := fun_mk (st := s_init_Taken) liCT ciCT kiCT
  have bCT := FCT.binds (ps := ["self", "table", "key"]) fun _ _ _ _ _ _ us hl => match us, hl with | [_, _, _], _ => rfl
  have TCN : OexG K CN := ⟨⟨_, _, _, _, nmNoRow, qNoRow, NNoRow, bsNoRow, _, snNoRow, subNoRow, abNoRow, colNoRow, ddNoRow, m0NoRow, m1NoRow, m2NoRow, m3NoRow, m5NoRow, PySem.F.excBase_ValueError, PySem.F.store_ValueError, xCN, tlCN⟩, saCN, exCN, tyCN, kkCN⟩
  have kxCN : KxC K CN := ⟨(let ⟨cd, hc, _⟩ := PySem.W.any_some hdCN; by rw [hc]; rfl), gaCN, ggCN, exCN, caCN, sp, tk, moCN, hdCN⟩
  have FCN := fun_mk (st := s_init_NoRow) liCN ciCN kiCN
  have bCN := FCN.binds (ps := ["self", "table", "key"]) fun _ _ _ _ _ _ us hl => match us, hl with | [_, _, _], _ => rfl
  have gc : GC mg := ⟨(let ⟨u, hu⟩ := g_MOST_NUMBER; ⟨u, PySem.W.mg_of X G hu⟩)⟩
  have gr : GR mg := ⟨(let ⟨u, hu⟩ := g_MOST_ROWS; ⟨u, PySem.W.mg_of X G hu⟩)⟩
  have gl : GL K w mg := ⟨⟨a_LENGTHS, es_LENGTHS, n_LENGTHS, PySem.W.mg_of X G t_LENGTHS, ⟨o_LENGTHS, kl_LENGTHS, sm_LENGTHS⟩, de_LENGTHS⟩⟩
  have ne : NK K mg CE CN CT := ⟨PySem.W.mg_of X G gCE, PySem.W.mg_of X G gCN, PySem.W.mg_of X G gCT, ⟨kxCN, PySem.W.exm_ref exE hdCE tyCE sNE, kit_self, kit_own (Ne.symm neTN) hdCT tyCT sNT⟩, ⟨kxCT, PySem.W.exm_ref exE hdCE tyCE sTE, kit_own neTN hdCN tyCN sTN, kit_self⟩⟩
  have nx : NX mg := ⟨PySem.W.mg_none_of X G z_abs⟩
  refine ⟨PySem.W.fnOf "law" "law" (defArgs s_law) (defBody s_law) (defScope s_law) .none kV42 dc42 pm42 an42 cd42 ct42, [(cR, Pt)], (spLaw K Pt), fun p hp => by rw [List.mem_singleton.mp hp]; exact tb, fun p hp => by rw [List.mem_singleton.mp hp]; exact nPt, fun p hp => by rw [List.mem_singleton.mp hp]; exact PySem.W.codeHd_of_K X hdR, fun s v => .of_eq rfl, fun H a ns hl hT hS => ⟨a, ns, rfl, hS, hT _ (List.mem_singleton_self _), fun _ => rfl⟩, fun base _ _ hTB => ?_⟩
  have TB := hTB (cR, Pt) (List.mem_singleton_self _)
  have NCT : Ers l.prog w K mg base "Taken" "table" "key" CT := ⟨TCT, PySem.W.mg_of X G gCT, ⟨fTaken, _, iiCT, tiCT, bCT, ok_init_Taken FCT TCT f1CT f2CT⟩⟩
  have NCN : Ers l.prog w K mg base "NoRow" "table" "key" CN := ⟨TCN, PySem.W.mg_of X G gCN, ⟨fNoRow, _, iiCN, tiCN, bCN, ok_init_NoRow FCN TCN f1CN f2CN⟩⟩
  have F1 := fun_mk (st := s_law_begin) l1 c1 k1
  have b1 := F1.binds (ps := ["script"]) fun _ _ _ _ _ _ us hl => match us, hl with | [_], _ => rfl
  have D_law_begin : Def l.prog w K mg base 1 "_law_begin" ["script"] (spBegin K) := .mk (PySem.W.mg_of X G a1) k1 b1 (ok_begin F1 nb)
  have F2 := fun_mk (st := s_law_take) l2 c2 k2
  have b2 := F2.binds (ps := ["state", "many"]) fun _ _ _ _ _ _ us hl => match us, hl with | [_, _], _ => rfl
  have D_law_take : Def l.prog w K mg base 1 "_law_take" ["state", "many"] spTake := .mk (PySem.W.mg_of X G a2) k2 b2 (ok_take F2 nb)
  have F3 := fun_mk (st := s_law_some) l3 c3 k3
  have b3 := F3.binds (ps := ["state", "things"]) fun _ _ _ _ _ _ us hl => match us, hl with | [_, _], _ => rfl
  have D_law_some : Def l.prog w K mg base 2 "_law_some" ["state", "things"] (spSome K) := .mk (PySem.W.mg_of X G a3) k3 b3 (ok_some F3 nb D_law_take)
  have F4 := fun_mk (st := s_law_names) l4 c4 k4
  have b4 := F4.binds (ps := ["state", "many"]) fun _ _ _ _ _ _ us hl => match us, hl with | [_, _], _ => rfl
  have D_law_names : Def l.prog w K mg base 2 "_law_names" ["state", "many"] spNames := .mk (PySem.W.mg_of X G a4) k4 b4 (ok_names F4 nb D_law_take)
  have F5 := fun_mk (st := s_law_worth) l5 c5 k5
  have b5 := F5.binds (ps := ["state"]) fun _ _ _ _ _ _ us hl => match us, hl with | [_], _ => rfl
  have D_law_worth : Def l.prog w K mg base 2 "_law_worth" ["state"] spWorth := .mk (PySem.W.mg_of X G a5) k5 b5 (ok_worth F5 D_law_take)
  have F6 := fun_mk (st := s_law_tables) l6 c6 k6
  have b6 := F6.binds (ps := ["state", "many", "wide"]) fun _ _ _ _ _ _ us hl => match us, hl with | [_, _, _], _ => rfl
  have D_law_tables : Def l.prog w K mg base 3 "_law_tables" ["state", "many", "wide"] (spTables K) := .mk (PySem.W.mg_of X G a6) k6 b6 (ok_tables F6 nb D_law_take D_law_names D_law_worth)
  have F7 := fun_mk (st := s_law_near) l7 c7 k7
  have b7 := F7.binds (ps := ["state", "low", "many"]) fun _ _ _ _ _ _ us hl => match us, hl with | [_, _, _], _ => rfl
  have D_law_near : Def l.prog w K mg base 3 "_law_near" ["state", "low", "many"] spNear := .mk (PySem.W.mg_of X G a7) k7 b7 (ok_near F7 nb D_law_take D_law_worth)
  have F8 := fun_mk (st := s_law_content) l8 c8 k8
  have b8 := F8.binds (ps := ["state", "tables", "many"]) fun _ _ _ _ _ _ us hl => match us, hl with | [_, _, _], _ => rfl
  have D_law_content : Def l.prog w K mg base 4 "_law_content" ["state", "tables", "many"] (spContent K) := .mk (PySem.W.mg_of X G a8) k8 b8 (ok_content F8 nb D_law_take D_law_near)
  have F9 := fun_mk (st := s_is_tuple) l9 c9 k9
  have b9 := F9.binds (ps := ["thing", "least", "most"]) fun _ _ _ _ _ _ us hl => match us, hl with | [_, _, _], _ => rfl
  have D_is_tuple : Def l.prog w K mg base 1 "is_tuple" ["thing", "least", "most"] (spTup K) := .mk (PySem.W.mg_of X G a9) k9 b9 (ok_is_tuple F9 nb)
  have F10 := fun_mk (st := s_is_number) l10 c10 k10
  have b10 := F10.binds (ps := ["thing"]) fun _ _ _ _ _ _ us hl => match us, hl with | [_], _ => rfl
  have D_is_number : Def l.prog w K mg base 1 "is_number" ["thing"] (spB numB K) := .mk (PySem.W.mg_of X G a10) k10 b10 (ok_is_number F10 nb)
  have F11 := fun_mk (st := s_is_bounded) l11 c11 k11
  have b11 := F11.binds (ps := ["thing"]) fun _ _ _ _ _ _ us hl => match us, hl with | [_], _ => rfl
  have D_is_bounded : Def l.prog w K mg base 2 "is_bounded" ["thing"] (spB boundB K) := .mk (PySem.W.mg_of X G a11) k11 b11 (ok_is_bounded F11 gc D_is_number)
  have F12 := fun_mk (st := s_is_worth) l12 c12 k12
  have b12 := F12.binds (ps := ["thing"]) fun _ _ _ _ _ _ us hl => match us, hl with | [_], _ => rfl
  have D_is_worth : Def l.prog w K mg base 3 "is_worth" ["thing"] (spB worthB K) := .mk (PySem.W.mg_of X G a12) k12 b12 (ok_is_worth F12 D_is_bounded)
  have F13 := fun_mk (st := s_is_row) l13 c13 k13
  have b13 := F13.binds (ps := ["width", "thing"]) fun _ _ _ _ _ _ us hl => match us, hl with | [_, _], _ => rfl
  have D_is_row : Def l.prog w K mg base 4 "is_row" ["width", "thing"] (spRow K) := .mk (PySem.W.mg_of X G a13) k13 b13 (ok_is_row F13 nb D_is_tuple D_is_worth)
  have F14 := fun_mk (st := s_table_names) l14 c14 k14
  have b14 := F14.binds (ps := ["tables"]) fun _ _ _ _ _ _ us hl => match us, hl with | [_], _ => rfl
  have D_table_names : Def l.prog w K mg base 1 "table_names" ["tables"] (spNamesOf K) := .mk (PySem.W.mg_of X G a14) k14 b14 (ok_table_names F14)
  have F15 := fun_mk (st := s_columns_of) l15 c15 k15
  have b15 := F15.binds (ps := ["tables", "table"]) fun _ _ _ _ _ _ us hl => match us, hl with | [_, _], _ => rfl
  have D_columns_of : Def l.prog w K mg base 1 "_columns_of" ["tables", "table"] (spColumnsOf K) := .mk (PySem.W.mg_of X G a15) k15 b15 (ok_columns_of F15)
  have F16 := fun_mk (st := s_column_names) l16 c16 k16
  have b16 := F16.binds (ps := ["tables", "table"]) fun _ _ _ _ _ _ us hl => match us, hl with | [_, _], _ => rfl
  have D_column_names : Def l.prog w K mg base 2 "column_names" ["tables", "table"] (spColNames K) := .mk (PySem.W.mg_of X G a16) k16 b16 (ok_column_names F16 D_columns_of)
  have F17 := fun_mk (st := s_law_deed) l17 c17 k17
  have b17 := F17.binds (ps := ["state", "tables", "content"]) fun _ _ _ _ _ _ us hl => match us, hl with | [_, _, _], _ => rfl
  have D_law_deed : Def l.prog w K mg base 4 "_law_deed" ["state", "tables", "content"] (spDeed K) := .mk (PySem.W.mg_of X G a17) k17 b17 (ok_deed F17 nb D_law_take D_law_some D_law_near)
  have F18 := fun_mk (st := s_is_cell) l18 c18 k18
  have b18 := F18.binds (ps := ["columns", "column", "worth"]) fun _ _ _ _ _ _ us hl => match us, hl with | [_, _, _], _ => rfl
  have D_is_cell : Def l.prog w K mg base 4 "_is_cell" ["columns", "column", "worth"] (spCell K) := .mk (PySem.W.mg_of X G a18) k18 b18 (ok_is_cell F18 D_is_bounded D_is_worth)
  have F19 := fun_mk (st := s_is_deed) l19 c19 k19
  have b19 := F19.binds (ps := ["tables", "thing"]) fun _ _ _ _ _ _ us hl => match us, hl with | [_, _], _ => rfl
  have D_is_deed : Def l.prog w K mg base 5 "is_deed" ["tables", "thing"] (spTs deedB K) := .mk (PySem.W.mg_of X G a19) k19 b19 (ok_is_deed F19 nb gl D_is_tuple D_is_bounded D_is_worth D_table_names D_column_names D_is_row D_is_cell)
  have F20 := fun_mk (st := s_is_rows) l20 c20 k20
  have b20 := F20.binds (ps := ["width", "thing"]) fun _ _ _ _ _ _ us hl => match us, hl with | [_, _], _ => rfl
  have D_is_rows : Def l.prog w K mg base 5 "_is_rows" ["width", "thing"] (spRows K) := .mk (PySem.W.mg_of X G a20) k20 b20 (ok_is_rows F20 nb D_is_row)
  have F21 := fun_mk (st := s_is_content) l21 c21 k21
  have b21 := F21.binds (ps := ["tables", "thing"]) fun _ _ _ _ _ _ us hl => match us, hl with | [_, _], _ => rfl
  have D_is_content : Def l.prog w K mg base 6 "is_content" ["tables", "thing"] (spT contB K) := .mk (PySem.W.mg_of X G a21) k21 b21 (ok_is_content F21 nb gr D_is_rows)
  have F22 := fun_mk (st := s_column_place) l22 c22 k22
  have b22 := F22.binds (ps := ["tables", "table", "column"]) fun _ _ _ _ _ _ us hl => match us, hl with | [_, _, _], _ => rfl
  have D_column_place : Def l.prog w K mg base 3 "column_place" ["tables", "table", "column"] (spColPlace K) := .mk (PySem.W.mg_of X G a22) k22 b22 (ok_column_place F22 D_column_names)
  have F23 := fun_mk (st := s_table_place) l23 c23 k23
  have b23 := F23.binds (ps := ["tables", "table"]) fun _ _ _ _ _ _ us hl => match us, hl with | [_, _], _ => rfl
  have D_table_place : Def l.prog w K mg base 2 "table_place" ["tables", "table"] (spTabPlace K) := .mk (PySem.W.mg_of X G a23) k23 b23 (ok_table_place F23 D_table_names)
  have F24 := fun_mk (st := s_row_of) l24 c24 k24
  have b24 := F24.binds (ps := ["tables", "content", "table", "key"]) fun _ _ _ _ _ _ us hl => match us, hl with | [_, _, _, _], _ => rfl
  have D_row_of : Def l.prog w K mg base 3 "row_of" ["tables", "content", "table", "key"] (spRowOf K) := .mk (PySem.W.mg_of X G a24) k24 b24 (ok_row_of F24 nb D_table_place)
  have F25 := fun_mk (st := s_rows_of) l25 c25 k25
  have b25 := F25.binds (ps := ["tables", "content", "table"]) fun _ _ _ _ _ _ us hl => match us, hl with | [_, _, _], _ => rfl
  have D_rows_of : Def l.prog w K mg base 3 "rows_of" ["tables", "content", "table"] (spRowsOf K) := .mk (PySem.W.mg_of X G a25) k25 b25 (ok_rows_of F25 nb D_table_place)
  have F26 := fun_mk (st := s_row_there) l26 c26 k26
  have b26 := F26.binds (ps := ["tables", "content", "table", "key"]) fun _ _ _ _ _ _ us hl => match us, hl with | [_, _, _, _], _ => rfl
  have D_row_thereX : DefX l.prog w K mg base 4 "_row_there" ["tables", "content", "table", "key"] (spRowThere K CN) := ⟨f26, _, PySem.W.mg_of X G a26, k26, b26, (ok_row_there NCN F26 D_row_of)⟩
  have D_row_there := D_row_thereX
  have F27 := fun_mk (st := s_rows_put) l27 c27 k27
  have b27 := F27.binds (ps := ["tables", "content", "deed"]) fun _ _ _ _ _ _ us hl => match us, hl with | [_, _, _], _ => rfl
  have D_rows_putX : DefX l.prog w K mg base 4 "_rows_put" ["tables", "content", "deed"] (spPart K CT "put" rPut noPut) := ⟨f27, _, PySem.W.mg_of X G a27, k27, b27, (ok_rows_put NCT F27 nb D_row_of)⟩
  have D_rows_put := D_rows_putX
  have F28 := fun_mk (st := s_rows_dropped) l28 c28 k28
  have b28 := F28.binds (ps := ["tables", "content", "deed"]) fun _ _ _ _ _ _ us hl => match us, hl with | [_, _, _], _ => rfl
  have D_rows_droppedX : DefX l.prog w K mg base 5 "_rows_dropped" ["tables", "content", "deed"] (spPart K CN "drop" rDrop noRow') := ⟨f28, _, PySem.W.mg_of X G a28, k28, b28, (ok_rows_dropped F28 D_row_there)⟩
  have D_rows_dropped := D_rows_droppedX
  have F29 := fun_mk (st := s_cells_set) l29 c29 k29
  have b29 := F29.binds (ps := ["tables", "content", "deed"]) fun _ _ _ _ _ _ us hl => match us, hl with | [_, _, _], _ => rfl
  have D_cells_setX : DefX l.prog w K mg base 5 "_cells_set" ["tables", "content", "deed"] (spPart K CN "set" rSet noRow') := ⟨f29, _, PySem.W.mg_of X G a29, k29, b29, (ok_cells_set F29 D_row_there D_column_place)⟩
  have D_cells_set := D_cells_setX
  have F30 := fun_mk (st := s_rows_swept) l30 c30 k30
  have b30 := F30.binds (ps := ["tables", "content", "deed"]) fun _ _ _ _ _ _ us hl => match us, hl with | [_, _, _], _ => rfl
  have D_rows_sweptX : DefX l.prog w K mg base 4 "_rows_swept" ["tables", "content", "deed"] (spPart K CN "sweep" rSweep noNo) := ⟨f30, _, PySem.W.mg_of X G a30, k30, b30, (ok_rows_swept F30 D_column_place D_rows_of)⟩
  have D_rows_swept := D_rows_sweptX
  have F31 := fun_mk (st := s_cells_shifted) l31 c31 k31
  have b31 := F31.binds (ps := ["tables", "content", "deed"]) fun _ _ _ _ _ _ us hl => match us, hl with | [_, _, _], _ => rfl
  have D_cells_shiftedX : DefX l.prog w K mg base 4 "_cells_shifted" ["tables", "content", "deed"] (spPart K CN "shift" rShift noNo) := ⟨f31, _, PySem.W.mg_of X G a31, k31, b31, (ok_cells_shifted F31 D_column_place D_rows_of)⟩
  have D_cells_shifted := D_cells_shiftedX
  have F32 := fun_mk (st := s_own_part) l32 c32 k32
  have b32 := F32.binds (ps := ["tables", "content", "deed"]) fun _ _ _ _ _ _ us hl => match us, hl with | [_, _, _], _ => rfl
  have D_own_partX : DefX l.prog w K mg base 6 "own_part" ["tables", "content", "deed"] (spOwn K CN CT) := ⟨f32, _, PySem.W.mg_of X G a32, k32, b32, (ok_own_part F32 D_rows_put D_rows_dropped D_cells_set D_rows_swept D_cells_shifted)⟩
  have D_own_part := D_own_partX
  have F33 := fun_mk (st := s_with_sets) l33 c33 k33
  have b33 := F33.binds (ps := ["row", "sets"]) fun _ _ _ _ _ _ us hl => match us, hl with | [_, _], _ => rfl
  have D_with_sets : Def l.prog w K mg base 1 "with_sets" ["row", "sets"] (spWithSets K) := .mk (PySem.W.mg_of X G a33) k33 b33 (ok_with_sets F33 nb)
  have F34 := fun_mk (st := s_risen) l34 c34 k34
  have b34 := F34.binds (ps := ["table", "rows"]) fun _ _ _ _ _ _ us hl => match us, hl with | [_, _], _ => rfl
  have D_risenX : DefX l.prog w K mg base 3 "_risen" ["table", "rows"] (spRisen K Pt CT) := ⟨f34, _, PySem.W.mg_of X G a34, k34, b34, (ok_risen NCT (show FunC K "_risen" "_risen" s_risen cR f34 _ from ⟨⟨_, _, _, _, _, _, _, _, rfl, l34, c34⟩⟩) nb TB)⟩
  have D_risen := D_risenX
  have F35 := fun_mk (st := s_sets_by_row) l35 c35 k35
  have b35 := F35.binds (ps := ["tables", "cells"]) fun _ _ _ _ _ _ us hl => match us, hl with | [_, _], _ => rfl
  have D_sets_by_row : Def l.prog w K mg base 4 "sets_by_row" ["tables", "cells"] (spSetsBy K) := .mk (PySem.W.mg_of X G a35) k35 b35 (ok_sets_by_row F35 D_column_place)
  have F36 := fun_mk (st := s_changed) l36 c36 k36
  have b36 := F36.binds (ps := ["tables", "content", "gone", "cells", "rows"]) fun _ _ _ _ _ _ us hl => match us, hl with | [_, _, _, _, _], _ => rfl
  have D_changedX : DefX l.prog w K mg base 5 "changed" ["tables", "content", "gone", "cells", "rows"] (spChanged K Pt CT) := ⟨f36, _, PySem.W.mg_of X G a36, k36, b36, (ok_changed F36 nb D_table_names D_rows_of D_sets_by_row D_with_sets D_risenX)⟩
  have D_changed := D_changedX
  have F37 := fun_mk (st := s_law_behind) l37 c37 k37
  have b37 := F37.binds (ps := ["tables", "content", "deed"]) fun _ _ _ _ _ _ us hl => match us, hl with | [_, _, _], _ => rfl
  have D_law_behind : Def l.prog w K mg base 1 "_law_behind" ["tables", "content", "deed"] (spBehind K) := .mk (PySem.W.mg_of X G a37) k37 b37 (ok_behind F37 nb)
  have F38 := fun_mk (st := s_law_done) l38 c38 k38
  have b38 := F38.binds (ps := ["tables", "content", "deed"]) fun _ _ _ _ _ _ us hl => match us, hl with | [_, _, _], _ => rfl
  have D_law_done : Def l.prog w K mg base 7 "_law_done" ["tables", "content", "deed"] (spDone K Pt) := .mk (PySem.W.mg_of X G a38) k38 b38 (ok_done ne F38 nb D_own_part D_changed)
  have F39 := fun_mk (st := s_law_fine) l39 c39 k39
  have b39 := F39.binds (ps := ["content"]) fun _ _ _ _ _ _ us hl => match us, hl with | [_], _ => rfl
  have D_law_fine : Def l.prog w K mg base 1 "_law_fine" ["content"] (spFine K) := .mk (PySem.W.mg_of X G a39) k39 b39 (ok_fine F39 nb nx)
  have F40 := fun_mk (st := s_law_near_deed) l40 c40 k40
  have b40 := F40.binds (ps := ["state", "tables", "content"]) fun _ _ _ _ _ _ us hl => match us, hl with | [_, _, _], _ => rfl
  have D_law_near_deed : Def l.prog w K mg base 6 "_law_near_deed" ["state", "tables", "content"] (spNearDeed K) := .mk (PySem.W.mg_of X G a40) k40 b40 (ok_near_deed F40 nb D_law_take D_law_deed D_is_deed)
  have F41 := fun_mk (st := s_law_copied) l41 c41 k41
  have b41 := F41.binds (ps := ["content"]) fun _ _ _ _ _ _ us hl => match us, hl with | [_], _ => rfl
  have D_law_copied : Def l.prog w K mg base 1 "_law_copied" ["content"] (spCopied K) := .mk (PySem.W.mg_of X G a41) k41 b41 (ok_copied F41 nb)
  have F42 := fun_mk (st := s_law) l42 c42 k42
  exact ok_law F42 nb D_law_begin D_law_take D_law_tables D_law_content D_law_near_deed D_law_behind D_law_copied D_law_done D_law_fine D_is_content D_row_of
end TT
open PySem PySem.W PyProof.Rows
set_option maxRecDepth 100000 in
set_option maxHeartbeats 0 in
theorem PySem.Challenge.cw_tiedtables_k08_deeds_walked_holds : PySem.Challenge.rw_tiedtables_k08_deeds_walked.Holds := by
  w_on; o_law; k_head; (case hw => w_witness2)
  k_fill
  refine TT.walk_ofGT (l := PySem.Challenge.rw_tiedtables_k08_deeds_walked) (n := 63) (k := 8) (x := "script") rfl (by decide) rfl ⟨rfl, by decide, by decide⟩ (fun w h Y => PySem.W.km_in_of Y) ?F
  case F =>
    intro w mg fa h Y KX G hmg
    refine' TT.all_mk KX G hmg ?gCT ?hdCT ?tyCT ?gCN ?hdCN ?tyCN ?gCE ?hdCE ?tyCE ?xCT ?tlCT ?saCT ?exCT ?kkCT ?iiCT ?tiCT ?liCT ?ciCT ?kiCT ?f1CT ?f2CT ?gaCT ?ggCT ?caCT ?moCT ?xCN ?tlCN ?saCN ?exCN ?kkCN ?iiCN ?tiCN ?liCN ?ciCN ?kiCN ?f1CN ?f2CN ?gaCN ?ggCN ?caCN ?moCN ?sp ?tk ?exE ?sTE ?sNE ?sNT ?sTN ?neTN ?g_MOST_NUMBER ?g_MOST_ROWS ?t_LENGTHS ?o_LENGTHS ?kl_LENGTHS ?sm_LENGTHS ?de_LENGTHS ?a1 ?l1 ?c1 ?k1 ?a2 ?l2 ?c2 ?k2 ?a3 ?l3 ?c3 ?k3 ?a4 ?l4 ?c4 ?k4 ?a5 ?l5 ?c5 ?k5 ?a6 ?l6 ?c6 ?k6 ?a7 ?l7 ?c7 ?k7 ?a8 ?l8 ?c8 ?k8 ?a9 ?l9 ?c9 ?k9 ?a10 ?l10 ?c10 ?k10 ?a11 ?l11 ?c11 ?k11 ?a12 ?l12 ?c12 ?k12 ?a13 ?l13 ?c13 ?k13 ?a14 ?l14 ?c14 ?k14 ?a15 ?l15 ?c15 ?k15 ?a16 ?l16 ?c16 ?k16 ?a17 ?l17 ?c17 ?k17 ?a18 ?l18 ?c18 ?k18 ?a19 ?l19 ?c19 ?k19 ?a20 ?l20 ?c20 ?k20 ?a21 ?l21 ?c21 ?k21 ?a22 ?l22 ?c22 ?k22 ?a23 ?l23 ?c23 ?k23 ?a24 ?l24 ?c24 ?k24 ?a25 ?l25 ?c25 ?k25 ?a26 ?l26 ?c26 ?k26 ?a27 ?l27 ?c27 ?k27 ?a28 ?l28 ?c28 ?k28 ?a29 ?l29 ?c29 ?k29 ?a30 ?l30 ?c30 ?k30 ?a31 ?l31 ?c31 ?k31 ?a32 ?l32 ?c32 ?k32 ?a33 ?l33 ?c33 ?k33 ?a34 ?l34 ?c34 ?k34 ?a35 ?l35 ?c35 ?k35 ?a36 ?l36 ?c36 ?k36 ?a37 ?l37 ?c37 ?k37 ?a38 ?l38 ?c38 ?k38 ?a39 ?l39 ?c39 ?k39 ?a40 ?l40 ?c40 ?k40 ?a41 ?l41 ?c41 ?k41 ?a42 ?l42 ?c42 ?k42 ?tb ?hdR ?nPt ?z_list ?z_len ?z_divmod ?z_range ?z_min ?z_int ?z_bool ?z_str ?z_tuple ?z_all ?z_any ?z_repr ?z_isinstance ?z_zip ?z_enumerate ?z_set ?z_sum ?z_sorted ?z_max ?z_abs
    (case gCT => k_is)
    (case hdCT => k_is)
    (case tyCT => k_is)
    (case gCN => k_is)
    (case hdCN => k_is)
    (case tyCN => k_is)
    (case gCE => k_is)
    (case hdCE => k_is)
    (case tyCE => k_is)
    (case xCT => k_is)
    (case tlCT => decide +kernel)
    (case saCT => k_is)
    (case exCT => k_is)
    (case kkCT => k_is)
    (case iiCT => k_is)
    (case tiCT => k_is)
    (case liCT => k_is)
    (case ciCT => k_is)
    (case kiCT => k_is)
    (case f1CT => k_is)
    (case f2CT => k_is)
    (case gaCT => k_is)
    (case ggCT => k_is)
    (case caCT => k_is)
    (case moCT => k_is)
    (case xCN => k_is)
    (case tlCN => decide +kernel)
    (case saCN => k_is)
    (case exCN => k_is)
    (case kkCN => k_is)
    (case iiCN => k_is)
    (case tiCN => k_is)
    (case liCN => k_is)
    (case ciCN => k_is)
    (case kiCN => k_is)
    (case f1CN => k_is)
    (case f2CN => k_is)
    (case gaCN => k_is)
    (case ggCN => k_is)
    (case caCN => k_is)
    (case moCN => k_is)
    (case sp => k_is)
    (case tk => k_is)
    (case exE => k_is)
    (case sTE => k_is)
    (case sNE => k_is)
    (case sNT => k_is)
    (case sTN => k_is)
    (case neTN => decide)
    (case g_MOST_NUMBER => exact ⟨_, by k_is⟩)
    (case g_MOST_ROWS => exact ⟨_, by k_is⟩)
    (case t_LENGTHS => k_is)
    (case o_LENGTHS => k_is)
    (case kl_LENGTHS => exact ⟨⟨_, _, rfl, rfl⟩, ⟨⟨_, _, rfl, rfl⟩, ⟨⟨_, _, rfl, rfl⟩, ⟨⟨_, _, rfl, rfl⟩, ⟨⟨_, _, rfl, rfl⟩, trivial⟩⟩⟩⟩⟩)
    (case sm_LENGTHS => rfl)
    (case de_LENGTHS => exact .cons ⟨_, rfl⟩ ⟨_, rfl⟩ (.cons ⟨_, rfl⟩ ⟨_, rfl⟩ (.cons ⟨_, rfl⟩ ⟨_, rfl⟩ (.cons ⟨_, rfl⟩ ⟨_, rfl⟩ (.cons ⟨_, rfl⟩ ⟨_, rfl⟩ (.nil))))))
    (case a1 => k_is)
    (case l1 => k_is)
    (case c1 => k_is)
    (case k1 => k_is)
    (case a2 => k_is)
    (case l2 => k_is)
    (case c2 => k_is)
    (case k2 => k_is)
    (case a3 => k_is)
    (case l3 => k_is)
    (case c3 => k_is)
    (case k3 => k_is)
    (case a4 => k_is)
    (case l4 => k_is)
    (case c4 => k_is)
    (case k4 => k_is)
    (case a5 => k_is)
    (case l5 => k_is)
    (case c5 => k_is)
    (case k5 => k_is)
    (case a6 => k_is)
    (case l6 => k_is)
    (case c6 => k_is)
    (case k6 => k_is)
    (case a7 => k_is)
    (case l7 => k_is)
    (case c7 => k_is)
    (case k7 => k_is)
    (case a8 => k_is)
    (case l8 => k_is)
    (case c8 => k_is)
    (case k8 => k_is)
    (case a9 => k_is)
    (case l9 => k_is)
    (case c9 => k_is)
    (case k9 => k_is)
    (case a10 => k_is)
    (case l10 => k_is)
    (case c10 => k_is)
    (case k10 => k_is)
    (case a11 => k_is)
    (case l11 => k_is)
    (case c11 => k_is)
    (case k11 => k_is)
    (case a12 => k_is)
    (case l12 => k_is)
    (case c12 => k_is)
    (case k12 => k_is)
    (case a13 => k_is)
    (case l13 => k_is)
    (case c13 => k_is)
    (case k13 => k_is)
    (case a14 => k_is)
    (case l14 => k_is)
    (case c14 => k_is)
    (case k14 => k_is)
    (case a15 => k_is)
    (case l15 => k_is)
    (case c15 => k_is)
    (case k15 => k_is)
    (case a16 => k_is)
    (case l16 => k_is)
    (case c16 => k_is)
    (case k16 => k_is)
    (case a17 => k_is)
    (case l17 => k_is)
    (case c17 => k_is)
    (case k17 => k_is)
    (case a18 => k_is)
    (case l18 => k_is)
    (case c18 => k_is)
    (case k18 => k_is)
    (case a19 => k_is)
    (case l19 => k_is)
    (case c19 => k_is)
    (case k19 => k_is)
    (case a20 => k_is)
    (case l20 => k_is)
    (case c20 => k_is)
    (case k20 => k_is)
    (case a21 => k_is)
    (case l21 => k_is)
    (case c21 => k_is)
    (case k21 => k_is)
    (case a22 => k_is)
    (case l22 => k_is)
    (case c22 => k_is)
    (case k22 => k_is)
    (case a23 => k_is)
    (case l23 => k_is)
    (case c23 => k_is)
    (case k23 => k_is)
    (case a24 => k_is)
    (case l24 => k_is)
    (case c24 => k_is)
    (case k24 => k_is)
    (case a25 => k_is)
    (case l25 => k_is)
    (case c25 => k_is)
    (case k25 => k_is)
    (case a26 => k_is)
    (case l26 => k_is)
    (case c26 => k_is)
    (case k26 => k_is)
    (case a27 => k_is)
    (case l27 => k_is)
    (case c27 => k_is)
    (case k27 => k_is)
    (case a28 => k_is)
    (case l28 => k_is)
    (case c28 => k_is)
    (case k28 => k_is)
    (case a29 => k_is)
    (case l29 => k_is)
    (case c29 => k_is)
    (case k29 => k_is)
    (case a30 => k_is)
    (case l30 => k_is)
    (case c30 => k_is)
    (case k30 => k_is)
    (case a31 => k_is)
    (case l31 => k_is)
    (case c31 => k_is)
    (case k31 => k_is)
    (case a32 => k_is)
    (case l32 => k_is)
    (case c32 => k_is)
    (case k32 => k_is)
    (case a33 => k_is)
    (case l33 => k_is)
    (case c33 => k_is)
    (case k33 => k_is)
    (case a34 => k_is)
    (case l34 => k_is)
    (case c34 => k_is)
    (case k34 => k_is)
    (case a35 => k_is)
    (case l35 => k_is)
    (case c35 => k_is)
    (case k35 => k_is)
    (case a36 => k_is)
    (case l36 => k_is)
    (case c36 => k_is)
    (case k36 => k_is)
    (case a37 => k_is)
    (case l37 => k_is)
    (case c37 => k_is)
    (case k37 => k_is)
    (case a38 => k_is)
    (case l38 => k_is)
    (case c38 => k_is)
    (case k38 => k_is)
    (case a39 => k_is)
    (case l39 => k_is)
    (case c39 => k_is)
    (case k39 => k_is)
    (case a40 => k_is)
    (case l40 => k_is)
    (case c40 => k_is)
    (case k40 => k_is)
    (case a41 => k_is)
    (case l41 => k_is)
    (case c41 => k_is)
    (case k41 => k_is)
    (case a42 => k_is)
    (case l42 => k_is)
    (case c42 => k_is)
    (case k42 => k_is)
    (case tb => exact PySem.W.km_tabs_of Y _ (List.mem_cons_self ..))
    (case hdR => kernel_rfl)
    (case nPt => kernel_rfl)
    (case z_list => k_is)
    (case z_len => k_is)
    (case z_divmod => k_is)
    (case z_range => k_is)
    (case z_min => k_is)
    (case z_int => k_is)
    (case z_bool => k_is)
    (case z_str => k_is)
    (case z_tuple => k_is)
    (case z_all => k_is)
    (case z_any => k_is)
    (case z_repr => k_is)
    (case z_isinstance => k_is)
    (case z_zip => k_is)
    (case z_enumerate => k_is)
    (case z_set => k_is)
    (case z_sum => k_is)
    (case z_sorted => k_is)
    (case z_max => k_is)
    (case z_abs => k_is)
