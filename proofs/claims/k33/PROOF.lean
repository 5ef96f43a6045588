import PyProof.Rows.All
import Wide.All
import OpenK.AllK
import Wide.FinOn
import HandS.ForMost
import HandS.Wide
import HandS.WideBits
import PyProof.ReprRoads
import HandS.Style
import HandS.Flow
import HandS.Walk
import PySem.Challenge.RW_tiedtables_k33_what_rules_are
import HandS.Strs
import PyProof.CallFns
import HandS.IsInst
import HandS.StrMore
import PyProof.Rows.IntBool
import PyProof.Rows.StrDigitsNeg
import PyProof.Rows.StrJoinMade
import PyProof.Rows.StrCase
import HandS.Iter
import KE.GoesEnum
import PyProof.StrOps2
import HandS.Deep
import HandS.TupAny
import HandS.TupLe
set_option Elab.async false
set_option linter.all false
set_option maxRecDepth 100000
namespace TT
open PySem PySem.Spec PyProof.Rows L2

/-! ### an own def of the module, by its name -/
def Def (P : Program) (w : World) (K : PySem.W.Frag) (mg : Str → Option Value) (base : Heap) (k : Nat) (x : Str) (ps : List Str) (sp : Sp) : Prop :=
  ∃ f fd, mg x = some (.ref f) ∧ PySem.W.keepIn K (.ref f) = true ∧ Binds K fd ps [] ∧ FnOk P w K mg base CX0 k f fd ps sp
section
variable {X : Cx} {k j : Nat} {x : Str} {ps : List Str} {sp : Sp} {p pos : Pos} {e : Expr} {es : List Expr} {t : TA}
theorem pe_own (D : Def X.prog X.w X.K X.mg X.base k x ps sp) (hr : Room j X.A) (ha : PA X (e :: es) t) (hkj : k ≤ j := by decide) (hg : Gl X x := by rfl) (hdb : (x == ("__debug__" : Str)) = false := by decide)
    (he : starEach (e :: es) X.env = (false, eval e X.env) :: starEach es X.env := by rfl) (hpl : (backTo pos (starEach es X.env)).any (·.1) = false := by rfl) :
    PE X (.Call (.Name x p) (e :: es) [] pos) (tCall sp [] E0 t) := by
  obtain ⟨f, fd, hm, hk, hb, F⟩ := D
  exact pe_call F (hr.mono hkj) hg hm hk hb .nil pass0 ha hdb he hpl
theorem pe_gint {i : Int} (h : ∃ u, X.mg x = some (.int i u)) (hg : Gl X x := by rfl) (hdb : (x == ("__debug__" : Str)) = false := by decide) : PE X (.Name x p) (tC (.int i)) := by
  obtain ⟨u, hm⟩ := h
  exact pe_glob hg hm ⟨u, rfl⟩ hdb
end
theorem Def.mk {P : Program} {w : World} {K : PySem.W.Frag} {mg : Str → Option Value} {base : Heap} {k : Nat} {x : Str} {ps : List Str} {sp : Sp} {f : Addr} {fd : FuncData} (h1 : mg x = some (.ref f)) (h2 : PySem.W.keepIn K (.ref f) = true) (h3 : Binds K fd ps []) (h4 : FnOk P w K mg base CX0 k f fd ps sp) : Def P w K mg base k x ps sp := ⟨f, fd, h1, h2, h3, h4⟩

/-- the built-in names stand as they are -/
structure NB (mg : Str → Option Value) : Prop where
  b_list : mg "list" = none
  b_len : mg "len" = none
  b_divmod : mg "divmod" = none
  b_range : mg "range" = none
  b_min : mg "min" = none
  b_int : mg "int" = none
  b_bool : mg "bool" = none
  b_str : mg "str" = none
  b_tuple : mg "tuple" = none
  b_all : mg "all" = none
  b_any : mg "any" = none
  b_repr : mg "repr" = none
  b_isinstance : mg "isinstance" = none
  b_zip : mg "zip" = none
  b_enumerate : mg "enumerate" = none
  b_set : mg "set" = none
  b_sum : mg "sum" = none
  b_sorted : mg "sorted" = none
  b_max : mg "max" = none

/-! ### masks: what is not to be leant on -/
def msk (M : List Addr) (H : Hp) : Hp := fun p => if p ∈ M then none else H p
/-- all but what stands at M is as it was -/
def Kept (M : List Addr) (H H' : Hp) : Prop := ∀ p o, H p = some o → p ∉ M → H' p = some o
theorem Kept.refl (M : List Addr) (H : Hp) : Kept M H H := fun _ _ h _ => h
theorem Kept.trans {M : List Addr} {H H1 H2 : Hp} (a : Kept M H H1) (b : Kept M H1 H2) : Kept M H H2 := fun p o h n => b p o (a p o h n) n
theorem Kept.of_same {M : List Addr} {H H' : Hp} (h : Same H H') : Kept M H H' := fun p o e _ => h p o e
theorem Kept.upd_new {M : List Addr} {H : Hp} {p : Addr} {o : HO} (h : H p = none) : Kept M H (upd H p o) := fun b u e _ => by
  rw [upd_ne (ne_of_none e h)]; exact e
theorem Kept.upd_in {M : List Addr} {H : Hp} {p : Addr} {o : HO} (h : p ∈ M) : Kept M H (upd H p o) := fun b u e n => by
  rw [upd_ne (fun (z : b = p) => n (by rw [z]; exact h))]; exact e
theorem Kept.mono {M M' : List Addr} {H H' : Hp} (h : Kept M H H') (s : ∀ p ∈ M, p ∈ M') : Kept M' H H' := fun p o e n => h p o e fun z => n (s p z)
/-- less is masked: what is masked no more was not there -/
theorem Kept.new {M : List Addr} {p : Addr} {H H' : Hp} (h : Kept (p :: M) H H') (n : H p = none) : Kept M H H' := fun b o e nb => h b o e fun z => by
  rcases List.mem_cons.mp z with rfl | z
  · rw [n] at e; cases e
  · exact nb z
theorem Kept.at {M : List Addr} {H H' : Hp} (h : Kept M H H') {p : Addr} {o : HO} (e : H p = some o) (n : p ∉ M) : H' p = some o := h p o e n
theorem msk_same {M : List Addr} {H H' : Hp} (h : Kept M H H') : Same (msk M H) (msk M H') := fun p o e => by
  unfold msk at e ⊢
  by_cases hp : p ∈ M
  · rw [if_pos hp] at e; cases e
  · rw [if_neg hp] at e ⊢; exact h p o e hp
theorem msk_sub (M : List Addr) (H : Hp) : Same (msk M H) H := fun p o e => by
  unfold msk at e
  by_cases hp : p ∈ M
  · rw [if_pos hp] at e; cases e
  · rw [if_neg hp] at e; exact e
/-- a new address may be masked, too -/
theorem msk_new {M : List Addr} {H : Hp} {p : Addr} (n : H p = none) : Same (msk M H) (msk (p :: M) H) := fun b o e => by
  have e' := msk_sub M H b o e
  unfold msk at e ⊢
  by_cases hp : b ∈ M
  · rw [if_pos hp] at e; cases e
  · rw [if_neg hp] at e
    rw [if_neg (fun z => by
      rcases List.mem_cons.mp z with rfl | z
      · rw [n] at e; cases e
      · exact hp z)]
    exact e
theorem msk_less {M M' : List Addr} {H : Hp} (s : ∀ p ∈ M', p ∈ M) : Same (msk M H) (msk M' H) := fun p o e => by
  unfold msk at e ⊢
  by_cases hp : p ∈ M
  · rw [if_pos hp] at e; cases e
  · rw [if_neg hp] at e
    rw [if_neg (fun z => hp (s p z))]; exact e

/-! ### data -/
theorem sameT {K : PySem.W.Frag} {H H' : Hp} {a : Addr} {xs : List V} (e : Same H H') (h : SqT K H a xs) : SqT K H' a xs := by
  rcases h with (h | ⟨o, h⟩) | h
  · exact .inl (.inl (e _ _ h))
  · exact .inl (.inr ⟨o, e _ _ h⟩)
  · exact .inr h
mutual
theorem dp_same {K : PySem.W.Frag} {H H' : Hp} (e : Same H H') : ∀ {d : PyData} {v : V}, Dp K H v d → Dp K H' v d
  | _, _, .non => .non
  | _, _, .bl b => .bl b
  | _, _, .int i => .int i
  | _, _, .str x => .str x
  | _, _, .lst h a => .lst (e.seq h) (dpAll_same e a)
  | _, _, .tup h a => .tup (sameT e h) (dpAll_same e a)
theorem dpAll_same {K : PySem.W.Frag} {H H' : Hp} (e : Same H H') : ∀ {ds : List PyData} {vs : List V}, DpAll K H vs ds → DpAll K H' vs ds
  | _, _, .nil => .nil
  | _, _, .cons h t => .cons (dp_same e h) (dpAll_same e t)
end
theorem dpAll_len {K : PySem.W.Frag} {H : Hp} : ∀ {ds : List PyData} {vs : List V}, DpAll K H vs ds → vs.length = ds.length
  | _, _, .nil => rfl
  | _, _, .cons _ t => congrArg (· + 1) (dpAll_len t)
theorem dpAll_get {K : PySem.W.Frag} {H : Hp} : ∀ {ds : List PyData} {vs : List V} (i : Nat) {v : V}, DpAll K H vs ds → vs[i]? = some v → ∃ d, ds[i]? = some d ∧ Dp K H v d
  | _, _, _, _, .nil, e => by simp at e
  | _, _, 0, _, .cons h _, e => by simp at e; subst e; exact ⟨_, rfl, h⟩
  | _, _, i + 1, v, .cons _ t, e => by
    obtain ⟨d, h1, h2⟩ := dpAll_get i (v := v) t (by simpa using e)
    exact ⟨d, by simpa using h1, h2⟩
theorem dpAll_app {K : PySem.W.Frag} {H : Hp} : ∀ {ds es : List PyData} {vs us : List V}, DpAll K H vs ds → DpAll K H us es → DpAll K H (vs ++ us) (ds ++ es)
  | _, _, _, _, .nil, s => s
  | _, _, _, _, .cons h t, s => .cons h (dpAll_app t s)
theorem dpAll_snoc {K : PySem.W.Frag} {H : Hp} {ds : List PyData} {d : PyData} {vs : List V} {v : V} (a : DpAll K H vs ds) (h : Dp K H v d) : DpAll K H (vs ++ [v]) (ds ++ [d]) := dpAll_app a (.cons h .nil)

/-! ### the state of the draws -/
def kCells : Key := Sum.inr "cells"
def kTurn : Key := Sum.inr "turn"
theorem kne : ¬ (kCells = kTurn) := by decide +kernel
def stD (c : Addr) (t : Int) : List (Key × V) := [(kCells, .ref c), (kTurn, .int t)]
theorem stD_cells (c : Addr) (t : Int) : valV (stD c t) kCells = some (.ref c) := valV_pos rfl
theorem stD_turn (c : Addr) (t : Int) : valV (stD c t) kTurn = some (.int t) := by
  unfold stD
  rw [valV_neg kne, valV_pos rfl]
theorem stD_put (c : Addr) (t i : Int) : putK (stD c t) kTurn (.int i) = stD c i := by
  have h1 : (decide (kCells = kTurn)) = false := decide_eq_false kne
  have h2 : (decide (kTurn = kTurn)) = true := decide_eq_true rfl
  simp [stD, putK, h1, h2, kne]
/-- a state of draws at s, its cells at c, at most T turns -/
structure StAt (H : Hp) (s c : Addr) (T : Nat) : Prop where
  ex : ∃ t : Int, (0 ≤ t ∧ t ≤ (T : Int)) ∧ H s = some (.dK (stD c t))
  cs : ∃ ns : List Int, 0 < ns.length ∧ ns.length ≤ 63 ∧ H c = some (.lst (ns.map V.int))
theorem StAt.mono {H : Hp} {s c : Addr} {T T' : Nat} (h : StAt H s c T) (l : T ≤ T') : StAt H s c T' := ⟨let ⟨t, a, b⟩ := h.ex; ⟨t, ⟨a.1, by omega⟩, b⟩, h.cs⟩
theorem StAt.ne {H : Hp} {s c : Addr} {T : Nat} (h : StAt H s c T) : s ≠ c := by
  obtain ⟨t, _, e⟩ := h.ex
  obtain ⟨ns, _, _, e2⟩ := h.cs
  exact ne_of e e2 (by intro z; cases z)
theorem StAt.same {H H' : Hp} {s c : Addr} {T : Nat} (h : StAt H s c T) (e : Same H H') : StAt H' s c T :=
  ⟨let ⟨t, a, b⟩ := h.ex; ⟨t, a, e _ _ b⟩, let ⟨ns, a, b, q⟩ := h.cs; ⟨ns, a, b, e _ _ q⟩⟩
theorem StAt.nes {H : Hp} {s c p : Addr} {T : Nat} (h : StAt H s c T) (n : H p = none) : s ≠ p := let ⟨_, _, b⟩ := h.ex; ne_of_none b n
theorem StAt.nec {H : Hp} {s c p : Addr} {T : Nat} (h : StAt H s c T) (n : H p = none) : c ≠ p := let ⟨_, _, _, b⟩ := h.cs; ne_of_none b n
theorem StAt.upd {H : Hp} {s c p : Addr} {T : Nat} {o : HO} (h : StAt H s c T) (h1 : s ≠ p) (h2 : c ≠ p) : StAt (upd H p o) s c T :=
  ⟨let ⟨t, a, b⟩ := h.ex; ⟨t, a, by rw [upd_ne h1]; exact b⟩, let ⟨ns, a, b, q⟩ := h.cs; ⟨ns, a, b, by rw [upd_ne h2]; exact q⟩⟩
theorem StAt.upd_new {H : Hp} {s c p : Addr} {T : Nat} {o : HO} (h : StAt H s c T) (n : H p = none) : StAt (L2.upd H p o) s c T := h.upd (h.nes n) (h.nec n)

theorem Kept.seqL {M : List Addr} {H H' : Hp} (h : Kept M H H') {K : PySem.W.Frag} {p : Addr} {xs : List V} (n : p ∉ M) (q : SqL K H p xs) : SqL K H' p xs := by
  rcases q with (q | ⟨o, q⟩) | q
  · exact .inl (.inl (h _ _ q n))
  · exact .inl (.inr ⟨o, h _ _ q n⟩)
  · exact .inr q
theorem Kept.seqT {M : List Addr} {H H' : Hp} (h : Kept M H H') {K : PySem.W.Frag} {p : Addr} {xs : List V} (n : p ∉ M) (q : SqT K H p xs) : SqT K H' p xs := by
  rcases q with (q | ⟨o, q⟩) | q
  · exact .inl (.inl (h _ _ q n))
  · exact .inl (.inr ⟨o, h _ _ q n⟩)
  · exact .inr q
theorem same_upd {H : Hp} {p : Addr} {o : HO} (h : H p = none) : Same H (upd H p o) := fun b x e => by
  rw [upd_ne (ne_of_none e h)]
  exact e

/-! ### what the draws promise -/
def spBegin (K : PySem.W.Frag) : Sp := fun vs H Q _ => ∃ (a : Addr) (ns : List Int), vs = [.ref a] ∧ SqL K H a (ns.map V.int) ∧
  ∀ (s c : Addr) (H' : Hp), StAt H' s c 0 → H s = none → H c = none → Same H H' → Q (.ref s) H'
def spTake : Sp := fun vs H Q _ => ∃ (s c : Addr) (T : Nat) (m : Int), vs = [.ref s, .int m] ∧ StAt H s c T ∧ T ≤ 1000000 ∧ 0 < m ∧ m < 2 ^ 62 ∧
  ∀ (d : Int) (H' : Hp), 0 ≤ d → d < m → StAt H' s c (T + 1) → Kept [s, c] H H' → Q (.int d) H'
end TT

set_option Elab.async false
set_option linter.all false
set_option maxRecDepth 100000
namespace TT
open PySem PySem.Spec PyProof.Rows L2
def topS (i : Nat) : Stmt := PySem.Challenge.pw_tiedtables_k33_what_rules_are.main.body.getD i (.Pass ⟨0, 0, 0, 0⟩)
/-! ### draws of a box made of cells -/
structure NX (mg : Str → Option Value) : Prop where
  b_abs : mg "abs" = none
theorem b01 (b : Bool) : (0 : Int) ≤ (if b = true then 1 else 0) ∧ -(2 ^ 64 : Int) < (if b = true then 1 else 0) ∧ (if b = true then 1 else 0 : Int) < 2 ^ 64 := by cases b <;> decide
theorem ixN_nat {n j : Nat} (h : j < n) : ixN n (j : Int) = some j := by
  unfold ixN
  rw [if_pos (Int.natCast_nonneg j), if_pos (by omega)]
  rfl
structure BoxAt (H : Hp) (b : Addr) (T : Nat) : Prop where
  ex : ∃ x y t : Int, 0 ≤ x ∧ (0 ≤ y ∧ y < 2305843011000000000) ∧ (0 ≤ t ∧ t ≤ T) ∧ H b = some (.lst [.int x, .int y, .int t])
theorem BoxAt.kept {H H' : Hp} {b : Addr} {T : Nat} {M : List Addr} (h : BoxAt H b T) (k : Kept M H H') (n : b ∉ M) : BoxAt H' b T := by
  obtain ⟨x, y, t, h1, h2, h3, e⟩ := h.ex
  exact ⟨x, y, t, h1, h2, h3, k.at e n⟩
theorem BoxAt.same {H H' : Hp} {b : Addr} {T : Nat} (h : BoxAt H b T) (s : Same H H') : BoxAt H' b T := by
  obtain ⟨x, y, t, h1, h2, h3, e⟩ := h.ex
  exact ⟨x, y, t, h1, h2, h3, s b _ e⟩
theorem BoxAt.mono {H : Hp} {b : Addr} {T T' : Nat} (h : BoxAt H b T) (l : T ≤ T') : BoxAt H b T' := by
  obtain ⟨x, y, t, h1, h2, h3, e⟩ := h.ex
  exact ⟨x, y, t, h1, h2, ⟨h3.1, by omega⟩, e⟩
theorem small1000 {n : Nat} (h : n ≤ 1000) : n < sizeLine := Nat.lt_of_le_of_lt h (by decide)
theorem cut_lo (xs : List V) (i : Nat) : cutV xs (some (i : Int)) none = xs.drop i := by
  unfold cutV
  rw [HT.sIx_none, HT.sIx_nat]
  by_cases h : i ≤ xs.length
  · rw [Nat.min_eq_left h]
    exact List.take_of_length_le (by rw [List.length_drop]; exact Nat.le_refl _)
  · rw [Nat.min_eq_right (by omega), Nat.sub_self, List.take_zero, List.drop_of_length_le (by omega)]
theorem cut_hi (xs : List V) (m : Nat) : cutV xs none (some (m : Int)) = xs.take m := by
  unfold cutV
  rw [HT.sIx_none, HT.sIx_nat, List.drop_zero, Nat.sub_zero]
  by_cases h : m ≤ xs.length
  · rw [Nat.min_eq_left h]
  · rw [Nat.min_eq_right (by omega), List.take_of_length_le (Nat.le_refl _), List.take_of_length_le (by omega)]
theorem keptS0 {H H' : Hp} {D : Addr} (k : Kept [D] H H') (n : H D = none) : Same H H' := fun b o e => k b o e fun z => by rw [List.mem_singleton.mp z, n] at e; cases e
theorem splitS0 {A R : TS} {D : Ends} {σ0 : L2.St} {H0 : Hp} (Pp : V → Hp → Prop) (st : V → L2.St) (rest : ∀ v H, Pp v H → R D (st v) H) (main : (∀ v H, Pp v H → R D (st v) H) → tSeq A R D σ0 H0) : tSeq A R D σ0 H0 := main rest
section
variable {P : Program} {w : World} {K : PySem.W.Frag} {mg : Str → Option Value} {base : Heap}
def spBox (K : PySem.W.Frag) : Sp := fun vs H Q _ => ∃ (a : Addr) (ns : List Int) (k : Nat), vs = [.ref a, .int k] ∧ SqL K H a (ns.map V.int) ∧ k < ns.length ∧ k ≤ 10 ∧ ∀ (b : Addr) (H' : Hp), H b = none → BoxAt H' b 0 → Same H H' → Q (.ref b) H'
abbrev s_law_box : Stmt := topS 31
abbrev N_law_box : List Str := ["cells", "k", "cell"]
theorem sc_law_box : FnScope N_law_box ["cells", "k"] (defScope s_law_box) := ⟨rfl, rfl, rfl, by decide +kernel, rfl, by decide +kernel, by decide +kernel⟩

theorem ok_box {f : Addr} {fd : FuncData} (F : Fun K "_law_box" "_law_box" s_law_box f fd) (nb : NB mg) (nx : NX mg) : FnOk P w K mg base CX0 1 f fd ["cells", "k"] (spBox K) := by
  refine F.ok sc_law_box (fun vs H Q E h => ?_) (fun cdv A outer sh H vs Q E hr h => ?_)
  · obtain ⟨a, ns, k, rfl, _⟩ := h
    rfl
  obtain ⟨a, ns, k, rfl, hS, hk2, hk, q⟩ := h
  have nd := sc_law_box.nd
  refine ⟨_, (pss_cons (ps_set (i := 2) nd rfl (Or.inl rfl) (pe_ix ix_list (pv 0) (pv 1) (fun _ _ => rfl)))
      (pss_one (ps_ret (pe_lst (pa_cons (pe_op op_mul (pe_callB call_abs (by rfl) nx.b_abs (by decide +kernel) (pa_cons (pv 2) pa_nil)) (pe_callTy call_int1 (by rfl) nb.b_int (by decide +kernel) (pa_cons (pe_cmpR op_ge (pe_callB call_abs (by rfl) nx.b_abs (by decide +kernel) (pa_cons (pv 2) pa_nil)) (pe_op op_pow pe_int pe_int) (nomark _)) pa_nil))) (pa_cons (pe_op op_add (pe_op op_add (pe_op op_mod (pv 2) pe_int) (pe_op op_mul pe_int (pv 1))) pe_int) (pa_cons pe_int pa_nil))))))), ?_⟩
  have rest : ∀ (cell : Int), (∀ (b : Addr), H b = none → Q (.ref b) (upd H b (.lst [.int ((if cell < 0 then -cell else cell) * (if decide ((10 : Int) ^ (18 : Int).toNat ≤ if cell < 0 then -cell else cell) = true then 1 else 0)), .int (cell % 2305843009213693951 + 15485863 * k + 11), .int 0]))) := fun cell b nb' => by
    have h0 : 0 ≤ cell % 2305843009213693951 ∧ cell % 2305843009213693951 < 2305843009213693951 := ⟨Int.emod_nonneg _ (by decide), Int.emod_lt_of_pos _ (by decide)⟩
    refine q b _ nb' ⟨_, _, _, ?_, ⟨by omega, by omega⟩, ⟨Int.le_refl _, Int.le_refl _⟩, upd_same⟩ (same_upd nb')
    refine Int.mul_nonneg (by split <;> omega) ?_
    exact (b01 _).1
  have gk : (ns.map V.int)[k]? = some (.int ns[k]) := by rw [List.getElem?_map, List.getElem?_eq_getElem hk2]; rfl
  refine ⟨.ref a, rfl, .int k, rfl, a, _, k, .int ns[k], rfl, rfl, hS, atI_nat gk, ?_⟩
  generalize ns[k] = cell
  refine ⟨.int cell, rfl, cell, rfl, .int cell, rfl, cell, rfl, 10, 18, rfl, rfl, ⟨by decide, by decide, by decide⟩, _, _, rfl, rfl, .inr ⟨_, rfl, _, _, rfl, rfl, .inr ⟨(b01 _).2.1, (b01 _).2.2⟩, ?_⟩⟩
  refine ⟨.int cell, rfl, _, _, rfl, rfl, (by decide : (0 : Int) < 2305843009213693951), .int k, rfl, _, _, rfl, rfl, .inl ⟨by decide, by decide⟩, _, _, rfl, rfl, _, _, rfl, rfl, (by show 3 ≤ sizeLine; decide), fun b nb' => rest cell b nb'⟩
def spTakeB : Sp := fun vs H Q _ => ∃ (b : Addr) (T : Nat) (m : Int), vs = [.ref b, .int m] ∧ BoxAt H b T ∧ T ≤ 1000000 ∧ 0 < m ∧ m < 2 ^ 62 ∧ ∀ (d : Int) (H' : Hp), 0 ≤ d → d < m → BoxAt H' b (T + 1) → Kept [b] H H' → Q (.int d) H'
abbrev s_law_take : Stmt := topS 32
abbrev N_law_take : List Str := ["box", "many", "found", "mixed"]
theorem sc_law_take : FnScope N_law_take ["box", "many"] (defScope s_law_take) := ⟨rfl, rfl, rfl, by decide +kernel, rfl, by decide +kernel, by decide +kernel⟩

theorem ok_take {f : Addr} {fd : FuncData} (F : Fun K "_law_take" "_law_take" s_law_take f fd) : FnOk P w K mg base CX0 1 f fd ["box", "many"] spTakeB := by
  refine F.ok sc_law_take (fun vs H Q E h => ?_) (fun cdv A outer sh H vs Q E hr h => ?_)
  · obtain ⟨b, T, m, rfl, _⟩ := h
    rfl
  obtain ⟨b, T, m, rfl, hB, hT, hm0, hm, q⟩ := h
  obtain ⟨x, y, t, h1, h2, h3, eb⟩ := hB.ex
  have nd := sc_law_take.nd
  refine ⟨_, (pss_cons (ps_if (pt_cmpR op_gt (pe_ix ix_list (pv 0) pe_int (fun _ _ => rfl)) pe_int (nomark _))
        (pss_cons (ps_set (i := 2) nd rfl (Or.inl rfl) (pe_op op_mod (pe_ix ix_list (pv 0) pe_int (fun _ _ => rfl)) (pv 1)))
        (pss_cons (ps_asg (pe_op op_fdivW (pe_ix ix_list (pv 0) pe_int (fun _ _ => rfl)) (pv 1)) (pg_sub (pv 0) pe_int set_list))
        (pss_one (ps_ret (pv 2)))))
        pss_nil)
      (pss_cons (ps_asg (pe_op op_add (pe_ix ix_list (pv 0) pe_int (fun _ _ => rfl)) pe_int) (pg_sub (pv 0) pe_int set_list))
      (pss_cons (ps_set (i := 3) nd rfl (Or.inl rfl) (pe_op op_mod (pe_op op_add (pe_ix ix_list (pv 0) pe_int (fun _ _ => rfl)) (pe_op op_mul pe_int (pe_ix ix_list (pv 0) pe_int (fun _ _ => rfl)))) pe_int))
      (pss_cons (ps_set (i := 3) nd rfl (Or.inl rfl) (pe_op op_mod (pe_op op_add (pe_op op_add (pe_op op_mul (pv 3) (pv 3)) (pe_op op_mul pe_int (pe_ix ix_list (pv 0) pe_int (fun _ _ => rfl)))) pe_int) pe_int))
      (pss_cons (ps_set (i := 3) nd rfl (Or.inl rfl) (pe_op op_mod (pe_op op_add (pe_op op_mul (pv 3) (pe_op op_add (pe_op op_fdivW (pv 3) pe_int) pe_int)) (pe_ix ix_list (pv 0) pe_int (fun _ _ => rfl))) pe_int))
      (pss_one (ps_ret (pe_op op_mod (pe_op op_fdivW (pv 3) pe_int) (pv 1))))))))), ?_⟩
  refine ⟨.ref b, rfl, b, _, 0, .int x, rfl, rfl, .inl (.inl eb), atI_nat (j := 0) rfl, _, _, rfl, rfl, _, rfl, ite2 (fun _ => ?_) (fun _ => ?_)⟩
  · refine ⟨.ref b, rfl, b, _, 0, .int x, rfl, rfl, .inl (.inl eb), atI_nat (j := 0) rfl, .int m, rfl, _, _, rfl, rfl, hm0, ?_⟩
    refine ⟨.ref b, rfl, b, _, 0, .int x, rfl, rfl, .inl (.inl eb), atI_nat (j := 0) rfl, .int m, rfl, _, _, rfl, rfl, wide_div (b := 62) hm0 (by omega) (by decide) (by decide), ?_⟩
    refine ⟨.ref b, rfl, b, _, _, 0, rfl, rfl, eb, ixN_nat (show 0 < 3 by decide), ?_⟩
    refine ⟨_, rfl, ?_⟩
    exact q _ _ (Int.emod_nonneg _ (by omega)) (Int.emod_lt_of_pos _ hm0) ⟨x / m, y, t, Int.ediv_nonneg h1 (by omega), h2, ⟨h3.1, by omega⟩, upd_same⟩ (Kept.upd_in (List.mem_cons_self ..))
  · refine ⟨.ref b, rfl, b, _, 2, .int t, rfl, rfl, .inl (.inl eb), atI_nat (j := 2) rfl, _, _, rfl, rfl, ?_⟩
    refine ⟨.ref b, rfl, b, _, _, 2, rfl, rfl, eb, ixN_nat (show 2 < 3 by decide), ?_⟩
    have e1 : (upd H b (.lst [.int x, .int y, .int (t + 1)])) b = some (.lst [.int x, .int y, .int (t + 1)]) := upd_same
    have k1 : Kept [b] H (upd H b (.lst [.int x, .int y, .int (t + 1)])) := Kept.upd_in (List.mem_cons_self ..)
    show tSeq _ _ _ _ (upd H b (.lst [.int x, .int y, .int (t + 1)]))
    generalize upd H b (.lst [.int x, .int y, .int (t + 1)]) = H1 at e1 k1 ⊢
    refine ⟨.ref b, rfl, b, _, 1, .int y, rfl, rfl, .inl (.inl e1), atI_nat (j := 1) rfl, .ref b, rfl, b, _, 2, .int (t + 1), rfl, rfl, .inl (.inl e1), atI_nat (j := 2) rfl, _, _, rfl, rfl, .inl ⟨by decide, by decide⟩, _, _, rfl, rfl, _, _, rfl, rfl, (by decide : (0 : Int) < 2305843009213693951), ?_⟩
    dsimp only
    generalize hx2 : (y + 1442695040888963407 * (t + 1)) % 2305843009213693951 = z
    have hz : 0 ≤ z ∧ z < 2305843009213693951 := by rw [← hx2]; exact ⟨Int.emod_nonneg _ (by decide), Int.emod_lt_of_pos _ (by decide)⟩
    refine ⟨.int z, rfl, .int z, rfl, _, _, rfl, rfl, .inl ⟨by omega, by omega⟩, .ref b, rfl, b, _, 2, .int (t + 1), rfl, rfl, .inl (.inl e1), atI_nat (j := 2) rfl, _, _, rfl, rfl, .inl ⟨by decide, by decide⟩, _, _, rfl, rfl, _, _, rfl, rfl, _, _, rfl, rfl, (by decide : (0 : Int) < 2305843009213693921), ?_⟩
    dsimp only
    generalize hx3 : (z * z + 39373 * (t + 1) + 7) % 2305843009213693921 = u
    have hu : 0 ≤ u ∧ u < 2305843009213693921 := by rw [← hx3]; exact ⟨Int.emod_nonneg _ (by decide), Int.emod_lt_of_pos _ (by decide)⟩
    refine ⟨.int u, rfl, .int u, rfl, _, _, rfl, rfl, wide_div (b := 17) (by decide) (by decide) (by decide) (by decide), _, _, rfl, rfl, _, _, rfl, rfl, .inl ⟨by omega, by omega⟩, .ref b, rfl, b, _, 2, .int (t + 1), rfl, rfl, .inl (.inl e1), atI_nat (j := 2) rfl, _, _, rfl, rfl, _, _, rfl, rfl, (by decide : (0 : Int) < 2305843009213693907), ?_⟩
    dsimp only
    generalize (u * (u / 65536 + 3) + (t + 1)) % 2305843009213693907 = v
    refine ⟨.int v, rfl, _, _, rfl, rfl, wide_div (b := 21) (by decide) (by decide) (by decide) (by decide), .int m, rfl, _, _, rfl, rfl, hm0, ?_⟩
    exact q _ _ (Int.emod_nonneg _ (by omega)) (Int.emod_lt_of_pos _ hm0) ⟨x, y, t + 1, h1, h2, ⟨by omega, by omega⟩, e1⟩ k1
def spCells (K : PySem.W.Frag) : Sp := fun vs H Q _ => ∃ (a : Addr) (ns : List Int) (m : Nat), vs = [.ref a, .int m] ∧ SqL K H a (ns.map V.int) ∧ ns.length ≤ 63 ∧ 0 < m ∧ m ≤ 10 ∧ ∀ (p : Addr) (cs : List Int) (H' : Hp), 0 < cs.length → cs.length ≤ m → H' p = some (.lst (cs.map V.int)) → Same H H' → Q (.ref p) H'
abbrev s_law_cells : Stmt := topS 33
abbrev N_law_cells : List Str := ["script", "most", "cells", "k", "cell"]
theorem sc_law_cells : FnScope N_law_cells ["script", "most"] (defScope s_law_cells) := ⟨rfl, rfl, rfl, by decide +kernel, rfl, by decide +kernel, by decide +kernel⟩

theorem ok_cells {f : Addr} {fd : FuncData} (F : Fun K "_law_cells" "_law_cells" s_law_cells f fd) (nb : NB mg) : FnOk P w K mg base CX0 1 f fd ["script", "most"] (spCells K) := by
  refine F.ok sc_law_cells (fun vs H Q E h => ?_) (fun cdv A outer sh H vs Q E hr h => ?_)
  · obtain ⟨a, ns, m, rfl, _⟩ := h
    rfl
  obtain ⟨a, ns, m, rfl, hS, hn, hm0, hm, q⟩ := h
  have nd := sc_law_cells.nd
  refine ⟨_, (pss_cons (ps_set (i := 2) nd rfl (Or.inl rfl) (pe_orT (pe_callTy call_list_of (by rfl) nb.b_list (by decide +kernel) (pa_cons (pe_slice sl_list (pv 0) po_none (po_some (pv 1))) pa_nil)) (pe_one (pe_lst (pa_cons pe_int pa_nil)))))
      (pss_cons (ps_for PassesOwn.never rfl (pi_enum (by rfl) nb.b_enumerate (pa_cons (pe_slice sl_list (pv 0) (po_some (pv 1)) (po_some pe_int)) pa_nil)) (pg_tup rfl (pgs_cons (pg_name (i := 3) nd rfl (Or.inl rfl)) (pgs_cons (pg_name (i := 4) nd rfl (Or.inl rfl)) pgs_nil)))
        (pss_one (ps_asg (pe_op op_add (pe_ix ix_list (pv 2) (pe_op op_mod (pv 3) (pv 1)) (fun _ _ => rfl)) (pe_op op_mul (pv 4) (pe_op op_add (pv 3) pe_int))) (pg_sub (pv 2) (pe_op op_mod (pv 3) (pv 1)) set_list))))
      (pss_one (ps_ret (pv 2))))), ?_⟩
  show tSeq _ (tSeq _ _) _ [some (.ref a), some (.int m), none, none, none] H
  refine splitS0 (fun v H' => ∃ (p : Addr) (cs : List Int), v = .ref p ∧ 0 < cs.length ∧ cs.length ≤ m ∧ (cs.length = m ∨ ns.length ≤ m) ∧ H' p = some (.lst (cs.map V.int)) ∧ H p = none ∧ Same H H') (fun v => [some (.ref a), some (.int m), some v, none, none]) (fun v H1 hP => ?_) (fun rest => ?_)
  rotate_left
  · refine ⟨.ref a, rfl, .int m, rfl, _, rfl, a, _, rfl, hS, fun p1 n1 => ?_⟩
    have ec : cutV (ns.map V.int) none (some (m : Int)) = (ns.take m).map V.int := by
      rw [List.map_take]
      exact cut_hi (ns.map V.int) m
    rw [ec]
    have s1 := same_upd (o := .lst ((ns.take m).map V.int)) n1
    refine ⟨p1, _, rfl, .inl (.inl (.inl upd_same)), fun p2 n2 => ?_⟩
    have s2 := s1.trans (same_upd (o := .lst ((ns.take m).map V.int)) n2)
    have e2 : (upd (upd H p1 (.lst ((ns.take m).map V.int))) p2 (.lst ((ns.take m).map V.int))) p2 = some (.lst ((ns.take m).map V.int)) := upd_same
    have f2 := Same.free s1 n2
    generalize upd (upd H p1 (.lst ((ns.take m).map V.int))) p2 (.lst ((ns.take m).map V.int)) = H2 at s2 e2 ⊢
    refine ⟨_, .inl ⟨_, .inl (.inl e2), rfl⟩, ?_⟩
    cases ns with
    | nil =>
      have e3 : (!(((([] : List Int).take m).map V.int).isEmpty)) = false := by rw [List.take_nil]; rfl
      rw [e3]
      refine iteF ⟨(by show 1 ≤ sizeLine; decide), fun p3 n3 => ?_⟩
      exact rest (.ref p3) _ ⟨p3, [0], rfl, Nat.one_pos, hm0, .inr (Nat.zero_le _), upd_same, Same.free s2 n3, s2.trans (same_upd n3)⟩
    | cons n0 nt =>
      obtain ⟨m', rfl⟩ : ∃ m', m = m' + 1 := ⟨m - 1, by omega⟩
      have e3 : (!((((n0 :: nt).take (m' + 1)).map V.int).isEmpty)) = true := rfl
      rw [e3]
      refine iteT ?_
      refine rest (.ref p2) _ ⟨p2, (n0 :: nt).take (m' + 1), rfl, by rw [List.take_succ_cons]; exact Nat.succ_pos _, by rw [List.length_take]; exact Nat.min_le_left _ _, ?_, e2, f2, s2⟩
      rw [List.length_take]
      omega
  obtain ⟨p, cs, rfl, l0, lm, hcs, ep, fp, s1⟩ := hP
  refine ⟨.ref a, rfl, .int m, rfl, _, rfl, 63, rfl, a, _, rfl, s1.seq hS, fun p1 n1 => ?_⟩
  obtain ⟨zs, hzs⟩ : ∃ zs : List Int, cutV (ns.map V.int) (some (m : Int)) (some 63) = zs.map V.int := by
    unfold cutV
    rw [← List.map_drop, ← List.map_take]
    exact ⟨_, rfl⟩
  have hz0 : ns.length ≤ m → zs = [] := fun h => by
    have h1 : cutV (ns.map V.int) (some (m : Int)) (some 63) = [] := by
      unfold cutV
      rw [HT.sIx_nat, List.length_map, Nat.min_eq_right h, List.drop_of_length_le (by rw [List.length_map]; exact Nat.le_refl _), List.take_nil]
    rw [h1] at hzs
    cases zs with
    | nil => rfl
    | cons _ _ => cases hzs
  have lz : zs.length ≤ 63 := by
    have := cutV_length (ns.map V.int) (some (m : Int)) (some 63)
    rw [hzs, List.length_map, List.length_map] at this
    omega
  rw [hzs]
  have t1 := same_upd (o := .lst (zs.map V.int)) n1
  have e1 : (upd H1 p1 (.lst (zs.map V.int))) p1 = some (.lst (zs.map V.int)) := upd_same
  have ep2 := t1 _ _ ep
  have np : p ≠ p1 := ne_of_none ep n1
  have s2 := s1.trans t1
  generalize upd H1 p1 (.lst (zs.map V.int)) = H2 at e1 ep2 s2 ⊢
  refine ⟨p1, _, rfl, .inl (.inl e1), ?_⟩
  refine for_it (walk_enum (xs := zs.map V.int)) (fun i σ H' => (∃ y3 y4, σ = [some (.ref a), some (.int m), some (.ref p), y3, y4]) ∧ (∃ cs' : List Int, cs'.length = cs.length ∧ H' p = some (.lst (cs'.map V.int))) ∧ H' p1 = some (.lst (zs.map V.int)) ∧ Kept [p] H H') ⟨⟨none, none, rfl⟩, ⟨cs, rfl, ep2⟩, e1, Kept.of_same s2⟩ (fun i σ H' _ hP => .inl (.inl hP.2.2.1)) (fun i x σ H3 H3' hi hP hY => ?_) (fun σ H3 hP => ?_)
  · obtain ⟨TT', x1, y1, rfl, nT, e8, hx, hy⟩ := hY
    obtain ⟨⟨y3, y4, rfl⟩, ⟨cs', lc, ec⟩, ez, kk⟩ := hP
    cases hx
    have hy : (zs.map V.int)[i]? = some y1 := hy
    rw [List.getElem?_map] at hy
    obtain ⟨n, hn, rfl⟩ := Option.map_eq_some_iff.mp hy
    have hi : i < zs.length := (List.getElem?_eq_some_iff.mp hn).1
    have hm' : cs.length = m := by
      rcases hcs with h | h
      · exact h
      · rw [hz0 h] at hi; cases hi
    have t3 : Same H3 H3' := by rw [e8]; exact same_upd nT
    have eT : H3' TT' = some (.tup [.int i, .int n]) := by rw [e8]; exact upd_same
    have ec3 := t3 _ _ ec
    refine ⟨TT', _, rfl, .inl (.inl eT), rfl, .int i, _, rfl, .int n, _, rfl, rfl, ?_⟩
    obtain ⟨j, hj⟩ : ∃ j : Nat, (i : Int) % (m : Int) = (j : Int) := ⟨i % m, by omega⟩
    have hjm : j < cs'.length := by have := Int.emod_lt_of_pos (i : Int) (show (0 : Int) < m by omega); omega
    have hm2 : (0 : Int) < (m : Int) := by omega
    have gj : (cs'.map V.int)[j]? = some (.int cs'[j]) := by rw [List.getElem?_map, List.getElem?_eq_getElem hjm]; rfl
    refine ⟨.ref p, rfl, .int i, rfl, .int m, rfl, _, _, rfl, rfl, hm2, p, _, _, .int cs'[j], rfl, rfl, .inl (.inl ec3), ?_, .int n, rfl, .int i, rfl, _, _, rfl, rfl, _, _, rfl, rfl, .inr ⟨by omega, by omega⟩, _, _, rfl, rfl, ?_⟩
    · show atI _ ((i : Int) % (m : Int)) = _
      rw [hj]; exact atI_nat gj
    refine ⟨.ref p, rfl, .int i, rfl, .int m, rfl, _, _, rfl, rfl, hm2, p, _, _, j, rfl, rfl, ec3, ?_, ?_⟩
    · show ixN _ ((i : Int) % (m : Int)) = _
      rw [hj]; exact ixN_nat (by rw [List.length_map]; exact hjm)
    refine ⟨⟨_, _, rfl⟩, ⟨cs'.set j (cs'[j] + n * ((i : Int) + 2)), by rw [List.length_set]; exact lc, by rw [upd_same, List.map_set]⟩, ?_, kk.trans ((Kept.of_same t3).trans (Kept.upd_in (List.mem_cons_self ..)))⟩
    rw [upd_ne np.symm]
    exact t3 _ _ ez
  · obtain ⟨⟨y3, y4, rfl⟩, ⟨cs', lc, ec⟩, ez, kk⟩ := hP
    exact ⟨.ref p, rfl, q p cs' H3 (by omega) (by omega) ec (keptS0 kk fp)⟩
end
end TT

set_option Elab.async false
set_option linter.all false
set_option maxRecDepth 100000
namespace TT
open PySem PySem.Spec PyProof.Rows L2
/-! ### names: the mathematics -/
def cl (z : Str) : List Nat := z.cps.toList
def ofL (l : List Nat) : Str := ⟨l.toArray⟩
theorem cl_ofL (l : List Nat) : cl (ofL l) = l := rfl
theorem cl_app (a b : Str) : cl (a ++ b) = cl a ++ cl b := by
  show (a.cps ++ b.cps).toList = _
  exact Array.toList_append
theorem cl_inj {a b : Str} (h : cl a = cl b) : a = b := by
  cases a; cases b
  exact congrArg Str.mk (Array.toList_inj.mp h)
theorem ofL_cl (z : Str) : ofL (cl z) = z := cl_inj rfl
theorem cl_len (z : Str) : z.length = (cl z).length := rfl
def low (c : Nat) : Prop := 97 ≤ c ∧ c ≤ 122
structure NameOk (z : Str) : Prop where
  pos : 0 < (cl z).length
  top : (cl z).length ≤ 8
  low : ∀ c ∈ cl z, low c
def abc : Str := "abcdefghijklmnopqrstuvwxyz"
theorem abc_cl : cl abc = (List.range 26).map (· + 97) := by decide +kernel
theorem abc_at {i : Nat} (h : i < 26) : (cl abc)[i]? = some (i + 97) := by
  rw [abc_cl, List.getElem?_map, List.getElem?_range h]
  rfl
theorem str_len_app (a b : Str) : (a ++ b).length = a.length + b.length := by rw [cl_len, cl_app, List.length_append]; rfl
theorem cut_cl (z : Str) (lo hi : Option Int) : cl (cutS z lo hi) = ((cl z).drop (HT.sIx z.length 0 lo)).take (HT.sIx z.length z.length hi - HT.sIx z.length 0 lo) := rfl
theorem flat_strs : ∀ zs : List Str, (zs.map V.str).all flatV = true
  | [] => rfl
  | _ :: zs => flat_strs zs
theorem inV_strs (z : Str) (zs : List Str) : inV (.str z) (zs.map V.str) = decide (z ∈ zs) := by
  induction zs with
  | nil => rfl
  | cons y r ih =>
    show (eqV (.str y) (.str z) || inV (.str z) (r.map V.str)) = _
    rw [ih]
    show ((y == z) || decide (z ∈ r)) = _
    by_cases h : y = z
    · subst h; simp
    · have h' : ¬ z = y := fun e => h e.symm
      simp [h, h']
def one (c : Nat) : Str := ⟨#[c]⟩
theorem cl_one (c : Nat) : cl (one c) = [c] := rfl
theorem sum_ones : ∀ l : List Nat, (l.map ((fun x : Str => x.length) ∘ one)).sum = l.length
  | [] => rfl
  | _ :: l => by
    rw [List.map_cons, List.sum_cons, sum_ones l]
    show 1 + l.length = l.length + 1
    omega
theorem join_ones (l : List Nat) : cl (Txt.join (Str.ofString "") (l.map one)) = l := by
  rw [TL.join_eq]
  induction l with
  | nil => rfl
  | cons x r ih =>
    cases r with
    | nil => rfl
    | cons y r =>
      show cl (one x ++ Str.ofString "" ++ Str.join (Str.ofString "") ((y :: r).map one)) = _
      rw [cl_app, cl_app, ih]
      rfl
/-! ### a box's names -/
def letN (first step : Int) (k : Nat) : Nat := ((first + step * k) % 26).toNat + 97
theorem letN_low (first step : Int) (k : Nat) : low (letN first step k) := by
  have h1 := Int.emod_nonneg (first + step * k) (show (26 : Int) ≠ 0 by decide)
  have h2 := Int.emod_lt_of_pos (first + step * k) (show (0 : Int) < 26 by decide)
  unfold low letN
  omega
theorem letN_inj {first : Int} {i j : Nat} (hi : i < 26) (hj : j < 26) (e : letN first 3 i = letN first 3 j) : i = j := by
  unfold letN at e
  omega
def nameN (st : List Nat) (at' : Nat) (first : Int) (k : Nat) : Str := ofL (st.take at' ++ [letN first 3 k] ++ st.drop at')
def longN (st : List Nat) (at' : Nat) (first lg : Int) (k : Nat) : Str := if lg = 1 ∧ k % 2 = 1 then ofL (cl (nameN st at' first (k - 1)) ++ [((first + k) % 26).toNat + 97]) else nameN st at' first k
theorem nameN_cl (st : List Nat) (at' : Nat) (first : Int) (k : Nat) : cl (nameN st at' first k) = st.take at' ++ [letN first 3 k] ++ st.drop at' := rfl
theorem nameN_len (st : List Nat) (at' : Nat) (first : Int) (k : Nat) : (cl (nameN st at' first k)).length = st.length + 1 := by
  rw [nameN_cl, List.length_append, List.length_append, List.length_take, List.length_drop]
  show _ + 1 + _ = _
  omega
theorem nameN_low {st : List Nat} (h1 : ∀ c ∈ st, low c) (at' : Nat) (first : Int) (k : Nat) : ∀ c ∈ cl (nameN st at' first k), low c := by
  intro c hc
  rw [nameN_cl, List.mem_append, List.mem_append] at hc
  rcases hc with (h | h) | h
  · exact h1 c (List.mem_of_mem_take h)
  · rw [List.mem_singleton.mp h]; exact letN_low ..
  · exact h1 c (List.mem_of_mem_drop h)
theorem nameN_inj {st : List Nat} {at' : Nat} {first : Int} {i j : Nat} (hi : i < 26) (hj : j < 26) (e : nameN st at' first i = nameN st at' first j) : i = j := by
  have e1 := congrArg cl e
  rw [nameN_cl, nameN_cl] at e1
  have e3 := List.append_cancel_left (List.append_cancel_right e1)
  exact letN_inj hi hj (List.cons.inj e3).1
theorem longN_ok {st : List Nat} (h1 : ∀ c ∈ st, low c) (l1 : st.length ≤ 6) (at' : Nat) (first lg : Int) (k : Nat) : NameOk (longN st at' first lg k) := by
  unfold longN
  by_cases h : lg = 1 ∧ k % 2 = 1
  · rw [if_pos h]
    refine ⟨?_, ?_, ?_⟩
    · rw [cl_ofL, List.length_append]; show 0 < _ + 1; omega
    · rw [cl_ofL, List.length_append, nameN_len]; show _ + 1 ≤ 8; omega
    · intro c hc
      rw [cl_ofL, List.mem_append, List.mem_singleton] at hc
      rcases hc with hc | rfl
      · exact nameN_low h1 _ _ _ c hc
      · have g1 := Int.emod_nonneg (first + k) (show (26 : Int) ≠ 0 by decide)
        have g2 := Int.emod_lt_of_pos (first + k) (show (0 : Int) < 26 by decide)
        unfold low; omega
  · rw [if_neg h]
    exact ⟨by rw [nameN_len]; omega, by rw [nameN_len]; omega, nameN_low h1 _ _ _⟩
theorem longN_inj {st : List Nat} {at' : Nat} {first lg : Int} {i j : Nat} (hi : i < 26) (hj : j < 26) (e : longN st at' first lg i = longN st at' first lg j) : i = j := by
  unfold longN at e
  by_cases h : lg = 1 ∧ i % 2 = 1 <;> by_cases h' : lg = 1 ∧ j % 2 = 1
  · rw [if_pos h, if_pos h'] at e
    have e1 := congrArg cl e
    rw [cl_ofL, cl_ofL] at e1
    have e2 := List.append_inj_left' e1 rfl
    have := nameN_inj (i := i - 1) (j := j - 1) (by omega) (by omega) (cl_inj e2)
    omega
  · rw [if_pos h, if_neg h'] at e
    have e1 := congrArg (fun z => (cl z).length) e
    simp only [cl_ofL, List.length_append, nameN_len, List.length_singleton] at e1
    omega
  · rw [if_neg h, if_pos h'] at e
    have e1 := congrArg (fun z => (cl z).length) e
    simp only [cl_ofL, List.length_append, nameN_len, List.length_singleton] at e1
    omega
  · rw [if_neg h, if_neg h'] at e
    exact nameN_inj hi hj e
theorem range_nd {f : Nat → Str} {m : Nat} (h : ∀ i j, i < m → j < m → f i = f j → i = j) : ((List.range m).map f).Nodup := by
  rw [List.nodup_iff_pairwise_ne, List.pairwise_iff_getElem]
  intro i j hi hj hij e
  rw [List.length_map, List.length_range] at hi hj
  simp only [List.getElem_map, List.getElem_range] at e
  have := h i j hi hj e
  omega
/-- a name that is called otherwise -/
def callN (z : Str) : Str := if z.length < 8 then z ++ Str.ofString "q" else cutS z (some 1) none
theorem q_cl : cl (Str.ofString "q") = [113] := by decide +kernel
theorem cut1_cl (z : Str) (h : 1 ≤ (cl z).length) : cl (cutS z (some 1) none) = (cl z).drop 1 := by
  rw [cut_cl, HT.sIx_none, show (1 : Int) = ((1 : Nat) : Int) from rfl, HT.sIx_nat]
  have l : z.length = (cl z).length := rfl
  rw [Nat.min_eq_left (by omega), List.take_of_length_le]
  rw [List.length_drop]
  omega
theorem callN_cl {z : Str} (h : 1 ≤ (cl z).length) : cl (callN z) = if (cl z).length < 8 then cl z ++ [113] else (cl z).drop 1 := by
  unfold callN
  by_cases g : z.length < 8
  · rw [if_pos g, if_pos (show (cl z).length < 8 from g), cl_app, q_cl]
  · rw [if_neg g, if_neg (show ¬ (cl z).length < 8 from g), cut1_cl z h]
theorem callN_ok {z : Str} (h : NameOk z) : NameOk (callN z) := by
  have e := callN_cl h.pos
  have t := h.top
  by_cases g : (cl z).length < 8
  · rw [if_pos g] at e
    refine ⟨by rw [e, List.length_append]; show 0 < _ + 1; omega, by rw [e, List.length_append]; show _ + 1 ≤ 8; omega, fun c hc => ?_⟩
    rw [e] at hc
    rcases List.mem_append.mp hc with hc | hc
    · exact h.low c hc
    · rw [List.mem_singleton.mp hc]; unfold low; omega
  · rw [if_neg g] at e
    exact ⟨by rw [e, List.length_drop]; omega, by rw [e, List.length_drop]; omega, fun c hc => h.low c (by rw [e] at hc; exact List.mem_of_mem_drop hc)⟩
theorem longN_len (st : List Nat) (at' : Nat) (first lg : Int) (k : Nat) : (cl (longN st at' first lg k)).length = if lg = 1 ∧ k % 2 = 1 then st.length + 2 else st.length + 1 := by
  unfold longN
  by_cases h : lg = 1 ∧ k % 2 = 1
  · rw [if_pos h, if_pos h, cl_ofL, List.length_append, nameN_len]; rfl
  · rw [if_neg h, if_neg h, nameN_len]
theorem callL_inj {st : List Nat} {at' : Nat} {first lg : Int} {i j : Nat} (l : st.length ≤ 6) (hi : i < 26) (hj : j < 26) (e : callN (longN st at' first lg i) = callN (longN st at' first lg j)) : i = j := by
  have li := longN_len st at' first lg i
  have lj := longN_len st at' first lg j
  have pi' : 1 ≤ (cl (longN st at' first lg i)).length := by rw [li]; split <;> omega
  have pj' : 1 ≤ (cl (longN st at' first lg j)).length := by rw [lj]; split <;> omega
  have e1 := congrArg cl e
  rw [callN_cl pi', callN_cl pj'] at e1
  by_cases g : (cl (longN st at' first lg i)).length < 8 <;> by_cases g' : (cl (longN st at' first lg j)).length < 8
  · rw [if_pos g, if_pos g'] at e1
    exact longN_inj hi hj (cl_inj (List.append_cancel_right e1))
  · rw [if_pos g, if_neg g'] at e1
    have e2 := congrArg List.length e1
    rw [List.length_append, List.length_drop] at e2
    have e3 : (cl (longN st at' first lg i)).length + 1 = (cl (longN st at' first lg j)).length - 1 := e2
    split at li <;> split at lj <;> omega
  · rw [if_neg g, if_pos g'] at e1
    have e2 := congrArg List.length e1
    rw [List.length_append, List.length_drop] at e2
    have e3 : (cl (longN st at' first lg i)).length - 1 = (cl (longN st at' first lg j)).length + 1 := e2
    split at li <;> split at lj <;> omega
  · rw [if_neg g, if_neg g'] at e1
    have hI : lg = 1 ∧ i % 2 = 1 := by
      by_cases h : lg = 1 ∧ i % 2 = 1
      · exact h
      · rw [if_neg h] at li; omega
    have hJ : lg = 1 ∧ j % 2 = 1 := by
      by_cases h : lg = 1 ∧ j % 2 = 1
      · exact h
      · rw [if_neg h] at lj; omega
    unfold longN at e1
    rw [if_pos hI, if_pos hJ, cl_ofL, cl_ofL, List.drop_append_of_le_length (by rw [nameN_len]; omega), List.drop_append_of_le_length (by rw [nameN_len]; omega)] at e1
    have e2 := List.append_inj_right' e1 rfl
    have e3 := (List.cons.inj e2).1
    have hi2 := hI.2
    have hj2 := hJ.2
    omega
theorem gN0 {i : Nat} {v : V} {σ : L2.St} {H : Hp} {k : L2.St → Hp → Prop} (h : k (σ.set i (some v)) H) : gName i v σ H k := h
section
variable {P : Program} {w : World} {K : PySem.W.Frag} {mg : Str → Option Value} {base : Heap}
def spNamesB : Sp := fun vs H Q _ => ∃ (b : Addr) (T m : Nat), vs = [.ref b, .int m] ∧ BoxAt H b T ∧ T + 20 ≤ 1000000 ∧ m ≤ 12 ∧
  ∀ (p : Addr) (zs : List Str) (H' : Hp), zs.length = m → zs.Nodup → (∀ z ∈ zs, NameOk z) → (zs.map callN).Nodup → H p = none → H' p = some (.lst (zs.map V.str)) → BoxAt H' b (T + 20) → Kept [b] H H' → Q (.ref p) H'
theorem Kept.fresh {M : List Addr} {H H' : Hp} (h : Kept M H H') {p : Addr} (n : H' p = none) (hm : ∀ q ∈ M, q ≠ p) : H p = none := by
  cases e : H p with
  | none => rfl
  | some o =>
    have := h p o e fun z => hm p z rfl
    rw [n] at this
    cases this
theorem BoxAt.ne {H : Hp} {b p : Addr} {T : Nat} (S : BoxAt H b T) (n : H p = none) : b ≠ p := by
  obtain ⟨x, y, t, _, _, _, e⟩ := S.ex
  exact ne_of_none e n
abbrev s_law_names : Stmt := topS 34
abbrev N_law_names : List Str := ["box", "many", "letters", "found", "stem", "at", "first", "longer", "k", "one"]
theorem sc_law_names : FnScope N_law_names ["box", "many"] (defScope s_law_names) := ⟨rfl, rfl, rfl, by decide +kernel, rfl, by decide +kernel, by decide +kernel⟩

set_option maxHeartbeats 4000000 in
theorem ok_names {f : Addr} {fd : FuncData} (F : Fun K "_law_names" "_law_names" s_law_names f fd) (nb : NB mg) (D_law_take : Def P w K mg base 1 "_law_take" ["box", "many"] spTakeB) : FnOk P w K mg base CX0 2 f fd ["box", "many"] spNamesB := by
  refine F.ok sc_law_names (fun vs H Q E h => ?_) (fun cdv A outer sh H vs Q E hr h => ?_)
  · obtain ⟨b, T, m, rfl, _⟩ := h
    rfl
  obtain ⟨b, T, m, rfl, S, hT, hm, q⟩ := h
  have nd := sc_law_names.nd
  refine ⟨_, (pss_cons (ps_asg (pe_tup (pa_cons pe_str (pa_cons (pe_lst pa_nil) pa_nil))) (pg_tup rfl (pgs_cons (pg_name (i := 2) nd rfl (Or.inr rfl)) (pgs_cons (pg_name (i := 3) nd rfl (Or.inl rfl)) pgs_nil))))
      (pss_cons (ps_set (i := 4) nd rfl (Or.inl rfl) (pe_join pe_str (pe_lc (own := [("k", 8)]) (g := (gName 8)) (tt := tYes) rfl nd (pi_range1 (by rfl) nb.b_range (pa_cons (pe_own D_law_take hr (pa_cons (pv 0) (pa_cons pe_int pa_nil))) pa_nil)) (blkOk_by (N := N_law_names) (sc := defScope s_law_names) (by decide +kernel)) (fun _ _ _ _ _ => (pg_name (i := 8) nd rfl (Or.inl rfl))) (fun _ _ _ _ _ => pts_nil) (fun _ _ _ _ _ => (pe_item_str (pv 2) (pe_own D_law_take hr (pa_cons (pv 0) (pa_cons pe_int pa_nil))) (fun _ _ => rfl))))))
      (pss_cons (ps_par3 (i := 5) (j := 6) (l := 7) (by rfl) nd rfl rfl rfl (by decide) (by decide) (by decide) rfl rfl rfl (pa_cons (pe_own D_law_take hr (pa_cons (pv 0) (pa_cons (pe_op op_add (pe_callB call_len_str (by rfl) nb.b_len (by decide +kernel) (pa_cons (pv 4) pa_nil)) pe_int) pa_nil))) (pa_cons (pe_own D_law_take hr (pa_cons (pv 0) (pa_cons pe_int pa_nil))) (pa_cons (pe_own D_law_take hr (pa_cons (pv 0) (pa_cons pe_int pa_nil))) pa_nil))) (by rfl))
      (pss_cons (ps_for PassesOwn.never rfl (pi_range1 (by rfl) nb.b_range (pa_cons (pv 1) pa_nil)) (pg_name (i := 8) nd rfl (Or.inl rfl))
        (pss_cons (ps_set (i := 9) nd rfl (Or.inl rfl) (pe_op op_add_str (pe_op op_add_str (pe_slice sl_str (pv 4) po_none (po_some (pv 5))) (pe_item_str (pv 2) (pe_op op_mod (pe_op op_add (pv 6) (pe_op op_mul pe_int (pv 8))) pe_int) (fun _ _ => rfl))) (pe_slice sl_str (pv 4) (po_some (pv 5)) po_none)))
        (pss_one (ps_expr (pe_bm PySem.F.plainAttrs_list PySem.F.slot_list_append PySem.F.type_list_append mt_append (pv 3) (pa_cons (pe_ifExp (pt_cmpR op_eq (pe_op op_mod (pe_op op_mul (pv 7) (pv 8)) pe_int) pe_int (nomark _)) (pe_op op_add_str (pe_ix ix_list (pv 3) (pe_un un_neg pe_int) (fun _ _ => rfl)) (pe_item_str (pv 2) (pe_op op_mod (pe_op op_add (pv 6) (pv 8)) pe_int) (fun _ _ => rfl))) (pv 9)) pa_nil))))))
      (pss_one (ps_ret (pv 3))))))), ?_⟩
  -- letters, found
  refine ⟨Nat.zero_le _, fun F nF => ⟨(by show 2 ≤ sizeLine; decide), fun p0 n0 => ⟨p0, _, rfl, .inl (.inl upd_same), rfl, .str abc, _, rfl, .ref F, _, rfl, rfl, ?_⟩⟩⟩
  have oF : F ∉ [b] := fun z => S.ne nF (List.mem_singleton.mp z).symm
  have nF0 : F ≠ p0 := ne_of_none upd_same n0
  have sP := (same_upd (o := .lst []) nF).trans (same_upd (o := .tup [.str abc, .ref F]) n0)
  have eF0 : (upd (upd H F (.lst [])) p0 (.tup [.str abc, .ref F])) F = some (.lst []) := by rw [upd_ne nF0]; exact upd_same
  have S7 := S.same sP
  show tSeq _ (tSeq _ _) _ [some (.ref b), some (.int m), some (.str abc), some (.ref F), none, none, none, none, none, none] (upd (upd H F (.lst [])) p0 (.tup [.str abc, .ref F]))
  generalize upd (upd H F (.lst [])) p0 (.tup [.str abc, .ref F]) = H7 at sP eF0 S7 ⊢
  -- stem
  refine ⟨⟨_, rfl⟩, .ref b, rfl, b, T, _, rfl, S7, by omega, by decide, by decide, fun nhd Hhd n0hd n1hd Shd Khd => ⟨nhd, rfl, by omega, by omega, fun D nD => ?_⟩⟩
  have nbD := Shd.ne nD
  refine lc_range (lo := 0) (n := nhd.toNat) (fun i H' => ∃ l : List Nat, l.length = i ∧ (∀ x ∈ l, low x) ∧ H' D = some (.lst ((l.map one).map V.str)) ∧ BoxAt H' b (T + 1 + i) ∧ Kept [D, b] Hhd H') ⟨[], rfl, fun _ h => absurd h List.not_mem_nil, upd_same, Shd.same (same_upd nD), Kept.upd_in (List.mem_cons_self ..)⟩ (fun i H5 hi hP => ?_) (fun H10 hP => ?_)
  · obtain ⟨l, el, hl, eD, S5, K5⟩ := hP
    refine ⟨rfl, ?_⟩
    unfold tYes
    dsimp only
    refine iteT ?_
    refine ⟨.str abc, rfl, .ref b, rfl, b, _, _, rfl, S5, by omega, by decide, by decide, fun d H6 d0 d1 S6 K6 => ?_⟩
    obtain ⟨j, rfl⟩ : ∃ j : Nat, d = (j : Int) := ⟨d.toNat, by omega⟩
    have hj : j < 26 := by omega
    have eD6 : H6 D = some (.lst ((l.map one).map V.str)) := K6.at eD (by simp [nbD.symm])
    refine ⟨abc, (j : Int), j + 97, rfl, rfl, by omega, by omega, ?_, ?_, _, eD6, ?_, l ++ [j + 97], ?_, ?_, ?_, ?_, ?_⟩
    · rw [cl_len, abc_cl]; simp; omega
    · show abc.cps[j]? = _
      rw [← Array.getElem?_toList]; exact abc_at hj
    · rw [List.length_map, List.length_map]; exact small1000 (by omega)
    · rw [List.length_append, el]; rfl
    · intro x hx
      rcases List.mem_append.mp hx with h | h
      · exact hl x h
      · rw [List.mem_singleton.mp h]; unfold low; omega
    · rw [upd_same, List.map_append, List.map_append]; rfl
    · exact S6.kept (Kept.upd_in (M := [D]) (List.mem_cons_self ..)) (by simp [nbD])
    · exact (K5.trans (K6.mono (by intro p hp; exact List.mem_cons_of_mem _ hp))).trans (Kept.upd_in (List.mem_cons_self ..))
  obtain ⟨st, elst, hlow, eD, S5, K5⟩ := hP
  refine ⟨_, D, st.map one, rfl, rfl, .inl (.inl (.inl eD)), ?_, ?_⟩
  · rw [List.map_map, sum_ones]
    show st.length + (st.map one).length * 0 ≤ _
    omega
  generalize hz5 : Txt.join (Str.ofString "") (st.map one) = z5
  have c5 : cl z5 = st := by rw [← hz5]; exact join_ones st
  have l5 : z5.length = st.length := by rw [cl_len, c5]
  have st6 : st.length ≤ 6 := by omega
  have S10 : BoxAt H10 b (T + 8) := S5.mono (by omega)
  have K10 : Kept [b] H H10 := (Kept.of_same sP).trans (Khd.trans (K5.new nD))
  have eF10 := (Khd.trans (K5.new nD)).at eF0 oF
  clear eD hz5 nbD Khd Shd S5 K5 nD n1hd n0hd elst eF0 S7 sP
  show tSeq _ _ _ [some (.ref b), some (.int m), some (.str abc), some (.ref F), some (.str z5), none, none, none, none, none] H10
  -- at, first, longer
  refine ⟨.ref b, rfl, .str z5, rfl, z5, rfl, (by rw [l5]; exact Nat.le_of_lt (small1000 (by omega))), _, _, rfl, rfl, b, _, _, rfl, S10, by omega, ?_, ?_, fun a H6 a0 a1 S6 K6 => ?_⟩
  · show (0 : Int) < z5.length + 1; omega
  · show (z5.length : Int) + 1 < 2 ^ 62; omega
  obtain ⟨a, rfl⟩ : ∃ j : Nat, a = (j : Int) := ⟨a.toNat, by omega⟩
  have ha : a ≤ st.length := by
    have a1' : (a : Int) < z5.length + 1 := a1
    omega
  refine ⟨.ref b, rfl, b, _, _, rfl, S6, by omega, by decide, by decide, fun first H8 f0 f1 S8 K8 => ?_⟩
  refine ⟨.ref b, rfl, b, _, _, rfl, S8, by omega, by decide, by decide, fun lg H12 g0 g1 S12 K12 => ⟨_, _, _, rfl, ?_⟩⟩
  have K1012 := K6.trans (K8.trans K12)
  have eF12 := K1012.at eF10 oF
  have KH := K10.trans K1012
  show tSeq _ _ _ [some (.ref b), some (.int m), some (.str abc), some (.ref F), some (.str z5), some (.int a), some (.int first), some (.int lg), none, none] H12
  refine ⟨.int m, rfl, (m : Int), rfl, by omega, by omega, ?_⟩
  have hz : z5.length ≤ sizeLine := by rw [l5]; exact Nat.le_of_lt (small1000 (by omega))
  have la : abc.length = 26 := by rw [cl_len, abc_cl]; simp
  have lone : ∀ c, (one c).length = 1 := fun c => rfl
  have c1 : cl (cutS z5 none (some (a : Int))) = st.take a := by
    rw [cut_cl, c5, HT.sIx_none, HT.sIx_nat, l5, Nat.min_eq_left ha, Nat.sub_zero, List.drop_zero]
  have c2 : cl (cutS z5 (some (a : Int)) none) = st.drop a := by
    rw [cut_cl, c5, HT.sIx_none, HT.sIx_nat, l5, Nat.min_eq_left ha, List.take_of_length_le]
    rw [List.length_drop]
    exact Nat.le_refl _
  refine for_range (lo := 0) (n := (m : Int).toNat) (fun k σ H' => (∃ y8 y9, σ = [some (.ref b), some (.int m), some (.str abc), some (.ref F), some (.str z5), some (.int a), some (.int first), some (.int lg), y8, y9]) ∧
      H' F = some (.lst (((List.range k).map (longN st a first lg)).map V.str)) ∧ Kept [F] H12 H') ⟨⟨_, _, rfl⟩, eF12, Kept.refl _ _⟩ (fun k σ H9 hk hP => ?_) (fun σ H9 hP => ?_)
  · obtain ⟨⟨y8, y9, rfl⟩, eD, kk⟩ := hP
    have hkm : k < m := by omega
    have x0 := Int.emod_nonneg (first + 3 * k) (show (26 : Int) ≠ 0 by decide)
    have x1 := Int.emod_lt_of_pos (first + 3 * k) (show (0 : Int) < 26 by decide)
    have at1 : abc.cps[((first + 3 * k) % 26).toNat]? = some (letN first 3 k) := by rw [← Array.getElem?_toList]; exact abc_at (by omega)
    refine ⟨.str z5, rfl, .int a, rfl, _, rfl, z5, rfl, hz, .str abc, rfl, .int first, rfl, .int (0 + (k : Int)), rfl, _, _, rfl, rfl, .inl ⟨by decide, by decide⟩, _, _, rfl, rfl, _, _, rfl, rfl, (by decide : (0 : Int) < 26), abc, (first + 3 * k) % 26, letN first 3 k, rfl, ?_, x0, by omega, by omega, at1, _, one (letN first 3 k), rfl, rfl, ?_, ?_⟩
    · show V.int ((first + 3 * (0 + (k : Int))) % 26) = _
      rw [Int.zero_add]
    · rw [lone, cl_len, c1, List.length_take]
      exact Nat.le_of_lt (small1000 (by omega))
    refine ⟨.str z5, rfl, .int a, rfl, _, rfl, z5, rfl, hz, _, _, rfl, rfl, ?_, ?_⟩
    · rw [str_len_app, lone, cl_len, c1, cl_len, c2, List.length_take, List.length_drop]
      exact Nat.le_of_lt (small1000 (by omega))
    have en : cutS z5 none (some (a : Int)) ++ one (letN first 3 k) ++ cutS z5 (some (a : Int)) none = nameN st a first k := cl_inj (by
      rw [cl_app, cl_app, c1, c2, nameN_cl, cl_one])
    rw [en]
    have ln : (nameN st a first k).length ≤ 7 := by rw [cl_len, nameN_len]; omega
    have put : ∀ (z : Str), z = longN st a first lg k → (((List.range k).map (longN st a first lg)).map V.str) ++ [V.str z] = (((List.range (k + 1)).map (longN st a first lg)).map V.str) := fun z e => by
      rw [e, List.range_succ, List.map_append, List.map_append]; rfl
    have lL : (((List.range k).map (longN st a first lg)).map V.str).length = k := by rw [List.length_map, List.length_map, List.length_range]
    have hlg : lg = 0 ∨ lg = 1 := by omega
    refine gN0 ?_
    dsimp only [List.set]
    show tDrop _ _ [some (V.ref b), some (.int m), some (.str abc), some (.ref F), some (.str z5), some (.int a), some (.int first), some (.int lg), some (.int (0 + (k : Int))), some (.str (nameN st a first k))] H9
    refine ⟨.ref F, rfl, .inl ⟨rfl, _, .inl (.inl eD)⟩, .int lg, rfl, .int (0 + (k : Int)), rfl, _, _, rfl, rfl, .inl ⟨by omega, by omega⟩, _, _, rfl, rfl, (by decide : (0 : Int) < 2), rfl, _, rfl, ite2 (fun h1 => ?_) (fun h1 => ?_)⟩
    · have h1 : (lg * (0 + (k : Int))) % 2 = 1 := V.int.inj (of_decide_eq_true h1)
      have h2 : lg = 1 ∧ k % 2 = 1 := by
        rcases hlg with rfl | rfl
        · rw [Int.zero_mul] at h1; omega
        · rw [Int.one_mul] at h1; exact ⟨rfl, by omega⟩
      have h3 := h2.2
      have hlast : (((List.range k).map (longN st a first lg)).map V.str)[k - 1]? = some (.str (nameN st a first (k - 1))) := by
        rw [List.getElem?_map, List.getElem?_map, List.getElem?_range (by omega)]
        show some (V.str (longN st a first lg (k - 1))) = _
        unfold longN
        rw [if_neg (by omega)]
      have hat : atI (((List.range k).map (longN st a first lg)).map V.str) (-1) = some (.str (nameN st a first (k - 1))) := by
        unfold atI
        have hix : ixN (((List.range k).map (longN st a first lg)).map V.str).length (-1) = some (k - 1) := by
          rw [lL]
          unfold ixN
          rw [if_neg (by decide), if_pos (by omega)]
          congr 1
          omega
        rw [hix]
        exact hlast
      have w0 := Int.emod_nonneg (first + k) (show (26 : Int) ≠ 0 by decide)
      have w1 := Int.emod_lt_of_pos (first + k) (show (0 : Int) < 26 by decide)
      have at3 : abc.cps[((first + k) % 26).toNat]? = some (((first + k) % 26).toNat + 97) := by rw [← Array.getElem?_toList]; exact abc_at (by omega)
      refine ⟨.ref F, rfl, 1, rfl, F, _, -1, .str (nameN st a first (k - 1)), rfl, rfl, .inl (.inl eD), hat, .str abc, rfl, .int first, rfl, .int (0 + (k : Int)), rfl, _, _, rfl, rfl, _, _, rfl, rfl, (by decide : (0 : Int) < 26), abc, (first + k) % 26, ((first + k) % 26).toNat + 97, rfl, ?_, w0, by omega, by omega, at3, nameN st a first (k - 1), one (((first + k) % 26).toNat + 97), rfl, rfl, ?_, ?_⟩
      · show V.int ((first + (0 + (k : Int))) % 26) = _
        rw [Int.zero_add]
      · rw [lone, cl_len, nameN_len]; exact Nat.le_of_lt (small1000 (by omega))
      have ez : nameN st a first (k - 1) ++ one (((first + k) % 26).toNat + 97) = longN st a first lg k := by
        unfold longN
        rw [if_pos h2]
        exact cl_inj (by rw [cl_app, cl_one, cl_ofL])
      refine ⟨F, _, _, rfl, rfl, eD, by rw [lL]; exact small1000 (by omega), ⟨_, _, rfl⟩, ?_, kk.trans (Kept.upd_in (List.mem_cons_self ..))⟩
      rw [upd_same, put _ ez]
    · have h2 : ¬ (lg = 1 ∧ k % 2 = 1) := fun z => h1 (decide_eq_true (by
        have z2 := z.2
        rw [z.1]
        show V.int (1 * (0 + (k : Int)) % 2) = V.int 1
        rw [show 1 * (0 + (k : Int)) % 2 = 1 by omega]))
      have ez : nameN st a first k = longN st a first lg k := by
        unfold longN
        rw [if_neg h2]
      refine ⟨.str (nameN st a first k), rfl, F, _, _, rfl, rfl, eD, by rw [lL]; exact small1000 (by omega), ⟨_, _, rfl⟩, ?_, kk.trans (Kept.upd_in (List.mem_cons_self ..))⟩
      rw [upd_same, put _ ez]
  · obtain ⟨⟨y8, y9, rfl⟩, eD, kk⟩ := hP
    have hmm : (m : Int).toNat = m := rfl
    rw [hmm] at eD
    refine ⟨.ref F, rfl, q F _ H9 (by rw [List.length_map, List.length_range]) (range_nd fun i j hi hj e => longN_inj (by omega) (by omega) e) (fun z hz => ?_) (by rw [List.map_map]; exact range_nd fun i j hi hj e => callL_inj st6 (by omega) (by omega) e) nF eD ((S12.kept kk (by simp [(S.ne nF)])).mono (by omega)) ?_⟩
    · obtain ⟨k, _, rfl⟩ := List.mem_map.mp hz
      exact longN_ok hlow st6 ..
    · exact fun p o e n => kk p o (KH p o e n) fun z => by rw [List.mem_singleton.mp z, nF] at e; cases e
end
end TT

set_option Elab.async false
set_option linter.all false
set_option maxRecDepth 100000
namespace TT
open PySem PySem.Spec PyProof.Rows L2
/-! ### worths -/
def wV : Option Int → V
  | none => .non
  | some i => .int i
def wD : Option Int → PyData
  | none => .none
  | some i => .int i
def WOk : Option Int → Prop
  | none => True
  | some i => -1000000000 ≤ i ∧ i ≤ 1000000000
theorem dp_w {K : PySem.W.Frag} {H : Hp} : ∀ o : Option Int, Dp K H (wV o) (wD o)
  | none => .non
  | some i => .int i
/-! ### tables as plain data -/
abbrev Col := Str × Option Int
abbrev Tab := Str × List Col
def colD (x : Col) : PyData := .tuple [.str x.1, wD x.2]
def tabD (x : Tab) : PyData := .tuple [.str x.1, .tuple (x.2.map colD)]
structure ColsOk (n : Nat) (cs : List Col) : Prop where
  top : cs.length ≤ n
  nd : (cs.map (·.1)).Nodup
  nm : ∀ x ∈ cs, NameOk x.1
  w : ∀ x ∈ cs, WOk x.2
  key : ∀ x, cs[0]? = some x → x.2 = none
structure TabsOk (n : Nat) (ts : List Tab) : Prop where
  nd : (ts.map (·.1)).Nodup
  nm : ∀ x ∈ ts, NameOk x.1
  cs : ∀ x ∈ ts, ColsOk n x.2 ∧ 0 < x.2.length
theorem strOk_name {z : Str} (h : NameOk z) : PyData.strOk z = true := by
  unfold PyData.strOk
  rw [Array.all_eq_true']
  intro x hx
  have := h.low x (by unfold cl; exact Array.mem_toList_iff.mpr hx)
  unfold low at this
  simp; omega
theorem lay_w : ∀ o : Option Int, (wD o).canLay0 = true ∧ (wD o).depth = 0
  | none => ⟨rfl, rfl⟩
  | some _ => ⟨rfl, rfl⟩
theorem lay_cols : ∀ cs : List Col, (∀ x ∈ cs, NameOk x.1) → PyData.canLayAll0 (cs.map colD) = true ∧ PyData.depthAll (cs.map colD) ≤ 1
  | [], _ => ⟨rfl, Nat.zero_le _⟩
  | x :: cs, h => by
    obtain ⟨h1, h2⟩ := lay_cols cs fun y hy => h y (List.mem_cons_of_mem _ hy)
    have h3 := strOk_name (h x (List.mem_cons_self ..))
    obtain ⟨h4, h5⟩ := lay_w x.2
    constructor
    · show ((PyData.strOk x.1 && ((wD x.2).canLay0 && true)) && PyData.canLayAll0 (cs.map colD)) = true
      rw [h3, h4, h1]; rfl
    · show max (max 0 (max (wD x.2).depth 0) + 1) (PyData.depthAll (cs.map colD)) ≤ 1
      rw [h5]
      exact Nat.max_le.mpr ⟨Nat.le_refl _, h2⟩
theorem shaped_cols {cs : List Col} (h : ∀ x ∈ cs, NameOk x.1) : SeqAt.shaped (.list (cs.map colD)) = true := by
  obtain ⟨h1, h2⟩ := lay_cols cs h
  show (PyData.canLayAll0 (cs.map colD) && decide (PyData.depthAll (cs.map colD) + 1 ≤ 64)) = true
  rw [h1, decide_eq_true (by omega)]; rfl
theorem eqv_nil (ds : List PyData) : PyData.eqv (.list ds) (.list []) = ds.isEmpty := by
  cases ds <;> rfl
theorem msk_at {M : List Addr} {H : Hp} {p : Addr} {o : HO} (h : H p = some o) (n : p ∉ M) : msk M H p = some o := by
  unfold msk
  rw [if_neg n]
  exact h
/-- len of a list or a tuple, named -/
def rLenQ (K : PySem.W.Frag) : List V → Hp → VK → Prop := fun xs H Q => ∃ p ys, xs = [V.ref p] ∧ (SqL K H p ys ∨ SqT K H p ys) ∧ Q (.int (ys.length : Int)) H
/-! ### a list that grows, its items beside what is masked -/
structure Grow (K : PySem.W.Frag) (M : List Addr) (H : Hp) (P : Addr) (vs : List V) (ds : List PyData) : Prop where
  at' : H P = some (.lst vs)
  dp : DpAll K (msk (P :: M) H) vs ds
section
variable {K : PySem.W.Frag} {M : List Addr} {H H' : Hp} {P : Addr} {vs : List V} {ds : List PyData} {v : V} {d : PyData} {o : HO} {s c : Addr}
theorem Grow.start : Grow K M (upd H P (.lst [])) P [] [] := ⟨upd_same, .nil⟩
theorem sub_push : ∀ p ∈ M, p ∈ P :: M := fun _ h => List.mem_cons_of_mem _ h
theorem Grow.kept (g : Grow K M H P vs ds) (k : Kept M H H') (n : P ∉ M) : Grow K M H' P vs ds := ⟨k.at g.at' n, dpAll_same (msk_same (k.mono sub_push)) g.dp⟩
theorem Grow.put (g : Grow K M H P vs ds) (h : Dp K (msk (P :: M) H) v d) : Grow K M (upd H P (.lst (vs ++ [v]))) P (vs ++ [v]) (ds ++ [d]) :=
  ⟨upd_same, dpAll_same (msk_same (Kept.upd_in (List.mem_cons_self ..))) (dpAll_snoc g.dp h)⟩
theorem Grow.done (g : Grow K M H P vs ds) (n : P ∉ M) : Dp K (msk M H) (.ref P) (.list ds) := .lst (.inl (.inl (msk_at g.at' n))) (dpAll_same (msk_less sub_push) g.dp)
theorem Grow.len (g : Grow K M H P vs ds) : vs.length = ds.length := dpAll_len g.dp
end
/-! ### a box's tables -/
theorem BoxAt.out {H : Hp} {b p : Addr} {T : Nat} (S : BoxAt H b T) (n : H p = none) : p ∉ [b] := fun z => by
  have := S.ne n
  exact this (List.mem_singleton.mp z).symm
section
variable {P : Program} {w : World} {K : PySem.W.Frag} {mg : Str → Option Value} {base : Heap}
def spWorthB : Sp := fun vs H Q _ => ∃ (b : Addr) (T : Nat), vs = [.ref b] ∧ BoxAt H b T ∧ T + 2 ≤ 1000000 ∧ ∀ (o : Option Int) (H' : Hp), WOk o → BoxAt H' b (T + 2) → Kept [b] H H' → Q (wV o) H'
abbrev s_law_worth : Stmt := topS 35
abbrev N_law_worth : List Str := ["box", "way"]
theorem sc_law_worth : FnScope N_law_worth ["box"] (defScope s_law_worth) := ⟨rfl, rfl, rfl, by decide +kernel, rfl, by decide +kernel, by decide +kernel⟩

theorem ok_worth {f : Addr} {fd : FuncData} (F : Fun K "_law_worth" "_law_worth" s_law_worth f fd) (D_law_take : Def P w K mg base 1 "_law_take" ["box", "many"] spTakeB) : FnOk P w K mg base CX0 2 f fd ["box"] spWorthB := by
  refine F.ok sc_law_worth (fun vs H Q E h => ?_) (fun cdv A outer sh H vs Q E hr h => ?_)
  · obtain ⟨b, T, rfl, _⟩ := h
    rfl
  obtain ⟨b, T, rfl, S, hT, q⟩ := h
  have nd := sc_law_worth.nd
  refine ⟨_, (pss_cons (ps_set (i := 1) nd rfl (Or.inl rfl) (pe_own D_law_take hr (pa_cons (pv 0) (pa_cons pe_int pa_nil))))
      (pss_cons (ps_if (pt_cmpR op_lt (pv 1) pe_int (nomark _))
        (pss_one (ps_ret pe_non))
        pss_nil)
      (pss_one (ps_ret (pe_ifExp (pt_cmpR op_eq (pv 1) pe_int (nomark _)) (pe_ix ix_list (pe_lst (pa_cons pe_int (pa_cons (pe_un un_neg pe_int) (pa_cons (pe_op op_pow pe_int pe_int) (pa_cons (pe_un un_neg (pe_op op_pow pe_int pe_int)) pa_nil))))) (pe_own D_law_take hr (pa_cons (pv 0) (pa_cons pe_int pa_nil))) (fun _ _ => rfl)) (pe_op op_sub (pe_own D_law_take hr (pa_cons (pv 0) (pa_cons pe_int pa_nil))) pe_int)))))), ?_⟩
  refine ⟨.ref b, rfl, b, T, _, rfl, S, by omega, by decide, by decide, fun way H1 w0 w1 S1 K1 => ?_⟩
  refine ⟨.int way, rfl, _, _, rfl, rfl, _, rfl, ite2 (fun h1 => ?_) (fun h1 => ?_)⟩
  · exact q none H1 trivial (S1.mono (by omega)) K1
  · refine ⟨.int way, rfl, rfl, _, rfl, ite2 (fun h2 => ?_) (fun h2 => ?_)⟩
    · refine ⟨1, rfl, 10, 9, rfl, rfl, ⟨by decide, by decide, by decide⟩, 10, 9, rfl, rfl, ⟨by decide, by decide, by decide⟩, _, rfl, (by show 4 ≤ sizeLine; decide), fun L nL => ?_⟩
      refine ⟨.ref b, rfl, b, _, _, rfl, S1.same (same_upd nL), by omega, by decide, by decide, fun d H2 d0 d1 S2 K2 => ?_⟩
      have oL := S1.out nL
      obtain ⟨o, ho, hat⟩ : ∃ o : Option Int, WOk o ∧ atI [V.int 0, V.int (-1), V.int (10 ^ (9 : Int).toNat), V.int (-(10 ^ (9 : Int).toNat))] d = some (wV o) := by
        have : d = 0 ∨ d = 1 ∨ d = 2 ∨ d = 3 := by omega
        rcases this with rfl | rfl | rfl | rfl
        · exact ⟨some 0, ⟨by decide, by decide⟩, rfl⟩
        · exact ⟨some (-1), ⟨by decide, by decide⟩, rfl⟩
        · exact ⟨some (10 ^ (9 : Int).toNat), ⟨by decide, by decide⟩, rfl⟩
        · exact ⟨some (-(10 ^ (9 : Int).toNat)), ⟨by decide, by decide⟩, rfl⟩
      refine ⟨L, _, _, wV o, rfl, rfl, .inl (.inl (K2.at upd_same oL)), hat, q o H2 ho S2 (K1.trans ((Kept.upd_new nL).trans K2))⟩
    · refine ⟨.ref b, rfl, b, _, _, rfl, S1, by omega, by decide, by decide, fun d H2 d0 d1 S2 K2 => ⟨_, _, rfl, rfl, ?_⟩⟩
      exact q (some (d - 3)) H2 ⟨by omega, by omega⟩ S2 (K1.trans K2)
def spOneOf (K : PySem.W.Frag) : Sp := fun vs H Q _ => ∃ (b p : Addr) (T : Nat) (xs : List V), vs = [.ref b, .ref p] ∧ BoxAt H b T ∧ T ≤ 1000000 ∧ (SqL K (msk [b] H) p xs ∨ SqT K (msk [b] H) p xs) ∧ 0 < xs.length ∧ xs.length < 2 ^ 62 ∧
  ∀ (j : Nat) (v : V) (H' : Hp), xs[j]? = some v → BoxAt H' b (T + 1) → Kept [b] H H' → Q v H'
abbrev s_law_one_of : Stmt := topS 36
abbrev N_law_one_of : List Str := ["box", "some"]
theorem sc_law_one_of : FnScope N_law_one_of ["box", "some"] (defScope s_law_one_of) := ⟨rfl, rfl, rfl, by decide +kernel, rfl, by decide +kernel, by decide +kernel⟩

theorem ok_one_of {f : Addr} {fd : FuncData} (F : Fun K "_law_one_of" "_law_one_of" s_law_one_of f fd) (nb : NB mg) (D_law_take : Def P w K mg base 1 "_law_take" ["box", "many"] spTakeB) : FnOk P w K mg base CX0 2 f fd ["box", "some"] (spOneOf K) := by
  refine F.ok sc_law_one_of (fun vs H Q E h => ?_) (fun cdv A outer sh H vs Q E hr h => ?_)
  · obtain ⟨b, p, T, xs, rfl, _⟩ := h
    rfl
  obtain ⟨b, p, T, xs, rfl, S, hT, hx, l0, l1, q⟩ := h
  have nd := sc_law_one_of.nd
  have hu := hu_of hr
  refine ⟨_, (pss_one (ps_ret (pe_ix ix_seq (pv 1) (pe_own D_law_take hr (pa_cons (pv 0) (pa_cons (pe_callB call_len (by rfl) nb.b_len (by decide +kernel) (pa_cons (pv 1) pa_nil)) pa_nil))) (fun _ _ => rfl)))), ?_⟩
  refine ⟨.ref p, rfl, .ref b, rfl, .ref p, rfl, .ref p, xs.length, rfl, ?_, b, T, _, rfl, S, hT, by omega, by omega, fun d H1 h0 h1 S1 K1 => ?_⟩
  · rcases hx with hx | hx
    · exact .inl ⟨xs, (msk_sub _ _).seq hx, rfl⟩
    · exact .inr ⟨xs, sameT (msk_sub _ _) hx, rfl⟩
  obtain ⟨j, rfl⟩ : ∃ j : Nat, d = (j : Int) := ⟨d.toNat, by omega⟩
  have hj : j < xs.length := by omega
  have gj : xs[j]? = some xs[j] := List.getElem?_eq_getElem hj
  rcases hx with hx | hx
  · exact .inl ⟨p, xs, _, _, rfl, rfl, ((msk_same K1).trans (msk_sub _ _)).seq hx, atI_nat gj, q j _ H1 gj S1 K1⟩
  · exact .inr (.inl ⟨p, xs, _, _, rfl, rfl, sameT ((msk_same K1).trans (msk_sub _ _)) hx, atI_nat gj, q j _ H1 gj S1 K1⟩)
end
end TT

set_option Elab.async false
set_option linter.all false
set_option maxRecDepth 100000
namespace TT
open PySem PySem.Spec PyProof.Rows L2
theorem rot_nd {zs : List Str} (h : zs.Nodup) (i : Nat) : (zs.drop i ++ zs.take i).Nodup := by
  have h1 : (zs.take i ++ zs.drop i).Nodup := by rw [List.take_append_drop]; exact h
  exact (List.perm_append_comm).nodup_iff.mp h1
theorem rot_len (zs : List Str) (i : Nat) : (zs.drop i ++ zs.take i).length = zs.length := by
  rw [List.length_append, List.length_drop, List.length_take]; omega
theorem rot_mem {zs : List Str} {i : Nat} {z : Str} (h : z ∈ zs.drop i ++ zs.take i) : z ∈ zs := by
  rcases List.mem_append.mp h with h | h
  · exact List.mem_of_mem_drop h
  · exact List.mem_of_mem_take h
section
variable {P : Program} {w : World} {K : PySem.W.Frag} {mg : Str → Option Value} {base : Heap}
def spTablesB (K : PySem.W.Frag) : Sp := fun vs H Q _ => ∃ (b : Addr) (T m : Nat), vs = [.ref b, .int m] ∧ BoxAt H b T ∧ T + 300 ≤ 1000000 ∧ 0 < m ∧ m ≤ 6 ∧
  ∀ (p : Addr) (ts : List Tab) (H' : Hp), 0 < ts.length → ts.length ≤ m → TabsOk 5 ts → ((ts.map (·.1)).map callN).Nodup → H p = none → Dp K (msk [b] H') (.ref p) (.tuple (ts.map tabD)) → BoxAt H' b (T + 300) → Kept [b] H H' → Q (.ref p) H'
abbrev s_law_tables : Stmt := topS 37
abbrev N_law_tables : List Str := ["box", "most", "names", "columns", "found", "name", "turned", "many", "own", "one"]
theorem sc_law_tables : FnScope N_law_tables ["box", "most"] (defScope s_law_tables) := ⟨rfl, rfl, rfl, by decide +kernel, rfl, by decide +kernel, by decide +kernel⟩

set_option maxHeartbeats 4000000 in
theorem ok_tables {f : Addr} {fd : FuncData} (F : Fun K "_law_tables" "_law_tables" s_law_tables f fd) (nb : NB mg) (D_law_take : Def P w K mg base 1 "_law_take" ["box", "many"] spTakeB)
    (D_law_names : Def P w K mg base 2 "_law_names" ["box", "many"] spNamesB) (D_law_worth : Def P w K mg base 2 "_law_worth" ["box"] spWorthB) : FnOk P w K mg base CX0 3 f fd ["box", "most"] (spTablesB K) := by
  refine F.ok sc_law_tables (fun vs H Q E h => ?_) (fun cdv A outer sh H vs Q E hr h => ?_)
  · obtain ⟨b, T, m, rfl, _⟩ := h
    rfl
  obtain ⟨b, T, m, rfl, S, hT, hm0, hm, q⟩ := h
  have nd := sc_law_tables.nd
  refine ⟨_, (pss_cons (ps_par3 (i := 2) (j := 3) (l := 4) (by rfl) nd rfl rfl rfl (by decide) (by decide) (by decide) rfl rfl rfl (pa_cons (pe_own D_law_names hr (pa_cons (pv 0) (pa_cons (pe_op op_add pe_int (pe_own D_law_take hr (pa_cons (pv 0) (pa_cons (pv 1) pa_nil)))) pa_nil))) (pa_cons (pe_own D_law_names hr (pa_cons (pv 0) (pa_cons pe_int pa_nil))) (pa_cons (pe_lst pa_nil) pa_nil))) (by rfl))
      (pss_cons (ps_for PassesOwn.never rfl (pi_list (pv 2)) (pg_name (i := 5) nd rfl (Or.inl rfl))
        (pss_cons (ps_par (i := 6) (j := 7) (by rfl) nd rfl rfl (by decide) rfl rfl (pa_cons (pe_own D_law_take hr (pa_cons (pv 0) (pa_cons pe_int pa_nil))) (pa_cons (pe_op op_add pe_int (pe_own D_law_take hr (pa_cons (pv 0) (pa_cons pe_int pa_nil)))) pa_nil)) (by rfl))
        (pss_cons (ps_set (i := 8) nd rfl (Or.inl rfl) (pe_slice sl_list (pe_op op_cat (pe_slice sl_list (pv 3) (po_some (pv 6)) po_none) (pe_slice sl_list (pv 3) po_none (po_some (pv 6)))) po_none (po_some (pv 7))))
        (pss_one (ps_expr (pe_bm PySem.F.plainAttrs_list PySem.F.slot_list_append PySem.F.type_list_append mt_append (pv 4) (pa_cons (pe_tup (pa_cons (pv 5) (pa_cons (pe_callTy call_tuple_of (by rfl) nb.b_tuple (by decide +kernel) (pa_cons (pe_op op_cat (pe_lst (pa_cons (pe_tup (pa_cons (pe_ix ix_list (pv 8) pe_int (fun _ _ => rfl)) (pa_cons pe_non pa_nil))) pa_nil)) (pe_lc (own := [("one", 9)]) (g := (gName 9)) (tt := tYes) rfl nd (pi_list (pe_slice sl_list (pv 8) (po_some pe_int) po_none)) (blkOk_by (N := N_law_tables) (sc := defScope s_law_tables) (by decide +kernel)) (fun _ _ _ _ _ => (pg_name (i := 9) nd rfl (Or.inl rfl))) (fun _ _ _ _ _ => pts_nil) (fun _ _ _ _ _ => (pe_tup (pa_cons (pv 9) (pa_cons (pe_own D_law_worth hr (pa_cons (pv 0) pa_nil)) pa_nil)))))) pa_nil)) pa_nil))) pa_nil)))))))
      (pss_one (ps_ret (pe_callTy call_tuple_of (by rfl) nb.b_tuple (by decide +kernel) (pa_cons (pv 4) pa_nil)))))), ?_⟩
  -- names, columns, found
  refine ⟨.ref b, rfl, .ref b, rfl, .int m, rfl, b, _, (m : Int), rfl, S, by omega, by omega, by omega, fun d H1 d0 d1 S1 K1 => ⟨_, _, rfl, rfl, ?_⟩⟩
  obtain ⟨mm, hmm⟩ : ∃ mm : Nat, 1 + d = (mm : Int) := ⟨(1 + d).toNat, by omega⟩
  refine ⟨b, _, mm, congrArg (fun z => [V.ref b, V.int z]) hmm, S1, by omega, by omega, fun pn zs H2 lzs ndzs okzs clzs fzs eZs S2 K2 => ?_⟩
  refine ⟨.ref b, rfl, b, _, 5, rfl, S2, by omega, by decide, fun cn zc H3 lzc ndzc okzc _ fzc eZc S3 K3 => ⟨Nat.zero_le _, fun F nF => ⟨_, _, _, rfl, ?_⟩⟩⟩
  have oPn := S1.out fzs
  have oCn := S2.out fzc
  have oF := S3.out nF
  have eZs3 := (K3.trans (Kept.upd_new (o := .lst []) nF)).at eZs oPn
  have eZc3 := (Kept.upd_new (M := [b]) (o := .lst []) nF).at eZc oCn
  have eF3 : (upd H3 F (.lst [])) F = some (.lst []) := upd_same
  have S4 := S3.same (same_upd (o := .lst []) nF)
  have fF : H F = none := (K1.trans (K2.trans K3)).fresh nF fun p hp => by rw [List.mem_singleton.mp hp]; exact S3.ne nF
  have K04 : Kept [F, b] H (upd H3 F (.lst [])) := ((K1.trans (K2.trans K3)).mono fun p h => List.mem_cons_of_mem _ h).trans (Kept.upd_new nF)
  show tSeq _ _ _ [some (.ref b), some (.int m), some (.ref pn), some (.ref cn), some (.ref F), none, none, none, none, none] (upd H3 F (.lst []))
  generalize upd H3 F (.lst []) = H4 at eZs3 eZc3 eF3 S4 K04 ⊢
  have nFp : F ≠ pn := fun z => by rw [z] at nF; rw [K3.at eZs oPn] at nF; cases nF
  have nFc : F ≠ cn := fun z => by rw [z] at nF; rw [eZc] at nF; cases nF
  refine ⟨.ref pn, rfl, pn, rfl, ⟨_, .inl (.inl eZs3)⟩, ?_⟩
  refine for_it (walk_list (xs := zs.map V.str)) (fun i σ H' => (∃ y5 y6 y7 y8, σ = [some (.ref b), some (.int m), some (.ref pn), some (.ref cn), some (.ref F), y5, y6, y7, y8, none]) ∧ (∃ us ts, Grow K [b] H' F us (ts.map tabD) ∧ ts.map (·.1) = zs.take i ∧ ∀ x ∈ ts, ColsOk 5 x.2 ∧ 0 < x.2.length) ∧
      BoxAt H' b (T + 41 + i * 12) ∧ H' cn = some (.lst (zc.map V.str)) ∧ H' pn = some (.lst (zs.map V.str)) ∧ Kept [F, b] H H') ⟨⟨_, _, _, _, rfl⟩, ⟨[], [], ⟨eF3, .nil⟩, rfl, fun _ h => absurd h List.not_mem_nil⟩, S4.mono (by omega), eZc3, eZs3, K04⟩ (fun i σ H' _ hP => .inl (.inl hP.2.2.2.2.1)) (fun i x σ H' H5 hi hP hY => ?_) (fun σ H5 hP => ?_)
  · obtain ⟨rfl, hx⟩ := hY
    obtain ⟨⟨y5, y6, y7, y8, rfl⟩, ⟨us, ts, gr, htn, hts⟩, S5, eC5, eZ5, K05⟩ := hP
    have hi' : i < mm := by rw [List.length_map, lzs] at hi; exact hi
    rw [List.getElem?_map] at hx
    obtain ⟨z, hz, rfl⟩ := Option.map_eq_some_iff.mp hx
    -- turned, many
    refine ⟨.ref b, rfl, b, _, 5, rfl, S5, by omega, by decide, by decide, fun t H6 t0 t1 S6 K6 => ?_⟩
    refine ⟨.ref b, rfl, b, _, 5, rfl, S6, by omega, by decide, by decide, fun u H7 u0 u1 S7 K7 => ⟨_, _, rfl, rfl, _, _, rfl, ?_⟩⟩
    obtain ⟨tt, rfl⟩ : ∃ tt : Nat, t = (tt : Int) := ⟨t.toNat, by omega⟩
    obtain ⟨uu, huu⟩ : ∃ uu : Nat, 1 + u = (uu + 1 : Nat) := ⟨u.toNat, by omega⟩
    have K57 := K6.trans K7
    have eC7 := K57.at eC5 oCn
    show tSeq _ _ _ [some (.ref b), some (.int m), some (.ref pn), some (.ref cn), some (.ref F), some (.str z), some (.int tt), some (.int (1 + u)), y8, none] H7
    rw [huu]
    -- own
    refine ⟨.ref cn, rfl, .int tt, rfl, _, rfl, cn, _, rfl, .inl (.inl eC7), fun a1 na1 => ?_⟩
    rw [cut_lo]
    have v1 := same_upd (o := .lst ((zc.map V.str).drop tt)) na1
    refine ⟨.ref cn, rfl, .int tt, rfl, _, rfl, cn, _, rfl, .inl (.inl (v1 _ _ eC7)), fun a2 na2 => ?_⟩
    rw [cut_hi]
    have v2 := same_upd (o := .lst ((zc.map V.str).take tt)) na2
    have n12 : a1 ≠ a2 := ne_of_none upd_same na2
    refine ⟨a1, a2, _, _, rfl, rfl, (by rw [upd_ne n12]; exact upd_same), upd_same, Nat.le_of_lt (small1000 (by rw [List.length_drop, List.length_take, List.length_map]; omega)), fun a3 na3 => ?_⟩
    have v3 := same_upd (o := .lst ((zc.map V.str).drop tt ++ (zc.map V.str).take tt)) na3
    refine ⟨.int ((uu + 1 : Nat) : Int), rfl, _, rfl, a3, _, rfl, .inl (.inl upd_same), fun N nN => ?_⟩
    rw [cut_hi]
    have v4 := same_upd (o := .lst (((zc.map V.str).drop tt ++ (zc.map V.str).take tt).take (uu + 1))) nN
    have v7N := v1.trans (v2.trans (v3.trans v4))
    have eN : (upd (upd (upd (upd H7 a1 (.lst ((zc.map V.str).drop tt))) a2 (.lst ((zc.map V.str).take tt))) a3 (.lst ((zc.map V.str).drop tt ++ (zc.map V.str).take tt))) N (.lst (((zc.map V.str).drop tt ++ (zc.map V.str).take tt).take (uu + 1)))) N = some (.lst (((zc.map V.str).drop tt ++ (zc.map V.str).take tt).take (uu + 1))) := upd_same
    have ez : ((zc.map V.str).drop tt ++ (zc.map V.str).take tt).take (uu + 1) = (((zc.drop tt ++ zc.take tt).take (uu + 1))).map V.str := by
      rw [List.map_take, List.map_append, List.map_drop, List.map_take]
    refine gN0 ?_
    dsimp only [List.set]
    show tDrop _ _ [some (.ref b), some (.int m), some (.ref pn), some (.ref cn), some (.ref F), some (.str z), some (.int tt), some (.int ((uu + 1 : Nat) : Int)), some (.ref N), none] (upd (upd (upd (upd H7 a1 (.lst ((zc.map V.str).drop tt))) a2 (.lst ((zc.map V.str).take tt))) a3 (.lst ((zc.map V.str).drop tt ++ (zc.map V.str).take tt))) N (.lst (((zc.map V.str).drop tt ++ (zc.map V.str).take tt).take (uu + 1))))
    obtain ⟨zx, hzx⟩ : ∃ zx, zx = zc.drop tt ++ zc.take tt := ⟨_, rfl⟩
    have lx : zx.length = 5 := by rw [hzx, rot_len, lzc]
    have ndx : zx.Nodup := by rw [hzx]; exact rot_nd ndzc tt
    have okx : ∀ z ∈ zx, NameOk z := fun z h => okzc z (rot_mem (by rw [← hzx]; exact h))
    generalize upd (upd (upd (upd H7 a1 (.lst ((zc.map V.str).drop tt))) a2 (.lst ((zc.map V.str).take tt))) a3 (.lst ((zc.map V.str).drop tt ++ (zc.map V.str).take tt))) N (.lst (((zc.map V.str).drop tt ++ (zc.map V.str).take tt).take (uu + 1))) = H9 at eN v7N ⊢
    rw [ez, ← hzx] at eN
    have S9 := S7.same v7N
    have K59 : Kept [b] H5 H9 := K57.trans (Kept.of_same v7N)
    have gF9 := gr.kept K59 oF
    obtain ⟨c0, zr, rfl⟩ : ∃ c0 zr, zx = c0 :: zr := by
      cases zx with
      | nil => cases lx
      | cons a r => exact ⟨a, r, rfl⟩
    have lzr : zr.length = 4 := by simpa using lx
    have euu : uu ≤ 4 := by omega
    have ezr : (c0 :: zr).take (uu + 1) = c0 :: zr.take uu := rfl
    rw [ezr] at eN
    refine ⟨.ref F, rfl, .inl ⟨rfl, _, .inl (.inl gF9.at')⟩, .str z, rfl, .ref N, rfl, N, _, 0, .str c0, rfl, rfl, .inl (.inl eN), atI_nat (j := 0) rfl, (by show 2 ≤ sizeLine; decide), fun tp ntp => ⟨(by show 1 ≤ sizeLine; decide), fun C nC => ?_⟩⟩
    have ntC : tp ≠ C := ne_of_none upd_same nC
    have sN := (same_upd (o := .tup [.str c0, .non]) ntp).trans (same_upd (o := .lst [.ref tp]) nC)
    have S10 := S9.same sN
    have eN10 := sN _ _ eN
    have nFt : F ≠ tp := ne_of_none gF9.at' ntp
    have etp : (upd (upd H9 tp (.tup [.str c0, .non])) C (.lst [.ref tp])) tp = some (.tup [.str c0, .non]) := by rw [upd_ne ntC, upd_same]
    have eC10 : (upd (upd H9 tp (.tup [.str c0, .non])) C (.lst [.ref tp])) C = some (.lst [.ref tp]) := upd_same
    have nbt := S9.ne ntp
    have K510 : Kept [b] H5 (upd (upd H9 tp (.tup [.str c0, .non])) C (.lst [.ref tp])) := K59.trans (Kept.of_same sN)
    have gF10 := gF9.kept (Kept.of_same (M := [b]) sN) oF
    have d0' : Dp K (msk [F, b] (upd (upd H9 tp (.tup [.str c0, .non])) C (.lst [.ref tp]))) (.ref tp) (colD (c0, none)) := .tup (.inl (.inl (msk_at etp (by simp [nFt.symm, nbt.symm])))) (.cons (.str _) (.cons .non .nil))
    generalize upd (upd H9 tp (.tup [.str c0, .non])) C (.lst [.ref tp]) = H10 at S10 eN10 eC10 K510 gF10 d0' ⊢
    refine ⟨.ref N, rfl, 1, rfl, N, _, rfl, .inl (.inl eN10), fun N2 nN2 => ?_⟩
    rw [show (1 : Int) = ((1 : Nat) : Int) from rfl, cut_lo]
    have eN2 : (upd H10 N2 (.lst (((c0 :: zr.take uu).map V.str).drop 1))) N2 = some (.lst ((zr.take uu).map V.str)) := upd_same
    have sN2 := same_upd (o := .lst (((c0 :: zr.take uu).map V.str).drop 1)) nN2
    have S11 := S10.same sN2
    have eC11 := sN2 _ _ eC10
    have K511 := K510.trans (Kept.of_same (M := [b]) sN2)
    have gF11 := gF10.kept (Kept.of_same (M := [b]) sN2) oF
    have d1' := dp_same (msk_same (Kept.of_same (M := [F, b]) sN2)) d0'
    generalize upd H10 N2 (.lst (((c0 :: zr.take uu).map V.str).drop 1)) = H11 at eN2 S11 eC11 K511 gF11 d1' ⊢
    refine ⟨N2, rfl, ⟨_, .inl (.inl eN2)⟩, fun D nD => ?_⟩
    have nFD : F ≠ D := ne_of_none gF11.at' nD
    have nbD := S11.ne nD
    have nCD : C ≠ D := ne_of_none eC11 nD
    have oN2 : N2 ∉ [D, b] := by
      have h1 : N2 ≠ D := ne_of_none eN2 nD
      have h2 : b ≠ N2 := S10.ne nN2
      simp [h1, h2.symm]
    have oC' : C ∉ [D, b] := by
      have h2 : b ≠ C := (S9.same (same_upd (o := .tup [.str c0, .non]) ntp)).ne nC
      simp [nCD, h2.symm]
    refine lc_it (walk_list (xs := (zr.take uu).map V.str)) (fun k H' => (∃ cu cols, Grow K [F, b] H' D cu (cols.map colD) ∧ cols.map (·.1) = zr.take k ∧ ∀ x ∈ cols, WOk x.2) ∧ BoxAt H' b (T + 41 + i * 12 + 2 + k * 2) ∧ Kept [D, b] H11 H') ⟨⟨[], [], .start, rfl, fun _ h => absurd h List.not_mem_nil⟩, (S11.same (same_upd nD)).mono (by omega), Kept.upd_new nD⟩ (fun k H' _ hP => .inl (.inl (hP.2.2.at eN2 oN2))) (fun k x H' H'' hk hP hY => ?_) (fun H12 hP => ?_)
    · obtain ⟨rfl, hx⟩ := hY
      obtain ⟨⟨cu, cols, gc, hcn, hcw⟩, S12, K12⟩ := hP
      rw [List.getElem?_map] at hx
      obtain ⟨cn', hcn2, rfl⟩ := Option.map_eq_some_iff.mp hx
      have hk5 : k < uu := by
        rw [List.length_map, List.length_take] at hk
        omega
      refine ⟨rfl, ?_⟩
      unfold tYes
      dsimp only
      refine iteT ?_
      refine ⟨.str cn', rfl, .ref b, rfl, b, _, rfl, S12, by omega, fun o Ha ho Sa Ka => ⟨(by show 2 ≤ sizeLine; decide), fun t nt => ?_⟩⟩
      have oD : D ∉ [F, b] := by simp [nFD.symm, nbD.symm]
      have gca := gc.kept (Ka.mono fun p h => by rw [List.mem_singleton.mp h]; simp) oD
      have gcb := gca.kept (Kept.upd_new (M := [F, b]) (o := .tup [.str cn', wV o]) nt) oD
      have nDt : D ≠ t := ne_of_none gca.at' nt
      have nbt2 := Sa.ne nt
      have nFt2 : F ≠ t := ne_of_none (Ka.at (K12.at gF11.at' (by simp [nFD, S.ne fF |>.symm])) oF) nt
      have hcl : cols.length = k := by
        have := congrArg List.length hcn
        rw [List.length_map, List.length_take] at this
        omega
      have hcz : zr[k]? = some cn' := by
        rw [List.getElem?_take_of_lt hk5] at hcn2
        exact hcn2
      have put := gcb.put (v := .ref t) (d := colD (cn', o)) (.tup (.inl (.inl (msk_at upd_same (by simp [nDt.symm, nFt2.symm, nbt2.symm])))) (.cons (.str _) (.cons (dp_w o) .nil)))
      refine ⟨cu, gcb.at', small1000 (by rw [gc.len, List.length_map, hcl]; omega), ⟨_, cols ++ [(cn', o)], by rw [List.map_append]; exact put, ?_, ?_⟩, ?_, ?_⟩
      · rw [List.map_append, hcn, List.take_add_one, hcz]; rfl
      · intro x hx
        rcases List.mem_append.mp hx with h | h
        · exact hcw x h
        · rw [List.mem_singleton.mp h]; exact ho
      · exact ((Sa.same (same_upd nt)).kept (Kept.upd_in (M := [D]) (List.mem_cons_self ..)) (by simp [nbD])).mono (by omega)
      · exact K12.trans (((Ka.mono fun p h => List.mem_cons_of_mem _ h).trans (Kept.upd_new nt)).trans (Kept.upd_in (List.mem_cons_self ..)))
    · obtain ⟨⟨cu, cols, gc, hcn, hcw⟩, S12, K12⟩ := hP
      have lzt : (zr.take uu).length = uu := by rw [List.length_take, lzr]; omega
      rw [List.length_map, lzt] at hcn S12
      have hcl : cols.length = uu := by
        have := congrArg List.length hcn
        rw [List.length_map, List.length_take] at this
        omega
      have nD5 : H5 D = none := K511.fresh nD fun p hp => by rw [List.mem_singleton.mp hp]; exact nbD
      have k12 : Kept [b] H5 H12 := by
        have k1 : Kept (D :: [b]) H5 H12 := (K511.mono fun p h => List.mem_cons_of_mem _ h).trans K12
        exact k1.new nD5
      have k1112 : Kept [b] H11 H12 := K12.new nD
      have gF12 := gF11.kept k1112 oF
      have eC12 := K12.at eC11 oC'
      have d2' := dp_same (msk_same (k1112.mono fun p h => List.mem_cons_of_mem F h)) d1'
      have dcu : DpAll K (msk [F, b] H12) cu (cols.map colD) := dpAll_same (msk_less sub_push) gc.dp
      have dall : DpAll K (msk [F, b] H12) ([.ref tp] ++ cu) (((c0, none) :: cols).map colD) := .cons d2' dcu
      refine ⟨C, D, _, _, rfl, rfl, eC12, gc.at', Nat.le_of_lt (small1000 (by rw [gc.len, List.length_map, hcl]; show 1 + _ ≤ 1000; omega)), fun G nG => ?_⟩
      have sG := same_upd (o := .lst ([.ref tp] ++ cu)) nG
      refine ⟨G, _, rfl, .inl ⟨.inl (.inl upd_same), fun l nl => ⟨(by show 2 ≤ sizeLine; decide), fun t nt => ?_⟩⟩⟩
      have sl := same_upd (o := .tup ([.ref tp] ++ cu)) nl
      have st := same_upd (o := .tup [.str z, .ref l]) nt
      have s3 := sG.trans (sl.trans st)
      have gft := gF12.kept (Kept.of_same (M := [b]) s3) oF
      have nlt : l ≠ t := ne_of_none upd_same nt
      have nFl : F ≠ l := ne_of_none (sG _ _ gF12.at') nl
      have nFt2 : F ≠ t := ne_of_none ((sG.trans sl) _ _ gF12.at') nt
      have nbl := (S12.same sG).ne nl
      have nbt2 := (S12.same (sG.trans sl)).ne nt
      have okc : ColsOk 5 ((c0, none) :: cols) := by
        have hnm : (((c0, none) :: cols).map (·.1)) = (c0 :: zr).take (uu + 1) := by
          rw [List.map_cons, hcn, List.take_succ_cons]
        refine ⟨by rw [List.length_cons, hcl]; omega, by rw [hnm]; exact ndx.sublist (List.take_sublist _ _), fun x hx => okx _ (List.mem_of_mem_take (by rw [← hnm]; exact List.mem_map.mpr ⟨x, hx, rfl⟩)), fun x hx => ?_, fun x hx => ?_⟩
        · rcases List.mem_cons.mp hx with rfl | h
          · trivial
          · exact hcw x h
        · cases hx; rfl
      have hdp : Dp K (msk (F :: [b]) (upd (upd (upd H12 G (.lst ([.ref tp] ++ cu))) l (.tup ([.ref tp] ++ cu))) t (.tup [.str z, .ref l]))) (.ref t) (tabD (z, (c0, none) :: cols)) :=
        .tup (.inl (.inl (msk_at upd_same (by simp [nFt2.symm, nbt2.symm])))) (.cons (.str _) (.cons (.tup (.inl (.inl (msk_at (by rw [upd_ne nlt]; exact upd_same) (by simp [nFl.symm, nbl.symm])))) (dpAll_same (msk_same (Kept.of_same s3)) dall)) .nil))
      have put := gft.put hdp
      have hlt : ts.length = i := by
        have := congrArg List.length htn
        rw [List.length_map, List.length_take, lzs] at this
        omega
      refine ⟨F, us, .ref t, rfl, rfl, gft.at', small1000 (by rw [gr.len, List.length_map, hlt]; omega), ⟨_, _, _, _, rfl⟩, ⟨_, ts ++ [(z, (c0, none) :: cols)], by rw [List.map_append]; exact put, ?_, ?_⟩, ?_, ?_, ?_, ?_⟩
      · rw [List.map_append, htn, List.take_add_one, hz]; rfl
      · intro y hy
        rcases List.mem_append.mp hy with h | h
        · exact hts y h
        · rw [List.mem_singleton.mp h]; exact ⟨okc, Nat.succ_pos _⟩
      · exact ((S12.same s3).kept (Kept.upd_in (M := [F]) (List.mem_cons_self ..)) (by simp [S.ne fF])).mono (by omega)
      · rw [upd_ne nFc.symm]
        exact s3 _ _ (k12.at eC5 oCn)
      · rw [upd_ne nFp.symm]
        exact s3 _ _ (k12.at eZ5 oPn)
      · exact K05.trans (((k12.mono fun p h => List.mem_cons_of_mem _ h).trans (Kept.of_same s3)).trans (Kept.upd_in (List.mem_cons_self ..)))
  · obtain ⟨⟨y5, y6, y7, y8, rfl⟩, ⟨us, ts, gr, htn, hts⟩, S5, eC5, eZ5, K05⟩ := hP
    rw [List.length_map, List.take_length] at htn
    refine ⟨.ref F, rfl, F, us, rfl, .inl ⟨.inl (.inl gr.at'), fun l nl => ?_⟩⟩
    have lts : ts.length = mm := by rw [← List.length_map (as := ts) (fun x => x.1), htn, lzs]
    have nFl : F ≠ l := ne_of_none gr.at' nl
    have sl := same_upd (o := .tup us) nl
    have fl : H l = none := by
      refine K05.fresh nl fun p hp => ?_
      simp only [List.mem_cons, List.not_mem_nil, or_false] at hp
      rcases hp with rfl | rfl
      · exact nFl
      · exact S5.ne nl
    refine q l ts _ (by omega) (by omega) ⟨by rw [htn]; exact ndzs, fun x hx => okzs _ (by rw [← htn]; exact List.mem_map.mpr ⟨x, hx, rfl⟩), hts⟩ (by rw [htn]; exact clzs) fl (.tup (.inl (.inl (msk_at upd_same (S5.out nl)))) ?_) ((S5.same sl).mono (by rw [List.length_map, lzs]; omega)) ?_
    · exact dpAll_same ((msk_less sub_push).trans (msk_same (Kept.of_same sl))) gr.dp
    · exact (K05.new fF).trans (Kept.upd_new nl)
end
end TT

set_option Elab.async false
set_option linter.all false
set_option maxRecDepth 100000
namespace TT
open PySem PySem.Spec PyProof.Rows L2
/-! ### how many unlike texts a list has -/
def addNew (acc : List Str) (v : Str) : List Str := if v ∈ acc then acc else acc ++ [v]
def unlike (xs : List Str) : List Str := xs.foldl addNew []
theorem unlike_snoc (xs : List Str) (v : Str) : unlike (xs ++ [v]) = addNew (unlike xs) v := by
  unfold unlike
  rw [List.foldl_append]
  rfl
theorem addNew_mem (acc : List Str) (v k : Str) : k ∈ addNew acc v ↔ k ∈ acc ∨ k = v := by
  unfold addNew
  by_cases h : v ∈ acc
  · rw [if_pos h]
    exact ⟨.inl, fun q => q.elim id fun e => by rw [e]; exact h⟩
  · rw [if_neg h, List.mem_append, List.mem_singleton]
theorem addNew_len (acc : List Str) (v : Str) : (addNew acc v).length = if v ∈ acc then acc.length else acc.length + 1 := by
  unfold addNew
  split <;> simp
/-- the texts are unlike just where the set is as long as the list -/
theorem unlike_spec : ∀ (n : Nat) (xs : List Str), xs.length = n → (∀ k, k ∈ unlike xs ↔ k ∈ xs) ∧ (unlike xs).length ≤ n ∧ ((unlike xs).length = n ↔ xs.Nodup)
  | 0, xs, h => by
    have e : xs = [] := List.length_eq_zero_iff.mp h
    subst e
    exact ⟨fun _ => Iff.rfl, Nat.le_refl _, by simp [unlike]⟩
  | n + 1, xs, h => by
    have hne : xs ≠ [] := fun z => by rw [z] at h; cases h
    have e : xs = xs.dropLast ++ [xs.getLast hne] := (List.dropLast_concat_getLast hne).symm
    have hl : xs.dropLast.length = n := by rw [List.length_dropLast]; omega
    generalize xs.getLast hne = v at e
    generalize xs.dropLast = ys at e hl
    subst e
    obtain ⟨h1, h2, h3⟩ := unlike_spec n ys hl
    rw [unlike_snoc]
    refine ⟨fun k => ?_, ?_, ?_⟩
    · rw [addNew_mem, h1, List.mem_append, List.mem_singleton]
    · rw [addNew_len]; split <;> omega
    · rw [addNew_len, List.nodup_append]
      by_cases hv : v ∈ unlike ys
      · rw [if_pos hv]
        have hv' := (h1 v).mp hv
        constructor
        · intro z; omega
        · intro ⟨_, _, z⟩
          exact absurd rfl (z v hv' v (List.mem_singleton.mpr rfl))
      · rw [if_neg hv]
        have hv' : v ∉ ys := fun z => hv ((h1 v).mpr z)
        constructor
        · intro z
          refine ⟨h3.mp (by omega), by simp, fun a ha b hb e => hv' ?_⟩
          rw [List.mem_singleton.mp hb] at e
          rw [← e]; exact ha
        · intro ⟨z, _, _⟩
          rw [h3.mpr z]
theorem unlike_nodup (xs : List Str) : decide (((unlike xs).length : Int) = (xs.length : Int)) = decide (xs.Nodup) := by
  obtain ⟨_, _, h⟩ := unlike_spec _ xs rfl
  by_cases e : xs.Nodup
  · rw [decide_eq_true e, h.mpr e]; exact decide_eq_true rfl
  · rw [decide_eq_false e]
    exact decide_eq_false fun z => e (h.mp (by omega))

/-! ### the set's own loop, texts drawn from anything that is walked -/
section
variable {prog : Program} {w : World} {A : Around} {Rs : Result → Shared → Prop} {I : Addr} {fp wr : List Addr} {G : Array GenState → Array GenState → Prop} {n : Nat} {Y : Nat → Value → Prop} {St : Nat → Shared → Prop}
abbrev HasSet (prog : Program) (w : World) (h : Heap) (a : Addr) (xs : List Str) : Prop := h.SetOf (PySem.strKind prog w) a (fun k => decide (k ∈ unlike xs)) (unlike xs).length
theorem draw_texts (W : WalksS prog w A.in1 I fp wr G n Y St) (a : Addr) (ha : a ∉ fp) (xs : List Str) (hn : xs.length = n) (hb : n + 1 < scanBound) (hv : ∀ i v, Y i v → ∃ t x, xs[i]? = some x ∧ v = .str x t) :
    ∀ (m i : Nat) (s : Shared), i + m = n → St i s → HasSet prog w s.heap a (xs.take i) →
      (∀ s', Moved (a :: wr) G s s' → HasSet prog w s'.heap a xs → Rs (.ok (.ret .none)) s') → codeAny (model prog w) A (.builtin "set.update.loop" ⟨[.ref a, .ref I], []⟩) Rs s := by
  have haw : a ∉ wr := fun z => ha (W.sub _ z)
  have more : ∀ b ∈ wr, b ∈ a :: wr := fun b z => List.mem_cons_of_mem _ z
  intro m
  induction m with
  | zero =>
    intro i s him hst hS hR
    obtain rfl : i = n := by omega
    rw [← hn, List.take_length] at hS
    refine codeAny_builtin PyProof.Rows.F.entry_set_update_loop ?_
    rw [Around.under_plainId PyProof.Rows.F.plain_set_update_loop _]
    show wpAny _ A.in1 (pyNext (.ref I) >>= _) _ _ s
    refine wpAny_bind (W.done s _ _ hst fun s' mv => ?_)
    show wpAny _ A.in1 (ret Value.none) _ _ s'
    refine wpAny_pure (hR s' (mv.mono more) ?_)
    obtain ⟨o, es, ep, t, ho, r⟩ := hS
    exact ⟨o, es, ep, t, mv.heap a _ haw ho, r⟩
  | succ m ih =>
    intro i s him hst hS hR
    refine codeAny_builtin PyProof.Rows.F.entry_set_update_loop ?_
    rw [Around.under_plainId PyProof.Rows.F.plain_set_update_loop _]
    show wpAny _ A.in1 (pyNext (.ref I) >>= _) _ _ s
    refine wpAny_bind (W.item i s _ _ (by omega) hst fun v s' hy hst' mv => ?_)
    obtain ⟨t, x, hx, rfl⟩ := hv i v hy
    have hS' : HasSet prog w s'.heap a (xs.take i) := by
      obtain ⟨o, es, ep, tb, ho, r⟩ := hS
      exact ⟨o, es, ep, tb, mv.heap a _ haw ho, r⟩
    show wpAny _ A.in1 (holding [Value.str x t] (setAdd a (.str x t)) >>= _) _ _ s'
    refine wpAny_bind (wpAny_holding ?_)
    unfold setAdd
    refine wpAny_holding (wpAny_bind ((PySem.strKind prog w).pyHash (k := x) (strKind_is _ _ _ _) ?_))
    have len : (unlike (xs.take i)).length ≤ i := by
      have q := (unlike_spec _ (xs.take i) rfl).2.1
      rw [List.length_take] at q
      omega
    refine wpAny_setAddHashed_of (knd := PySem.strKind prog w) (s := { s' with toks := s'.toks + 1 }) (strKind_is _ _ _ _) rfl hS' (by omega) fun h' sb hS2 => ?_
    have et : xs.take (i + 1) = xs.take i ++ [x] := by rw [List.take_add_one, hx]; rfl
    have hS3 : HasSet prog w h' a (xs.take (i + 1)) := by
      refine PyProof.Rows.SetOf_congr hS2 (fun k => ?_) ?_
      · rw [et, unlike_snoc]
        by_cases h1 : k ∈ unlike (xs.take i)
        · simp [addNew_mem, h1]
        · simp [addNew_mem, h1]
      · rw [et, unlike_snoc, addNew_len]
        by_cases h1 : x ∈ unlike (xs.take i)
        · simp [h1]
        · simp [h1]
    refine wpAny_pure ⟨plainId_quiet PyProof.Rows.F.plain_set_update_loop _, ih (i + 1) _ (by omega) (W.frame _ s' _ _ hst' (Nat.le_succ _) fun b hb o e => ?_) hS3 fun s2 mv2 hS4 => ?_⟩
    · rw [sb.2 b fun z => ha (by rw [← z]; exact hb)]; exact e
    · refine hR s2 (Moved.trans W.gtrans ((mv.mono more).then_heap (Nat.le_succ _) fun b o hb e => ?_) mv2) hS4
      rw [sb.2 b fun z => hb (by rw [z]; exact List.mem_cons_self)]; exact e
end
section
variable {prog : Program} {w : World} {A : Around} {E : Value → Shared → Prop} {s : Shared}
/-- what a new set object is -/
abbrev bareSet (led : Bool) : Obj := { cls := .type "set", dict := none, data := .set #[] 0 (.fresh 0 0 led) }
theorem texts_at {us : List Value} {xs : List Str} (r : Vals (xs.map V.str) us) (i : Nat) (v : Value) (e : us[i]? = some v) : ∃ t x, xs[i]? = some x ∧ v = .str x t := by
  have hl : xs.length = us.length := by rw [← r.length, List.length_map]
  have hi : i < xs.length := by rw [hl]; exact (List.getElem?_eq_some_iff.mp e).1
  obtain ⟨u, h1, t, h2⟩ := r.get (i := i) (x := .str xs[i]) (by rw [List.getElem?_map, List.getElem?_eq_getElem hi]; rfl)
  rw [e] at h1
  cases h1
  exact ⟨t, xs[i], List.getElem?_eq_getElem hi, h2⟩
set_option maxHeartbeats 4000000 in
/-- set(xs), xs a list of texts -/
theorem call_set_texts {l : Addr} {items : Array Value} {xs : List Str} {Q : Value → Shared → Prop} (hh : A.handled = none) (hl : s.heap.IsList l items) (hi : Vals (xs.map V.str) items.toList) (hb : xs.length + 1 < scanBound)
    (q : ∀ (h' : Heap) (tk : Nat), HasSet prog w h' s.heap.objs.size xs → (∀ b o, b < s.heap.objs.size → s.heap.get? b = some o → h'.get? b = some o) → Q (.ref s.heap.objs.size) { s with heap := h', toks := tk }) :
    wpAny (model prog w) A (call (.type "set") [.ref l]) Q E s := by
  have size : xs.length = items.size := by rw [← Array.length_toList, ← hi.length, List.length_map]
  obtain ⟨c, tl, hmro⟩ := PySem.F.called_set.mro
  have g1 := PySem.F.called_set.made
  have g2 := PySem.F.called_set.sub
  have g3 := PySem.F.called_set.notType
  have g4 := PySem.F.called_set.canCreate
  have g5 := PySem.F.typeCall_set_1 (.ref l)
  refine wpAny_call (codeAny_of_tree ?_)
  show wpAny _ _ (callAny (.type "set") _) _ _ _
  refine wpAny_pure ⟨Code.quiet_builtin _ (by decide +kernel), codeAny_builtin PySem.F.entry_type_call ?_⟩
  rw [Around.under_plain (weight_type_call_type "set" [.ref l] []) rfl]
  repeat (any_goals (first | assumption | wp_step))
  -- the new object
  refine codeAny_mono (code_set_new_1 (.ref l) (E := E) (Q₁ := fun v s1 => ∃ led : Bool, v = .ref s.heap.objs.size ∧ s1 = { s with heap := s.heap.push (bareSet led) }) fun led => ⟨led, rfl, rfl⟩) fun r s1 hr => ?_
  rcases r with e | fl
  · exact hr
  cases fl with
  | next => exact hr.elim
  | brk => exact hr.elim
  | cont => exact hr.elim
  | ret v =>
    obtain ⟨led, rfl, rfl⟩ := hr
    have gN : (s.heap.push (bareSet led)).get? s.heap.objs.size = some (bareSet led) := Heap.get?_push_size _ rfl
    have gT : Shared.TypeIs { s with heap := s.heap.push (bareSet led) } (.ref s.heap.objs.size) "set" := ⟨_, gN, rfl⟩
    have g6 := PySem.F.called_set.init.lookup
    have g7 := PySem.F.called_set.init.bind (.ref s.heap.objs.size)
    repeat (any_goals (first | assumption | wp_step))
    -- its __init__
    refine codeAny_mono (codeAny_call_builtin (R := wants (fun r s2 => r = .none ∧ ∃ h' tk, s2 = { s with heap := h', toks := tk } ∧ HasSet prog w h' s.heap.objs.size xs ∧ (∀ b o, b < s.heap.objs.size → s.heap.get? b = some o → h'.get? b = some o)) E)
      PySem.F.called_set.init.plain PySem.F.entry_set_init (check_set_init_1 gT ?_)) fun r2 s2 hr2 => ?_
    · obtain ⟨⟨oc, od, oda, osl⟩, go, hc, nl, hd⟩ := hl
      simp only at hc hd
      subst hc
      subst hd
      have go' : (s.heap.push (bareSet led)).get? l = some { cls := .type "list", dict := od, data := .seq items nl, slots := osl } := Heap.get?_push_of_some _ go
      have g8 := PySem.F.sub_list_set
      have g9 := PySem.F.sub_list_frozenset
      have g10 : (Value.type "list" == Value.type "dict") = false := by decide
      have gl : (s.heap.push (bareSet led)).IsList l items := ⟨_, go', rfl, nl, rfl⟩
      unfold Builtin.«set.__init__» noKeywords Builtin.Frozenset.updateFrom
      generalize hPI : pyIter = PI
      wp_walk
      subst hPI
      refine wpAny_pyIter_list gl (wpAny_bind (wpAny_runValue ?_))
      have ll : l < s.heap.objs.size := Heap.lt_size go
      have sz1 : (s.heap.push (bareSet led)).objs.size = s.heap.objs.size + 1 := Heap.size_push ..
      have a1 : l ≠ (s.heap.push (bareSet led)).objs.size := by rw [sz1]; exact Nat.ne_of_lt (Nat.lt_succ_of_lt ll)
      have a2 : s.heap.objs.size ∉ [(s.heap.push (bareSet led)).objs.size, l] := by
        rw [sz1]
        intro z
        rcases List.mem_cons.mp z with z | z
        · exact Nat.ne_of_lt (Nat.lt_succ_self _) z
        · exact Nat.ne_of_gt ll (List.mem_singleton.mp z)
      have a3 : A.in1.in1.in1.handled = none := by simp [hh]
      refine draw_texts (xs := xs) ((Walks.list a3 _ l a1 items).toS) s.heap.objs.size a2 size (by rw [← size]; exact hb) (fun i v e => texts_at hi i v (by rw [Array.getElem?_toList]; exact e)) items.size 0 _ (by omega) ⟨⟨_, Heap.get?_push_size _ rfl, rfl, rfl⟩, gl.push _⟩ ?_ ?_
      · refine PyProof.Rows.SetOf_congr ((PyProof.Rows.setObjOf_fresh (knd := PySem.strKind prog w) led).setOf (Heap.get?_push_of_some _ gN) (by unfold scanBound; omega)) (fun k => ?_) rfl
        simp [unlike]
      · rintro ⟨h', g', d', tk', os'⟩ mv hS
        obtain rfl : g' = s.gens := mv.gens
        obtain rfl : d' = s.drawn := mv.drawn
        obtain rfl : os' = s.os := mv.os
        show wpAny _ _ _ _ _ _
        refine wpAny_pure ?_
        show wpAny _ _ (ret Value.none) _ _ _
        refine wpAny_pure ⟨rfl, h', tk', rfl, hS, fun b o lt e => mv.heap b o ?_ (Heap.get?_push_of_some _ (Heap.get?_push_of_some _ e))⟩
        rw [sz1]
        intro z
        rcases List.mem_cons.mp z with z | z
        · exact Nat.ne_of_lt lt z
        · exact Nat.ne_of_lt (Nat.lt_succ_of_lt lt) (List.mem_singleton.mp z)
    · rcases r2 with e | fl2
      · exact hr2
      cases fl2 with
      | next => exact hr2.elim
      | brk => exact hr2.elim
      | cont => exact hr2.elim
      | ret r =>
        obtain ⟨rfl, h', tk, rfl, hS, keep⟩ := hr2
        repeat (any_goals (first | assumption | wp_step))
        exact q _ _ hS keep
end
/-- len(set(xs)), xs a list of texts -/
def tLenUnlike (K : PySem.W.Frag) (ta : TE) : TE := fun σ H Q => ta σ H fun x H1 => ∃ (l : Addr) (xs : List Str), x = .ref l ∧ SqL K H1 l (xs.map V.str) ∧ xs.length ≤ 1000 ∧ Q (.int (unlike xs).length) H1
theorem pe_lenUnlike {X : Cx} {a : Expr} {ta : TE} {p p2 q pos : Pos} (hm : X.mg "len" = none) (hm2 : X.mg "set" = none) (ha : PE X a ta) (hg : Gl X "len" := by rfl) (hg2 : Gl X "set" := by rfl) (hc : X.calm = true := by rfl)
    (na : starEach [a] X.env = (false, eval a X.env) :: starEach [] X.env := by rfl) : PE X (.Call (.Name "len" p) [.Call (.Name "set" p2) [a] [] q] [] pos) (tLenUnlike X.K ta) := by
  refine ⟨fun pins s σ H Q I h => ?_⟩
  refine Call_ (ld_blt I hg hm boot_len (PyProof.Rows.callWith_builtin1 (PyProof.Rows.args_cons ?_ rfl) rfl rfl))
  refine Call_ (ld_blt I hg2 hm2 boot_set ?_)
  refine PyProof.Rows.callWith_type1 (PyProof.Rows.args_cons (thn (ha.run pins s σ H _ I h) fun v s1 ⟨x, H1, I1, r1, q1⟩ => PyProof.Rows.args_nil ?_) na) na rfl
  obtain ⟨l, xs, rfl, hq, hl, q1⟩ := q1
  cases r1
  obtain ⟨its, r, pl, hz⟩ := I1.list hq
  refine call_set_texts (I1.ok.hd hc) pl.isList (by simpa using r) (by unfold scanBound; omega) fun h' tk hS hk => PyProof.Rows.args_nil ?_
  obtain ⟨o, es, ep, t, ho, hex, hd, _, _, _, hf, hn⟩ := hS
  have I2 : Inv X pins σ H1 { s1 with heap := h', toks := tk } := I1.kept fun b o e => hk b o (Heap.lt_size e) e
  have lu := (unlike_spec _ xs rfl).2.1
  exact call_len_set ho hex hd hf (by rw [hn] <;> omega) ⟨.int (unlike xs).length, H1, I2.tok _, ⟨_, by rw [hn]⟩, q1⟩
end TT

set_option Elab.async false
set_option linter.all false
set_option maxRecDepth 100000
namespace TT
open PySem PySem.Spec PyProof.Rows L2
/-! ### repr of data -/
def rRepr (K : PySem.W.Frag) : List V → Hp → VK → Prop := fun xs H Q => ∃ (v : V) (d : PyData), xs = [v] ∧ Dp K H v d ∧ d.showable = true ∧ d.hasDict = false ∧ d.depth ≤ 60 ∧ d.shown.length ≤ sizeLine ∧ Q (.str d.shown) H
section
variable {X : Cx} {k : Nat}
theorem call_repr_d (hg : X.A.guards = some []) (hr : Room k X.A) : CallR X (.builtin "repr") (rRepr X.K) := by
  intro pins s σ H xs us Q I r h
  obtain ⟨v, d, rfl, hd, h1, h2, h3, h4, q⟩ := h
  obtain ⟨u, rfl, rv⟩ := vals1 r
  obtain ⟨as, rd⟩ := Dp.reads I d v u hd rv
  have hu := hr.units
  have big : ∀ a, u = .ref a → wpAny (model X.prog X.w) X.A (call (.builtin "repr") [u]) (EP X pins σ Q) X.xe s := by
    intro a e
    subst e
    refine repr_of_reads' rd h1 (PyData.noDict_hsm h2) hg (by omega) (fun _ _ e => e) (fun h' t tk hk => ?_) h4
    exact ⟨.str d.shown, H, I.kept (t' := tk) hk, ⟨t, rfl⟩, q⟩
  cases hd with
  | non => cases rv; exact P.repr_of_none ⟨.str _, H, I.tok _, ⟨_, rfl⟩, q⟩
  | bl b => cases rv; exact P.repr_of_bool ⟨.str _, H, I.tok _, ⟨_, by cases b <;> rfl⟩, q⟩
  | int i => obtain ⟨t, rfl⟩ := rv; exact P.repr_of_int (of_decide_eq_true h1) ⟨.str _, H, I.tok _, ⟨_, rfl⟩, q⟩
  | str x => obtain ⟨t, rfl⟩ := rv; exact P.repr_of_str ⟨.str _, H, I.tok _, ⟨_, rfl⟩, q⟩ h4
  | lst _ _ => cases rv; exact big _ rfl
  | tup _ _ => cases rv; exact big _ rfl
end
/-! ### a def's promise where nothing is being shown -/
structure FnG (P : Program) (w : World) (K : PySem.W.Frag) (mg : Str → Option Value) (base : Heap) (CX : CXT) (k : Nat) (f : Addr) (fd : FuncData) (ps : List Str) (sp : Sp) : Prop where
  len : ∀ vs H Q E, sp vs H Q E → vs.length = ps.length
  run : ∀ (A : Around) (outer : List Env) (s : Shared) (H : Hp) (args : Args) (us : List Value) (vs : List V) (Q : VK) (E : XK), Room k A → A.guards = some [] → Env0 P w K mg base A outer s H → BindsTo s fd args (ps.zip us) → Vals vs us → sp vs H Q E →
    codeAny (model P w) A (.call (.ref f) args) (CR CX outer P w H s Q E) s
section
variable {P : Program} {w : World} {K : PySem.W.Frag} {mg : Str → Option Value} {base : Heap} {CX : CXT} {k : Nat}
theorem FnG.of {f : Addr} {fd : FuncData} {ps : List Str} {sp : Sp} (F : FnOk P w K mg base CX k f fd ps sp) : FnG P w K mg base CX k f fd ps sp :=
  ⟨F.len, fun A outer s H args us vs Q E hr _ e0 hb r h => F.run A outer s H args us vs Q E hr e0 hb r h⟩
/-- a def by its body, where nothing is being shown -/
theorem okG {x qual : Str} {st : Stmt} {f : Addr} {fd : FuncData} {N ps : List Str} {sp : Sp} (F : Fun K x qual st f fd) (S : FnScope N ps (defScope st)) (len : ∀ vs H Q E, sp vs H Q E → vs.length = ps.length)
    (body : ∀ (cdv : Value) (A : Around) (outer : List Env) (s : Shared) (H : Hp) (vs : List V) (Q : VK) (E : XK), Room k (A.deeper (envOfC qual (defScope st) s.heap.objs.size f cdv)) → (A.deeper (envOfC qual (defScope st) s.heap.objs.size f cdv)).guards = some [] → sp vs H Q E →
      ∃ t, PSs (cxOf CX0 P w K mg base N qual (defScope st) f cdv A outer s H E).nox (defBody st) t ∧ t { nx := fun _ H' => Q .non H', rt := Q } (L2.start N vs) H) : FnG P w K mg base CX0 (k + 1) f fd ps sp := by
  obtain ⟨oc, od, kV, doc, pm, an, cdv, ct, osl, rfl, lk, hcd⟩ := F.ex
  refine ⟨len, fun A outer s H args us vs Q E hr hg e0 hb r hsp => ?_⟩
  have same : ∀ b o, base.get? b = some o → s.heap.get? b = some o := fun b o e => (e0.bs b o e).1
  have KX : K.In s.heap := e0.mod.kin.keeps same
  have lim : s.heap.NoLimit := e0.mod.nolimit.keeps same
  refine codeAny_call_function hr.depth (KX _ _ lk) rfl S.co S.gen rfl (PySem.W.codeRec_of KX hcd) (hb _ _ _ _ ?_)
  refine wpAny_newFunctionEnv_cells S.kind (fun y hy => ?_) fun env he s1 x => ?_
  · rcases S.par y.1 (List.of_mem_zip (show (y.1, y.2) ∈ ps.zip us from hy)).1 with q | q
    · exact .inl q
    · exact .inr ⟨q, PySem.W.cellsFrom_some _ _ _ (.inl q)⟩
  · subst he
    refine ⟨lim.keeps x.toInCall.keep, codeAny_func ?_⟩
    obtain ⟨t, ht, hq⟩ := body cdv A outer s H vs Q E (hr.deeper _) hg hsp
    have I := inv_start (CX := CX0) (E := E) S hr.hd e0 (len _ _ _ _ hsp) r x
    refine wpAny_mono (ht.nox.run [] s1 (L2.start N vs) H _ I hq) (fun fl s' hs => ?_) fun e s' hs => hs
    cases fl with
    | next => exact let ⟨_, H', J, q⟩ := hs; ⟨V.non, H', J.os, J.bare, J.base, J.hok, rfl, q⟩
    | ret u => exact let ⟨v, _, H', J, rv, q⟩ := hs; ⟨v, H', J.os, J.bare, J.base, J.hok, rv, q⟩
    | brk => exact let ⟨_, _, _, q⟩ := hs; False.elim q
    | cont => exact let ⟨_, _, _, q⟩ := hs; False.elim q
end
/-! ### its call -/
def DefG (P : Program) (w : World) (K : PySem.W.Frag) (mg : Str → Option Value) (base : Heap) (k : Nat) (x : Str) (ps : List Str) (sp : Sp) : Prop :=
  ∃ f fd, mg x = some (.ref f) ∧ PySem.W.keepIn K (.ref f) = true ∧ Binds K fd ps [] ∧ FnG P w K mg base CX0 k f fd ps sp
theorem DefG.mk {P : Program} {w : World} {K : PySem.W.Frag} {mg : Str → Option Value} {base : Heap} {k : Nat} {x : Str} {ps : List Str} {sp : Sp} {f : Addr} {fd : FuncData} (h1 : mg x = some (.ref f)) (h2 : PySem.W.keepIn K (.ref f) = true) (h3 : Binds K fd ps []) (h4 : FnG P w K mg base CX0 k f fd ps sp) : DefG P w K mg base k x ps sp := ⟨f, fd, h1, h2, h3, h4⟩
section
variable {X : Cx} {k j : Nat} {x : Str} {ps : List Str} {sp : Sp} {p pos : Pos} {e : Expr} {es : List Expr} {t : TA}
theorem pe_ownG (D : DefG X.prog X.w X.K X.mg X.base k x ps sp) (hA : X.A.guards = some []) (hr : Room j X.A) (ha : PA X (e :: es) t) (hkj : k ≤ j := by decide) (hg : Gl X x := by rfl) (hdb : (x == ("__debug__" : Str)) = false := by decide)
    (he : starEach (e :: es) X.env = (false, eval e X.env) :: starEach es X.env := by rfl) (hpl : (backTo pos (starEach es X.env)).any (·.1) = false := by rfl) :
    PE X (.Call (.Name x p) (e :: es) [] pos) (tCall sp [] E0 t) := by
  obtain ⟨f, fd, hm, hk, hb, F⟩ := D
  refine ⟨fun pins s σ H Q I h => wpAny_Call_Name_kw (ld_glob I hg hm ?_ hdb)⟩
  refine PySem.W.callWith_K (h₀ := X.base) I.ok.mod.kin hk (thn (ha.run pos pins s σ H _ I h) fun us s1 ⟨vs, H1, I1, r, q⟩ => ⟨I1.kIn, ?_⟩) he hpl
  have q' : sp vs H1 Q E0 := by rw [← List.append_nil vs]; exact q
  have hl : us.length = ps.length := by rw [← r.length]; exact F.len _ _ _ _ q'
  have hbd := hb s1 us I1.kIn (by rw [List.append_nil]; exact hl)
  rw [List.append_nil] at hbd
  refine wpAny_call (codeAny_mono (F.run X.A X.stack s1 H1 ⟨us, []⟩ us vs Q E0 (hr.mono hkj) hA I1.env0 hbd r q') fun rs s' hq => ?_)
  rcases rs with err | fl
  · exact False.elim hq
  · cases fl with
    | ret u => exact I1.after hq
    | next => exact False.elim hq
    | brk => exact False.elim hq
    | cont => exact False.elim hq
end
end TT

set_option Elab.async false
set_option linter.all false
set_option maxRecDepth 100000
namespace TT
open PySem PySem.Spec PyProof.Rows L2
/-! ### what is told of data -/
def tyN : PyData → String
  | .none => "NoneType"
  | .bool _ => "bool"
  | .int _ => "int"
  | .str _ => "str"
  | .list _ => "list"
  | .tuple _ => "tuple"
  | .dict _ => "dict"
theorem dp_ty {K : PySem.W.Frag} {H : Hp} {v : V} {d : PyData} (h : Dp K H v d) : TyX K H v (.type (tyN d)) := by
  cases h with
  | non => exact .base .non
  | bl b => exact .base (.bl b)
  | int i => exact .base (.int i)
  | str x => exact .base (.str x)
  | lst h _ =>
    rcases h with (h | ⟨o, h⟩) | ⟨o, _, _, h, c, _⟩
    · exact .base (.lst h)
    · exact .base (.frz h)
    · exact .kList h c
  | tup h _ =>
    rcases h with (h | ⟨o, h⟩) | ⟨o, _, _, h, c, _⟩
    · exact .base (.tup h)
    · exact .fTuple h
    · exact .kTuple h c
def isIB : PyData → Bool
  | .int _ | .bool _ => true
  | _ => false
def isBB : PyData → Bool
  | .bool _ => true
  | _ => false
def isSB : PyData → Bool
  | .str _ => true
  | _ => false
def isTB : PyData → Bool
  | .tuple _ => true
  | _ => false
def isLB : PyData → Bool
  | .list _ => true
  | _ => false
theorem kit_i {K : PySem.W.Frag} (d : PyData) : PySem.W.kitOne K (.type (tyN d)) (.type "int") = some (isIB d) := by
  cases d
  · exact kit_ty (show kitB "NoneType" "int" = some false by decide +kernel)
  · exact kit_ty (show kitB "bool" "int" = some true by decide +kernel)
  · exact kit_ty (show kitB "int" "int" = some true by decide +kernel)
  · exact kit_ty (show kitB "str" "int" = some false by decide +kernel)
  · exact kit_ty (show kitB "list" "int" = some false by decide +kernel)
  · exact kit_ty (show kitB "tuple" "int" = some false by decide +kernel)
  · exact kit_ty (show kitB "dict" "int" = some false by decide +kernel)
theorem kit_b {K : PySem.W.Frag} (d : PyData) : PySem.W.kitOne K (.type (tyN d)) (.type "bool") = some (isBB d) := by
  cases d
  · exact kit_ty (show kitB "NoneType" "bool" = some false by decide +kernel)
  · exact kit_ty (show kitB "bool" "bool" = some true by decide +kernel)
  · exact kit_ty (show kitB "int" "bool" = some false by decide +kernel)
  · exact kit_ty (show kitB "str" "bool" = some false by decide +kernel)
  · exact kit_ty (show kitB "list" "bool" = some false by decide +kernel)
  · exact kit_ty (show kitB "tuple" "bool" = some false by decide +kernel)
  · exact kit_ty (show kitB "dict" "bool" = some false by decide +kernel)
theorem kit_s {K : PySem.W.Frag} (d : PyData) : PySem.W.kitOne K (.type (tyN d)) (.type "str") = some (isSB d) := by
  cases d
  · exact kit_ty (show kitB "NoneType" "str" = some false by decide +kernel)
  · exact kit_ty (show kitB "bool" "str" = some false by decide +kernel)
  · exact kit_ty (show kitB "int" "str" = some false by decide +kernel)
  · exact kit_ty (show kitB "str" "str" = some true by decide +kernel)
  · exact kit_ty (show kitB "list" "str" = some false by decide +kernel)
  · exact kit_ty (show kitB "tuple" "str" = some false by decide +kernel)
  · exact kit_ty (show kitB "dict" "str" = some false by decide +kernel)
theorem kit_t {K : PySem.W.Frag} (d : PyData) : PySem.W.kitOne K (.type (tyN d)) (.type "tuple") = some (isTB d) := by
  cases d
  · exact kit_ty (show kitB "NoneType" "tuple" = some false by decide +kernel)
  · exact kit_ty (show kitB "bool" "tuple" = some false by decide +kernel)
  · exact kit_ty (show kitB "int" "tuple" = some false by decide +kernel)
  · exact kit_ty (show kitB "str" "tuple" = some false by decide +kernel)
  · exact kit_ty (show kitB "list" "tuple" = some false by decide +kernel)
  · exact kit_ty (show kitB "tuple" "tuple" = some true by decide +kernel)
  · exact kit_ty (show kitB "dict" "tuple" = some false by decide +kernel)
theorem kit_l {K : PySem.W.Frag} (d : PyData) : PySem.W.kitOne K (.type (tyN d)) (.type "list") = some (isLB d) := by
  cases d
  · exact kit_ty (show kitB "NoneType" "list" = some false by decide +kernel)
  · exact kit_ty (show kitB "bool" "list" = some false by decide +kernel)
  · exact kit_ty (show kitB "int" "list" = some false by decide +kernel)
  · exact kit_ty (show kitB "str" "list" = some false by decide +kernel)
  · exact kit_ty (show kitB "list" "list" = some true by decide +kernel)
  · exact kit_ty (show kitB "tuple" "list" = some false by decide +kernel)
  · exact kit_ty (show kitB "dict" "list" = some false by decide +kernel)
theorem kit_tl {K : PySem.W.Frag} (d : PyData) : PySem.W.kitAny K (.type (tyN d)) [.type "tuple", .type "list"] = some (isTB d || isLB d) :=
  kitAny_cons (b := isTB d) (kit_t d) (fun h => by
    rw [h]
    exact kitAny_cons (b := isLB d) (kit_l d) (fun h => by rw [h]; exact kitAny_nil) fun h => by rw [h]; rfl) fun h => by rw [h]; rfl
theorem kit_lt {K : PySem.W.Frag} (d : PyData) : PySem.W.kitAny K (.type (tyN d)) [.type "list", .type "tuple"] = some (isLB d || isTB d) :=
  kitAny_cons (b := isLB d) (kit_l d) (fun h => by
    rw [h]
    exact kitAny_cons (b := isTB d) (kit_t d) (fun h => by rw [h]; exact kitAny_nil) fun h => by rw [h]; rfl) fun h => by rw [h]; rfl
/-! sizes -/
mutual
def Fit : PyData → Prop
  | .str z => z.length ≤ 10000
  | .list ds | .tuple ds => ds.length ≤ 900 ∧ FitAll ds
  | _ => True
def FitAll : List PyData → Prop
  | [] => True
  | d :: ds => Fit d ∧ FitAll ds
end
theorem fit_mem : ∀ {ds : List PyData} {d : PyData}, FitAll ds → d ∈ ds → Fit d
  | d :: ds, e, h, m => by
    rcases List.mem_cons.mp m with rfl | m
    · exact h.1
    · exact fit_mem h.2 m
theorem fit_of : ∀ {ds : List PyData}, (∀ d ∈ ds, Fit d) → FitAll ds
  | [], _ => trivial
  | d :: ds, h => ⟨h d (List.mem_cons_self ..), fit_of fun e m => h e (List.mem_cons_of_mem _ m)⟩
theorem dpAll_at {K : PySem.W.Frag} {H : Hp} {ds : List PyData} {vs : List V} {i : Nat} {d : PyData} (a : DpAll K H vs ds) (h : ds[i]? = some d) : ∃ v, vs[i]? = some v ∧ Dp K H v d := by
  have l := dpAll_len a
  have hi : i < vs.length := by rw [l]; exact (List.getElem?_eq_some_iff.mp h).1
  obtain ⟨d', h1, h2⟩ := dpAll_get i a (List.getElem?_eq_getElem hi)
  rw [h] at h1
  cases h1
  exact ⟨_, List.getElem?_eq_getElem hi, h2⟩
/-- the promise of what looks at a thing and tells True or False: new objects alone are laid -/
def spB (R : PyData → Bool) (K : PySem.W.Frag) : Sp := fun vs H Q _ => ∃ (v : V) (d : PyData), vs = [v] ∧ Dp K H v d ∧ Fit d ∧ ∀ H', Same H H' → Q (.bl (R d)) H'
/-! ### the program's words, of data -/
def numB : PyData → Bool
  | .int _ => true
  | _ => false
def worthB : PyData → Bool
  | .none => true
  | .int i => decide (-1000000000 ≤ i) && decide (i ≤ 1000000000)
  | _ => false
def lowB (c : Nat) : Bool := decide (97 ≤ c) && decide (c ≤ 122)
def nameB : PyData → Bool
  | .str z => (decide (1 ≤ z.length) && decide (z.length ≤ 8)) && (cl z).all lowB
  | _ => false
def tupB (lo hi : Int) : PyData → Bool
  | .tuple ds => decide (lo ≤ (ds.length : Int)) && decide ((ds.length : Int) ≤ hi)
  | _ => false
def fstD : PyData → PyData
  | .tuple (a :: _) => a
  | _ => .none
def sndD : PyData → PyData
  | .tuple (_ :: b :: _) => b
  | _ => .none
def strOf : PyData → Str
  | .str z => z
  | _ => Str.empty
def isN : PyData → Bool
  | .none => true
  | _ => false
def colB (d : PyData) : Bool := tupB 2 2 d && (nameB (fstD d) && worthB (sndD d))
def namesOf (ds : List PyData) : List Str := ds.map fun d => strOf (fstD d)
def colsB : PyData → Bool
  | .tuple ds => (decide (1 ≤ ds.length) && decide (ds.length ≤ 5)) && (ds.all colB && (isN (sndD (ds.headD .none)) && decide (namesOf ds).Nodup))
  | _ => false
def tabB (d : PyData) : Bool := tupB 2 2 d && (nameB (fstD d) && colsB (sndD d))
def tabsB : PyData → Bool
  | .tuple ds => (decide (1 ≤ ds.length) && decide (ds.length ≤ 6)) && (ds.all tabB && decide (namesOf ds).Nodup)
  | _ => false
end TT

set_option Elab.async false
set_option linter.all false
set_option maxRecDepth 100000
namespace TT
open PySem PySem.Spec PyProof.Rows L2
/-! ### comprehensions that ask item by item -/
def PvM (H1 : Hp) (D : Addr) (f : Nat → V) (i : Nat) (H : Hp) : Prop := H D = some (.lst ((List.range i).map f)) ∧ Kept [D] H1 H
theorem pvm_start (H1 : Hp) (D : Addr) (f : Nat → V) : PvM H1 D f 0 (upd H1 D (.lst [])) := ⟨upd_same, Kept.upd_in (List.mem_cons_self ..)⟩
theorem pvm_step {H1 H H4 : Hp} {D : Addr} {f : Nat → V} {i : Nat} {y : V} (h : PvM H1 D f i H) (s : Same H H4) (e : y = f i) (l : i ≤ 1000) :
    ∃ acc, H4 D = some (.lst acc) ∧ acc.length < sizeLine ∧ PvM H1 D f (i + 1) (upd H4 D (.lst (acc ++ [y]))) := by
  refine ⟨_, s _ _ h.1, ?_, ?_, (h.2.trans (Kept.of_same s)).trans (Kept.upd_in (List.mem_cons_self ..))⟩
  · rw [List.length_map, List.length_range]; exact small1000 l
  · rw [upd_same, List.range_succ, List.map_append, e]; rfl
theorem pvm_same {H1 H : Hp} {D : Addr} {f : Nat → V} {i : Nat} (h : PvM H1 D f i H) (n : H1 D = none) : Same H1 H := fun b o e => h.2 b o e fun z => by
  rw [List.mem_singleton.mp z, n] at e
  cases e
theorem range_all {α : Type} (R : α → Bool) (d : α) : ∀ (l : List α), ((List.range l.length).map fun i => R (l.getD i d)).all id = l.all R := by
  intro l
  have e : (List.range l.length).map (fun i => R (l.getD i d)) = l.map R := by
    refine List.ext_getElem (by simp) fun i h1 h2 => ?_
    simp only [List.length_map, List.length_range] at h1
    simp [List.getD_eq_getElem?_getD, List.getElem?_eq_getElem h1]
  rw [e, List.all_map]
  rfl
theorem range_map {α β : Type} (f : α → β) (d : α) (l : List α) : (List.range l.length).map (fun i => f (l.getD i d)) = l.map f := by
  refine List.ext_getElem (by simp) fun i h1 h2 => ?_
  simp only [List.length_map, List.length_range] at h1
  simp [List.getD_eq_getElem?_getD, List.getElem?_eq_getElem h1]
theorem lt_one (c d : Nat) : decide (([c] : List Nat) < [d]) = decide (c < d) := by
  refine decide_eq_decide.mpr ?_
  rw [List.cons_lt_cons_iff]
  constructor
  · rintro (h | ⟨_, h⟩)
    · exact h
    · exact absurd h (List.not_lt_nil [])
  · intro h; exact .inl h
theorem two_of {α : Type} : ∀ {l : List α}, l.length = 2 → ∃ a b, l = [a, b]
  | [a, b], _ => ⟨a, b, rfl⟩
  | [], h => by cases h
  | [_], h => by cases h
  | _ :: _ :: _ :: _, h => by simp at h
theorem tup2 {K : PySem.W.Frag} {H : Hp} {v : V} {d : PyData} (hd : Dp K H v d) (h : tupB 2 2 d = true) : ∃ p x y a b, v = .ref p ∧ d = .tuple [a, b] ∧ SqT K H p [x, y] ∧ Dp K H x a ∧ Dp K H y b := by
  cases hd with
  | non => cases h
  | bl b => cases h
  | int i => cases h
  | str z => cases h
  | lst _ _ => cases h
  | tup hs a =>
    rename_i p xs ds
    have h' : (decide ((2 : Int) ≤ (ds.length : Int)) && decide ((ds.length : Int) ≤ 2)) = true := h
    rw [Bool.and_eq_true] at h'
    have g1 := of_decide_eq_true h'.1
    have g2 := of_decide_eq_true h'.2
    have hl : ds.length = 2 := by omega
    obtain ⟨a1, b1, rfl⟩ := two_of hl
    cases a with
    | cons h1 r =>
      cases r with
      | cons h2 r =>
        cases r
        exact ⟨p, _, _, a1, b1, rfl, rfl, hs, h1, h2⟩
theorem isT_of {K : PySem.W.Frag} {H : Hp} {v : V} {d : PyData} (hd : Dp K H v d) (h : isTB d = true) : ∃ p xs ds, v = .ref p ∧ d = .tuple ds ∧ SqT K H p xs ∧ DpAll K H xs ds := by
  cases hd with
  | non => cases h
  | bl b => cases h
  | int i => cases h
  | str z => cases h
  | lst _ _ => cases h
  | tup hs a => exact ⟨_, _, _, rfl, rfl, hs, a⟩
theorem tupB_isT {lo hi : Int} {d : PyData} (h : tupB lo hi d = true) : isTB d = true := by
  cases d <;> first | rfl | cases h
def strName (d : PyData) : Bool := tupB 2 2 d && isSB (fstD d)
theorem getD_of {α : Type} {l : List α} {i : Nat} {a d : α} (h : l[i]? = some a) : l.getD i d = a := by
  rw [List.getD_eq_getElem?_getD, h]; rfl
theorem all_imp {R S : PyData → Bool} {ds : List PyData} (h : ds.all R = true) (i : ∀ d, R d = true → S d = true) : ds.all S = true :=
  List.all_eq_true.mpr fun d hd => i d (List.all_eq_true.mp h d hd)
theorem takeWhile_full {α : Type} (p : α → Bool) : ∀ l : List α, l.all p = true → l.takeWhile p = l
  | [], _ => rfl
  | a :: r, h => by
    rw [List.all_cons, Bool.and_eq_true] at h
    rw [List.takeWhile_cons, if_pos h.1, takeWhile_full p r h.2]
theorem takeWhile_short {α : Type} (p : α → Bool) : ∀ l : List α, (l.takeWhile p).length = l.length → l.all p = true
  | [], _ => rfl
  | a :: r, h => by
    rw [List.takeWhile_cons] at h
    by_cases ha : p a = true
    · rw [if_pos ha, List.length_cons, List.length_cons] at h
      rw [List.all_cons, ha, takeWhile_short p r (by omega)]; rfl
    · rw [if_neg ha] at h
      simp at h
theorem takeWhile_le {α : Type} (p : α → Bool) : ∀ l : List α, (l.takeWhile p).length ≤ l.length
  | [] => Nat.le_refl 0
  | a :: r => by
    rw [List.takeWhile_cons]
    split
    · rw [List.length_cons, List.length_cons]
      exact Nat.succ_le_succ (takeWhile_le p r)
    · exact Nat.zero_le _
theorem takeWhile_next {α : Type} (p : α → Bool) : ∀ (l : List α), (l.takeWhile p).length < l.length → ∃ a r, l.drop (l.takeWhile p).length = a :: r ∧ p a = false
  | [], h => by simp at h
  | a :: r, h => by
    rw [List.takeWhile_cons] at h ⊢
    by_cases ha : p a = true
    · rw [if_pos ha, List.length_cons, List.length_cons] at h
      rw [if_pos ha, List.length_cons, List.drop_succ_cons]
      exact takeWhile_next p r (by omega)
    · rw [if_neg ha]
      exact ⟨a, r, rfl, by simpa using ha⟩
/-- nothing is left of a text just where all its signs are among those stripped -/
theorem strip_empty (z y : Str) : Txt.stripChars z y = Str.ofString "" ↔ (cl z).all y.cps.contains = true := by
  have e0 : cl (Str.ofString "") = [] := rfl
  unfold Txt.stripChars
  rw [stripBy_eq]
  generalize y.cps.contains = p
  have cs : ∀ i j, cl (Builtin.Str.strSub z i j) = ((cl z).drop i).take (j - i) := fun i j => StrLaws.strSub_toList ..
  have lo : stripLo p true z = ((cl z).takeWhile p).length := rfl
  constructor
  · intro h
    have h1 := congrArg cl h
    rw [cs, e0, lo] at h1
    have h2 := congrArg List.length h1
    rw [List.length_take, List.length_drop, List.length_nil] at h2
    by_cases hlt : ((cl z).takeWhile p).length < (cl z).length
    · exfalso
      obtain ⟨a, r, hd, hp⟩ := takeWhile_next p _ hlt
      have hi : stripHi p true z ((cl z).takeWhile p).length = z.length - (((cl z).drop ((cl z).takeWhile p).length).reverse.takeWhile p).length := rfl
      rw [hi] at h2
      have hle : (((cl z).drop ((cl z).takeWhile p).length).reverse.takeWhile p).length < ((cl z).drop ((cl z).takeWhile p).length).length := by
        have g := takeWhile_le p ((cl z).drop ((cl z).takeWhile p).length).reverse
        rw [List.length_reverse] at g
        refine Nat.lt_of_le_of_ne g fun e => ?_
        have g2 := takeWhile_short p ((cl z).drop ((cl z).takeWhile p).length).reverse (by rw [List.length_reverse]; exact e)
        rw [List.all_reverse, hd, List.all_cons, hp] at g2
        cases g2
      rw [List.length_drop] at hle
      have el : z.length = (cl z).length := rfl
      omega
    · exact takeWhile_short p _ (by have := takeWhile_le p (cl z); omega)
  · intro h
    refine cl_inj ?_
    rw [cs, e0, lo, takeWhile_full p _ h, List.drop_length, List.take_nil]
theorem abc_low (c : Nat) : abc.cps.contains c = lowB c := by
  rw [Array.contains_eq_mem]
  unfold lowB
  have h : (c ∈ abc.cps) ↔ (97 ≤ c ∧ c ≤ 122) := by
    rw [← Array.mem_toList_iff]
    show c ∈ cl abc ↔ _
    rw [abc_cl, List.mem_map]
    constructor
    · rintro ⟨a, ha, rfl⟩
      have := List.mem_range.mp ha
      omega
    · intro ⟨h1, h2⟩
      exact ⟨c - 97, List.mem_range.mpr (by omega), by omega⟩
  by_cases h1 : c ∈ abc.cps
  · have h2 := h.mp h1
    rw [decide_eq_true h1, decide_eq_true h2.1, decide_eq_true h2.2]; rfl
  · rw [decide_eq_false h1]
    by_cases h3 : 97 ≤ c
    · rw [decide_eq_true h3, decide_eq_false (fun h4 => h1 (h.mpr ⟨h3, h4⟩))]; rfl
    · rw [decide_eq_false h3]; rfl
theorem strip_name (z : Str) : decide (Txt.stripChars z abc = Str.ofString "") = (cl z).all lowB := by
  have e : abc.cps.contains = lowB := funext abc_low
  have h := strip_empty z abc
  rw [e] at h
  cases g : (cl z).all lowB with
  | true => exact decide_eq_true (h.mpr g)
  | false => exact decide_eq_false fun q => by rw [h.mp q] at g; cases g
theorem nameB_ok {z : Str} (h : nameB (.str z) = true) : NameOk z := by
  have h' : ((decide (1 ≤ z.length) && decide (z.length ≤ 8)) && (cl z).all lowB) = true := h
  simp only [Bool.and_eq_true, decide_eq_true_eq, List.all_eq_true] at h'
  refine ⟨h'.1.1, h'.1.2, fun c hc => ?_⟩
  have := h'.2 c hc
  unfold lowB at this
  simp only [Bool.and_eq_true, decide_eq_true_eq] at this
  exact this
theorem dp_strs {K : PySem.W.Frag} {H : Hp} : ∀ zs : List Str, DpAll K H (zs.map V.str) (zs.map PyData.str)
  | [] => .nil
  | z :: zs => .cons (.str z) (dp_strs zs)
theorem lay_strs : ∀ zs : List Str, (∀ z ∈ zs, NameOk z) → PyData.canLayAll0 (zs.map PyData.str) = true ∧ PyData.depthAll (zs.map PyData.str) = 0
  | [], _ => ⟨rfl, rfl⟩
  | z :: zs, h => by
    obtain ⟨h1, h2⟩ := lay_strs zs fun y hy => h y (List.mem_cons_of_mem _ hy)
    constructor
    · show (PyData.strOk z && PyData.canLayAll0 (zs.map PyData.str)) = true
      rw [strOk_name (h z (List.mem_cons_self ..)), h1]; rfl
    · show max 0 (PyData.depthAll (zs.map PyData.str)) = 0
      rw [h2]; rfl
theorem shaped_strs {zs : List Str} (h : ∀ z ∈ zs, NameOk z) : SeqAt.shaped (.list (zs.map PyData.str)) = true := by
  obtain ⟨h1, h2⟩ := lay_strs zs h
  show (PyData.canLayAll0 (zs.map PyData.str) && decide (PyData.depthAll (zs.map PyData.str) + 1 ≤ 64)) = true
  rw [h1, h2]; rfl
theorem name_at {K : PySem.W.Frag} {H : Hp} {x : V} {a : PyData} (h : Dp K H x a) (hn : nameB a = true) : ∃ z, a = .str z ∧ x = .str z ∧ NameOk z := by
  cases h with
  | str z => exact ⟨z, rfl, rfl, nameB_ok hn⟩
  | non => cases hn
  | bl b => cases hn
  | int i => cases hn
  | lst _ _ => cases hn
  | tup _ _ => cases hn
/-- what may be shown whole -/
structure Shows (d : PyData) : Prop where
  sh : d.showable = true
  nd : d.hasDict = false
  dp : d.depth ≤ 60
  sz : d.shown.length ≤ sizeLine
end TT

set_option Elab.async false
set_option linter.all false
set_option maxRecDepth 100000
namespace TT
open PySem PySem.Spec PyProof.Rows L2
/-! ### sizes of data: bounds of its ints, of its lists' lengths, of all its signs -/
mutual
def Nice (B L : Nat) : PyData → Prop
  | .none | .bool _ => True
  | .int i => i.natAbs ≤ B
  | .str z => ∀ c ∈ cl z, c < 128
  | .list ds | .tuple ds => ds.length ≤ L ∧ NiceAll B L ds
  | .dict _ => False
def NiceAll (B L : Nat) : List PyData → Prop
  | [] => True
  | d :: ds => Nice B L d ∧ NiceAll B L ds
end
mutual
def wt : PyData → Nat
  | .none => 4
  | .bool _ => 5
  | .int _ => 25
  | .str z => 10 * z.length + 12
  | .list ds | .tuple ds => 6 + wtAll ds
  | .dict _ => 0
def wtAll : List PyData → Nat
  | [] => 0
  | d :: ds => wt d + 3 + wtAll ds
end
theorem niceAll_iff {B L : Nat} : ∀ {ds : List PyData}, NiceAll B L ds ↔ ∀ d ∈ ds, Nice B L d
  | [] => ⟨fun _ _ h => absurd h List.not_mem_nil, fun _ => trivial⟩
  | d :: ds => by
    constructor
    · intro h e he
      rcases List.mem_cons.mp he with rfl | he
      · exact h.1
      · exact niceAll_iff.mp h.2 e he
    · intro h
      exact ⟨h d (List.mem_cons_self ..), niceAll_iff.mpr fun e he => h e (List.mem_cons_of_mem _ he)⟩
mutual
theorem Nice.mono {B B' L L' : Nat} (hB : B ≤ B') (hL : L ≤ L') : ∀ {d : PyData}, Nice B L d → Nice B' L' d
  | .none, _ => trivial
  | .bool _, _ => trivial
  | .int i, h => Nat.le_trans (show i.natAbs ≤ B from h) hB
  | .str _, h => h
  | .list ds, h => ⟨Nat.le_trans h.1 hL, NiceAll.mono hB hL h.2⟩
  | .tuple ds, h => ⟨Nat.le_trans h.1 hL, NiceAll.mono hB hL h.2⟩
  | .dict _, h => h
theorem NiceAll.mono {B B' L L' : Nat} (hB : B ≤ B') (hL : L ≤ L') : ∀ {ds : List PyData}, NiceAll B L ds → NiceAll B' L' ds
  | [], _ => trivial
  | d :: ds, h => ⟨Nice.mono hB hL h.1, NiceAll.mono hB hL h.2⟩
end
theorem wtAll_app : ∀ (ds es : List PyData), wtAll (ds ++ es) = wtAll ds + wtAll es
  | [], es => by simp [wtAll]
  | d :: ds, es => by
    show wt d + 3 + wtAll (ds ++ es) = wt d + 3 + wtAll ds + wtAll es
    rw [wtAll_app ds es]; omega
theorem wtAll_len : ∀ ds : List PyData, ds.length ≤ wtAll ds
  | [] => Nat.zero_le _
  | d :: ds => by
    have := wtAll_len ds
    show ds.length + 1 ≤ wt d + 3 + wtAll ds
    omega
theorem wt_mem : ∀ {ds : List PyData} {d : PyData}, d ∈ ds → wt d + 3 ≤ wtAll ds
  | e :: ds, d, h => by
    show wt d + 3 ≤ wt e + 3 + wtAll ds
    rcases List.mem_cons.mp h with rfl | h
    · omega
    · have := wt_mem h; omega
theorem depth_mem : ∀ {ds : List PyData} {d : PyData}, d ∈ ds → d.depth ≤ PyData.depthAll ds
  | e :: ds, d, h => by
    show d.depth ≤ max e.depth (PyData.depthAll ds)
    rcases List.mem_cons.mp h with rfl | h
    · exact Nat.le_max_left _ _
    · exact Nat.le_trans (depth_mem h) (Nat.le_max_right _ _)
theorem depthAll_le {n : Nat} : ∀ {ds : List PyData}, (∀ d ∈ ds, d.depth ≤ n) → PyData.depthAll ds ≤ n
  | [], _ => Nat.zero_le _
  | d :: ds, h => Nat.max_le.mpr ⟨h d (List.mem_cons_self ..), depthAll_le fun e he => h e (List.mem_cons_of_mem _ he)⟩
mutual
theorem fit_nice {B L : Nat} (hL : L ≤ 900) : ∀ {d : PyData}, Nice B L d → wt d ≤ 100000 → Fit d
  | .none, _, _ => trivial
  | .bool _, _, _ => trivial
  | .int _, _, _ => trivial
  | .str z, _, h => by
    show z.length ≤ 10000
    have h' : 10 * z.length + 12 ≤ 100000 := h
    omega
  | .list ds, h, hw => ⟨Nat.le_trans h.1 hL, fitAll_nice hL h.2 (by have : 6 + wtAll ds ≤ 100000 := hw; omega)⟩
  | .tuple ds, h, hw => ⟨Nat.le_trans h.1 hL, fitAll_nice hL h.2 (by have : 6 + wtAll ds ≤ 100000 := hw; omega)⟩
  | .dict _, h, _ => h.elim
theorem fitAll_nice {B L : Nat} (hL : L ≤ 900) : ∀ {ds : List PyData}, NiceAll B L ds → wtAll ds ≤ 100000 → FitAll ds
  | [], _, _ => trivial
  | d :: ds, h, hw => by
    have hw' : wt d + 3 + wtAll ds ≤ 100000 := hw
    exact ⟨fit_nice hL h.1 (by omega), fitAll_nice hL h.2 (by omega)⟩
end
theorem int_len {i : Int} (h : i.natAbs ≤ 10 ^ 20) : (Str.ofString (toString i)).length ≤ 22 := by
  by_cases h0 : 0 ≤ i
  · exact Nat.le_trans (toString_length_le (v := i) (k := 21) h0 (by decide) (by omega)) (by decide)
  · have g := len_text_negI (n := i) (by omega)
    have g2 := toString_length_le (v := 0 - i) (k := 21) (by omega) (by decide) (by omega)
    omega
theorem list_len (ts : List Str) : (listText ts).length ≤ piled ts + 4 := by
  unfold listText
  rw [str_len_app]
  cases ts with
  | nil => decide +kernel
  | cons t r =>
    have e : (textFrom 0 "[" (t :: r)).length ≤ piled (t :: r) + 3 := by
      show (textFrom 1 (_ ++ t) r).length ≤ _
      rw [textFrom_length_pos _ _ _ (by decide), str_len_app, piled_cons]
      have : (Str.ofString "[" ++ Str.ofString (if 0 > 0 then ", " else "")).length = 1 := by decide +kernel
      omega
    have : (Str.ofString "]").length = 1 := by decide +kernel
    omega
theorem tup_len (ts : List Str) : (tupleText ts).length ≤ piled ts + 4 := by
  have e1 : (Str.ofString "(").length = 1 := by decide +kernel
  have e3 : (Str.ofString (if ts.length == 1 then ",)" else ")" : String)).length ≤ 2 := by split <;> decide +kernel
  unfold tupleText
  rw [str_len_app, str_len_app]
  by_cases h : ts = []
  · subst h
    decide +kernel
  · have := join_length_add ts h
    omega
mutual
theorem shown_len {B L : Nat} (hB : B ≤ 10 ^ 20) : ∀ {d : PyData}, Nice B L d → d.shown.length ≤ wt d
  | .none, _ => by decide +kernel
  | .bool b, _ => by cases b <;> decide +kernel
  | .int i, h => Nat.le_trans (int_len (Nat.le_trans (show i.natAbs ≤ B from h) hB)) (by show 22 ≤ 25; decide)
  | .str z, h => by
    show (reprText z).length ≤ 10 * z.length + 12
    have := StrLaws.reprText_len z fun c hc => Nat.lt_of_lt_of_le (h c hc) (by decide)
    omega
  | .list ds, h => by
    show (listText (PyData.shownAll ds)).length ≤ 6 + wtAll ds
    have g1 := list_len (PyData.shownAll ds)
    have g2 := shownAll_len hB h.2
    omega
  | .tuple ds, h => by
    show (tupleText (PyData.shownAll ds)).length ≤ 6 + wtAll ds
    have g1 := tup_len (PyData.shownAll ds)
    have g2 := shownAll_len hB h.2
    omega
  | .dict _, h => h.elim
theorem shownAll_len {B L : Nat} (hB : B ≤ 10 ^ 20) : ∀ {ds : List PyData}, NiceAll B L ds → piled (PyData.shownAll ds) ≤ wtAll ds
  | [], _ => Nat.le_refl _
  | d :: ds, h => by
    show piled (d.shown :: PyData.shownAll ds) ≤ wt d + 3 + wtAll ds
    rw [piled_cons]
    have g1 := shown_len hB h.1
    have g2 := shownAll_len hB h.2
    omega
end
mutual
theorem showable_nice {B L : Nat} (hB : B ≤ 10 ^ 20) : ∀ {d : PyData}, Nice B L d → d.showable = true ∧ d.hasDict = false
  | .none, _ => ⟨rfl, rfl⟩
  | .bool _, _ => ⟨rfl, rfl⟩
  | .int i, h => ⟨decide_eq_true (Nat.lt_of_lt_of_le (PySem.Flt.log2_lt_of (k := 70) (by decide) (Nat.lt_of_le_of_lt (Nat.le_trans (show i.natAbs ≤ B from h) hB) (by decide))) (by decide)), rfl⟩
  | .str _, _ => ⟨rfl, rfl⟩
  | .list ds, h => showableAll_nice hB h.2
  | .tuple ds, h => showableAll_nice hB h.2
  | .dict _, h => h.elim
theorem showableAll_nice {B L : Nat} (hB : B ≤ 10 ^ 20) : ∀ {ds : List PyData}, NiceAll B L ds → PyData.showableAll ds = true ∧ PyData.hasDictAll ds = false
  | [], _ => ⟨rfl, rfl⟩
  | d :: ds, h => by
    obtain ⟨a1, a2⟩ := showable_nice hB h.1
    obtain ⟨b1, b2⟩ := showableAll_nice hB h.2
    constructor
    · show (d.showable && PyData.showableAll ds) = true
      rw [a1, b1]; rfl
    · show (d.hasDict || PyData.hasDictAll ds) = false
      rw [a2, b2]; rfl
end
theorem shows_nice {B L : Nat} {d : PyData} (h : Nice B L d) (hB : B ≤ 10 ^ 20) (hd : d.depth ≤ 60) (hw : wt d ≤ 100000) : Shows d :=
  ⟨(showable_nice hB h).1, (showable_nice hB h).2, hd, Nat.le_trans (shown_len hB h) (Nat.le_trans hw (by decide))⟩
/-! ### numbers that may be truths -/
inductive NumV : V → Int → Prop
  | int (i : Int) : NumV (.int i) i
  | bl (b : Bool) : NumV (.bl b) (if b = true then 1 else 0)
section
variable {X : Cx}
theorem op_addN : OpR X (binaryOp .Add) (fun x y H Q => ∃ i j, NumV x i ∧ y = .int j ∧ Q (.int (i + j)) H) := by
  intro pins s σ H x y v u Q I rx ry h
  obtain ⟨i, j, n, rfl, q⟩ := h
  obtain ⟨t, rfl⟩ := ry
  cases n with
  | int i => exact op_add pins s σ H (.int i) (.int j) v _ Q I rx ⟨t, rfl⟩ ⟨i, j, rfl, rfl, q⟩
  | bl b => cases rx; exact IntBool.add_bool_int ⟨.int _, H, I.tok _, ⟨_, rfl⟩, q⟩
theorem op_subN : OpR X (binaryOp .Sub) (fun x y H Q => ∃ i j, NumV x i ∧ y = .int j ∧ Q (.int (i - j)) H) := by
  intro pins s σ H x y v u Q I rx ry h
  obtain ⟨i, j, n, rfl, q⟩ := h
  obtain ⟨t, rfl⟩ := ry
  cases n with
  | int i => exact op_sub pins s σ H (.int i) (.int j) v _ Q I rx ⟨t, rfl⟩ ⟨i, j, rfl, rfl, q⟩
  | bl b => cases rx; exact IntBool.sub_bool_int ⟨.int _, H, I.tok _, ⟨_, rfl⟩, q⟩
theorem op_subIN : OpR X (binaryOp .Sub) (fun x y H Q => ∃ i j, x = .int i ∧ NumV y j ∧ Q (.int (i - j)) H) := by
  intro pins s σ H x y v u Q I rx ry h
  obtain ⟨i, j, rfl, n, q⟩ := h
  obtain ⟨t, rfl⟩ := rx
  cases n with
  | int j => exact op_sub pins s σ H (.int i) (.int j) _ u Q I ⟨t, rfl⟩ ry ⟨i, j, rfl, rfl, q⟩
  | bl b => cases ry; exact IntBool.sub_int_bool ⟨.int _, H, I.tok _, ⟨_, rfl⟩, q⟩
/-- str of such -/
def numText : V → Str
  | .int i => Str.ofString (toString i)
  | .bl b => if b = true then Str.ofString "True" else Str.ofString "False"
  | _ => Str.empty
theorem call_str_num : CallR X (.type "str") (fun xs H Q => ∃ x i, xs = [x] ∧ NumV x i ∧ i.natAbs.log2 < 1920 ∧ Q (.str (numText x)) H) := by
  intro pins s σ H xs us Q I r h
  obtain ⟨x, i, rfl, n, hi, q⟩ := h
  cases n with
  | int i => exact call_str_int pins s σ H _ us Q I r ⟨i, rfl, hi, q⟩
  | bl b =>
    obtain ⟨u, rfl, rx⟩ := vals1 r
    cases rx
    exact P.str_of_bool ⟨.str _, H, I.tok _, ⟨_, rfl⟩, q⟩
end
end TT

set_option Elab.async false
set_option linter.all false
set_option maxRecDepth 100000
namespace TT
open PySem PySem.Spec PyProof.Rows L2
/-! ### what may be put in another's place -/
structure Good (B W : Nat) (e : PyData) : Prop where
  nice : Nice B 1 e
  wt : wt e ≤ W
  dep : e.depth ≤ 1
/-- a mask over the state of the draws and more, all of it there -/
structure Mask (M : List Addr) (H : Hp) (s c : Addr) : Prop where
  sc : ∀ p ∈ [s, c], p ∈ M
  tr : ∀ p ∈ M, H p ≠ none
theorem Mask.new {M : List Addr} {H : Hp} {s c p : Addr} (h : Mask M H s c) (n : H p = none) : p ∉ M := fun z => h.tr p z n
theorem Mask.up {M : List Addr} {H : Hp} {s c p : Addr} {o : HO} (h : Mask M H s c) : Mask M (upd H p o) s c := ⟨h.sc, fun b hb => by
  unfold upd
  split
  · exact fun z => nomatch z
  · exact h.tr b hb⟩
theorem Mask.kept {M : List Addr} {H H' : Hp} {s c : Addr} {T : Nat} (h : Mask M H s c) (k : Kept [s, c] H H') (S : StAt H' s c T) : Mask M H' s c := ⟨h.sc, fun b hb z => by
  by_cases hm : b ∈ [s, c]
  · simp only [List.mem_cons, List.not_mem_nil, or_false] at hm
    rcases hm with rfl | rfl
    · obtain ⟨t, _, e⟩ := S.ex
      rw [z] at e; cases e
    · obtain ⟨ns, _, _, e⟩ := S.cs
      rw [z] at e; cases e
  · cases e : H b with
    | none => exact h.tr b hb e
    | some o =>
      have := k b o e hm
      rw [z] at this; cases this⟩
theorem Mask.same {M : List Addr} {H H' : Hp} {s c : Addr} (h : Mask M H s c) (k : Kept [s, c] H H') : Same (msk M H) (msk M H') := msk_same (k.mono h.sc)
/-- a list of such, at an address of its own -/
structure Bag (K : PySem.W.Frag) (M : List Addr) (s c : Addr) (T B W : Nat) (H0 H : Hp) (L : Addr) (vs : List V) (ds : List PyData) : Prop where
  at' : H L = some (.lst vs)
  dp : DpAll K (msk M H) vs ds
  good : ∀ e ∈ ds, Good B W e
  kept : Kept [s, c] H0 H
  st : StAt H s c T
  out : L ∉ M
  mask : Mask M H s c
section
variable {K : PySem.W.Frag} {M : List Addr} {s c L L' p : Addr} {T B W : Nat} {H0 H : Hp} {vs us : List V} {ds es : List PyData} {o : HO}
theorem Bag.up (b : Bag K M s c T B W H0 H L vs ds) (n : H p = none) : Bag K M s c T B W H0 (upd H p o) L vs ds :=
  ⟨by rw [upd_ne (ne_of_none b.at' n)]; exact b.at', dpAll_same (msk_same (Kept.upd_new n)) b.dp, b.good, b.kept.trans (Kept.upd_new n), b.st.upd_new n, b.out, b.mask.up⟩
theorem Bag.mk' (dp : DpAll K (msk M H) vs ds) (good : ∀ e ∈ ds, Good B W e) (kept : Kept [s, c] H0 H) (S : StAt H s c T) (hM : Mask M H s c) (n : H L = none) : Bag K M s c T B W H0 (upd H L (.lst vs)) L vs ds :=
  ⟨upd_same, dpAll_same (msk_same (Kept.upd_new n)) dp, good, kept.trans (Kept.upd_new n), S.upd_new n, hM.new n, hM.up⟩
theorem Bag.cat (a : Bag K M s c T B W H0 H L vs ds) (b : Bag K M s c T B W H0 H L' us es) (n : H p = none) : Bag K M s c T B W H0 (upd H p (.lst (vs ++ us))) p (vs ++ us) (ds ++ es) :=
  Bag.mk' (dpAll_app a.dp b.dp) (fun e he => (List.mem_append.mp he).elim (a.good e) (b.good e)) a.kept a.st a.mask n
theorem dp_tup_new {v : List V} {d : List PyData} (hM : Mask M H s c) (n : H p = none) (h : DpAll K (msk M H) v d) : Dp K (msk M (upd H p (.tup v))) (.ref p) (.tuple d) :=
  .tup (.inl (.inl (msk_at upd_same (hM.new n)))) (dpAll_same (msk_same (Kept.upd_new n)) h)
theorem dp_lst_new {v : List V} {d : List PyData} (hM : Mask M H s c) (n : H p = none) (h : DpAll K (msk M H) v d) : Dp K (msk M (upd H p (.lst v))) (.ref p) (.list d) :=
  .lst (.inl (.inl (msk_at upd_same (hM.new n)))) (dpAll_same (msk_same (Kept.upd_new n)) h)
theorem dp_up {v : V} {d : PyData} (n : H p = none) (h : Dp K (msk M H) v d) : Dp K (msk M (upd H p o)) v d := dp_same (msk_same (Kept.upd_new n)) h
end
def ascB (z : Str) : Bool := (cl z).all (fun c => decide (c < 128)) && decide (z.length ≤ 10)
theorem asc_of {z : Str} (h : ascB z = true) {B W : Nat} (hW : 112 ≤ W) : Good B W (.str z) := by
  unfold ascB at h
  simp only [Bool.and_eq_true, List.all_eq_true, decide_eq_true_eq] at h
  exact ⟨h.1, by show 10 * z.length + 12 ≤ W; omega, Nat.zero_le _⟩
theorem int_of {i : Int} {B W : Nat} (h : i.natAbs ≤ B) (hW : 112 ≤ W) : Good B W (.int i) := ⟨h, by show 25 ≤ W; omega, Nat.zero_le _⟩
theorem good_one {B W : Nat} {e : PyData} (h : Nice B 1 e) (hd : e.depth = 0) (hw : wt e + 9 ≤ W) : Good B W (.tuple [e]) ∧ Good B W (.list [e]) := by
  have g : 6 + (wt e + 3 + 0) ≤ W := by omega
  have d1 : max e.depth 0 + 1 ≤ 1 := by rw [hd]; decide
  exact ⟨⟨⟨Nat.le_refl 1, h, trivial⟩, g, d1⟩, ⟨⟨Nat.le_refl 1, h, trivial⟩, g, d1⟩⟩
theorem name_asc {z : Str} (h : NameOk z) {B W : Nat} (hW : 112 ≤ W) : Good B W (.str z) := by
  have l : z.length ≤ 8 := h.top
  exact ⟨fun c hc => by have := h.low c hc; unfold low at this; omega, by show 10 * z.length + 12 ≤ W; omega, Nat.zero_le _⟩
/-- the first fifteen -/
def first15V (t1 l1 t2 : Addr) : List V := [.non, .bl true, .bl false, .str "", .str "a1", .str "Ab", .str "abcdefghi", .str "a b", .ref t1, .ref l1, .ref t2, .int 0, .int (-1), .int (10 ^ (9 : Int).toNat), .str "none"]
def first15D : List PyData := [.none, .bool true, .bool false, .str "", .str "a1", .str "Ab", .str "abcdefghi", .str "a b", .tuple [], .list [], .tuple [.int 0], .int 0, .int (-1), .int (10 ^ (9 : Int).toNat), .str "none"]
theorem first15_good {B W : Nat} (hB : 2000000000 ≤ B) (hW : 200 ≤ W) : ∀ e ∈ first15D, Good B W e := by
  have e9 : (10 : Int) ^ (9 : Int).toNat = 1000000000 := by decide
  intro e he
  unfold first15D at he
  simp only [List.mem_cons, List.not_mem_nil, or_false] at he
  rcases he with rfl | rfl | rfl | rfl | rfl | rfl | rfl | rfl | rfl | rfl | rfl | rfl | rfl | rfl | rfl
  · exact ⟨trivial, by show 4 ≤ W; omega, Nat.zero_le _⟩
  · exact ⟨trivial, by show 5 ≤ W; omega, Nat.zero_le _⟩
  · exact ⟨trivial, by show 5 ≤ W; omega, Nat.zero_le _⟩
  · exact asc_of (by decide +kernel) (by omega)
  · exact asc_of (by decide +kernel) (by omega)
  · exact asc_of (by decide +kernel) (by omega)
  · exact asc_of (by decide +kernel) (by omega)
  · exact asc_of (by decide +kernel) (by omega)
  · exact ⟨⟨Nat.zero_le _, trivial⟩, by show 6 ≤ W; omega, Nat.le_refl _⟩
  · exact ⟨⟨Nat.zero_le _, trivial⟩, by show 6 ≤ W; omega, Nat.le_refl _⟩
  · exact (good_one (e := .int 0) (Nat.zero_le _) rfl (by show 34 ≤ W; omega)).1
  · exact int_of (Nat.zero_le _) (by omega)
  · exact int_of (by show 1 ≤ B; omega) (by omega)
  · exact int_of (by rw [e9]; show 1000000000 ≤ B; omega) (by omega)
  · exact asc_of (by decide +kernel) (by omega)
theorem upper_asc {z : Str} (h : ∀ c ∈ cl z, c < 128) : (∀ c ∈ cl (Txt.upper z), c < 128) ∧ (Txt.upper z).length = z.length := by
  rw [upper_ascii h]
  constructor
  · intro c hc
    have hc' : c ∈ (cl z).map up1 := by
      have e : cl (⟨z.cps.map up1⟩ : Str) = (cl z).map up1 := by
        show (z.cps.map up1).toList = z.cps.toList.map up1
        exact Array.toList_map
      rw [e] at hc; exact hc
    obtain ⟨a, ha, rfl⟩ := List.mem_map.mp hc'
    have := h a ha
    unfold up1
    split <;> omega
  · show (z.cps.map up1).size = z.cps.size
    exact Array.size_map
theorem cut_asc {z : Str} (h : ∀ c ∈ cl z, c < 128) (lo hi : Option Int) : (∀ c ∈ cl (cutS z lo hi), c < 128) ∧ (cutS z lo hi).length ≤ z.length := by
  constructor
  · intro c hc
    rw [cut_cl] at hc
    exact h c (List.mem_of_mem_drop (List.mem_of_mem_take hc))
  · rw [cl_len, cut_cl, List.length_take, List.length_drop]
    have : (cl z).length = z.length := rfl
    omega
theorem num_asc {v : V} {i : Int} (h : NumV v i) (hi : i.natAbs ≤ 10 ^ 20) : (∀ c ∈ cl (numText v), c < 128) ∧ (numText v).length ≤ 22 := by
  cases h with
  | bl b => cases b <;> exact ⟨by decide +kernel, by decide +kernel⟩
  | int i =>
    refine ⟨?_, int_len hi⟩
    have all : ∀ m : Nat, ∀ ch ∈ (toString (Int.ofNat m)).toList, ch.toNat < 128 := fun m ch hch => by
      have e1 := text_ofNat m
      rw [Str.ofString_eq_toList] at e1
      have e2 : (toString (Int.ofNat m)).toList.map Char.toNat = (Nat.toDigits 10 m).map Char.toNat := congrArg (fun z : Str => z.cps.toList) e1
      have hm : ch.toNat ∈ (Nat.toDigits 10 m).map Char.toNat := by rw [← e2]; exact List.mem_map.mpr ⟨ch, hch, rfl⟩
      obtain ⟨c2, h2, e3⟩ := List.mem_map.mp hm
      rw [← e3]
      have h3 := Nat.isDigit_of_mem_toDigits (by decide) (by decide) h2
      simp only [Char.isDigit, Bool.and_eq_true, decide_eq_true_eq] at h3
      have h4 : c2.val.toNat ≤ 57 := h3.2
      show c2.val.toNat < 128
      omega
    intro c hc
    have hc' : c ∈ (toString i).toList.map Char.toNat := by
      have e : cl (Str.ofString (toString i)) = (toString i).toList.map Char.toNat := by
        unfold cl
        rw [Str.ofString_eq_toList]
      rw [← e]; exact hc
    obtain ⟨ch, hch, rfl⟩ := List.mem_map.mp hc'
    by_cases h0 : 0 ≤ i
    · obtain ⟨m, rfl⟩ : ∃ m : Nat, i = Int.ofNat m := ⟨i.toNat, by show i = ((i.toNat : Nat) : Int); omega⟩
      exact all m ch hch
    · rw [toString_neg (by omega), String.toList_append] at hch
      obtain ⟨m, hm⟩ : ∃ m : Nat, 0 - i = Int.ofNat m := ⟨(0 - i).toNat, by show 0 - i = (((0 - i).toNat : Nat) : Int); omega⟩
      rcases List.mem_append.mp hch with h | h
      · have e : ("-" : String).toList = ['-'] := by decide
        rw [e] at h
        rw [List.mem_singleton.mp h]
        decide
      · rw [hm] at h
        exact all m ch h
/-! ### pieces of data -/
theorem dpAll_take {K : PySem.W.Frag} {H : Hp} : ∀ {ds : List PyData} {vs : List V} (n : Nat), DpAll K H vs ds → DpAll K H (vs.take n) (ds.take n)
  | _, _, 0, _ => .nil
  | _, _, _ + 1, .nil => .nil
  | _, _, n + 1, .cons h t => .cons h (dpAll_take n t)
theorem dpAll_drop {K : PySem.W.Frag} {H : Hp} : ∀ {ds : List PyData} {vs : List V} (n : Nat), DpAll K H vs ds → DpAll K H (vs.drop n) (ds.drop n)
  | _, _, 0, h => h
  | _, _, _ + 1, .nil => .nil
  | _, _, n + 1, .cons _ t => dpAll_drop n t
theorem dpAll_rev {K : PySem.W.Frag} {H : Hp} : ∀ {ds : List PyData} {vs : List V}, DpAll K H vs ds → DpAll K H vs.reverse ds.reverse
  | _, _, .nil => .nil
  | _, _, .cons h t => by
    rw [List.reverse_cons, List.reverse_cons]
    exact dpAll_snoc (dpAll_rev t) h
theorem dpAll_set {K : PySem.W.Frag} {H : Hp} {v : V} {d : PyData} (h : Dp K H v d) : ∀ {ds : List PyData} {vs : List V} (n : Nat), DpAll K H vs ds → DpAll K H (vs.set n v) (ds.set n d)
  | _, _, _, .nil => .nil
  | _, _, 0, .cons _ t => .cons h t
  | _, _, n + 1, .cons g t => .cons g (dpAll_set h n t)
theorem wtAll_rev : ∀ ds : List PyData, wtAll ds.reverse = wtAll ds
  | [] => rfl
  | d :: ds => by
    rw [List.reverse_cons, wtAll_app, wtAll_rev ds]
    show wtAll ds + (wt d + 3 + 0) = wt d + 3 + wtAll ds
    omega
theorem wtAll_cut (ds : List PyData) (n : Nat) : wtAll (ds.take n) + wtAll (ds.drop n) = wtAll ds := by
  rw [← wtAll_app, List.take_append_drop]
/-- what has become of a list's items -/
structure Pc (B L : Nat) (ds es : List PyData) : Prop where
  len : es.length ≤ L + 1
  mem : ∀ e ∈ es, Nice B (L + 1) e ∧ e.depth ≤ PyData.depthAll ds + 1
  wt : wtAll es ≤ 3 * wtAll ds + 2000
theorem pc_mem {B L : Nat} {ds : List PyData} (h : NiceAll B L ds) : ∀ e ∈ ds, Nice (B + 2000000000) (L + 1) e ∧ e.depth ≤ PyData.depthAll ds + 1 := fun e he =>
  ⟨(niceAll_iff.mp h e he).mono (by omega) (by omega), Nat.le_trans (depth_mem he) (Nat.le_succ _)⟩
/-- the things that are made of a container -/
structure Bt (B L : Nat) (d e : PyData) : Prop where
  nice : Nice (B + 2000000000) (L + 1) e
  wt : wt e ≤ 3 * wt d + 2000
  dep : e.depth ≤ d.depth + 1
theorem bt_good {B L : Nat} {d e : PyData} (h : Good (B + 2000000000) (wt d + 300) e) : Bt B L d e := ⟨h.nice.mono (Nat.le_refl _) (by omega), by have := h.wt; omega, by have := h.dep; omega⟩
theorem cutV_lo (xs : List V) (a : Nat) : cutV xs none (some (a : Int)) = xs.take a := by
  unfold cutV
  rw [HT.sIx_none, HT.sIx_nat, List.drop_zero, Nat.sub_zero]
  by_cases h : a ≤ xs.length
  · rw [Nat.min_eq_left h]
  · rw [Nat.min_eq_right (by omega), List.take_of_length_le (Nat.le_refl _), List.take_of_length_le (by omega)]
theorem cutV_hi (xs : List V) (a : Nat) : cutV xs (some (a : Int)) none = xs.drop a := by
  unfold cutV
  rw [HT.sIx_none, HT.sIx_nat]
  by_cases h : a ≤ xs.length
  · rw [Nat.min_eq_left h, List.take_of_length_le]
    rw [List.length_drop]; exact Nat.le_refl _
  · rw [Nat.min_eq_right (by omega), List.drop_length, List.drop_of_length_le (by omega)]
    simp
theorem cutV_mid (xs : List V) (a b : Nat) (h : a ≤ xs.length) : cutV xs (some (a : Int)) (some ((a : Int) + b)) = (xs.drop a).take b := by
  unfold cutV
  rw [show ((a : Int) + b) = ((a + b : Nat) : Int) by omega, HT.sIx_nat, HT.sIx_nat, Nat.min_eq_left h, List.take_eq_take_iff, List.length_drop]
  omega
/-- a container: a tuple or a list -/
theorem cont_of {K : PySem.W.Frag} {H : Hp} {v : V} {d : PyData} (hd : Dp K H v d) (h : (isTB d || isLB d) = true) : ∃ p xs ds, v = .ref p ∧ DpAll K H xs ds ∧ ((d = .tuple ds ∧ SqT K H p xs) ∨ (d = .list ds ∧ SqL K H p xs)) := by
  cases hd with
  | non => cases h
  | bl b => cases h
  | int i => cases h
  | str z => cases h
  | lst hs a => exact ⟨_, _, _, rfl, a, .inr ⟨rfl, hs⟩⟩
  | tup hs a => exact ⟨_, _, _, rfl, a, .inl ⟨rfl, hs⟩⟩
end TT

set_option Elab.async false
set_option linter.all false
set_option maxRecDepth 100000
namespace TT
open PySem PySem.Spec PyProof.Rows L2
/-! ### is some data among names -/
def inS (zs : List Str) : PyData → Bool
  | .str z => decide (z ∈ zs)
  | _ => false
theorem any_eqv (zs : List Str) (d : PyData) : (zs.map PyData.str).any (fun z => PyData.eqv z d) = inS zs d := by
  rw [List.any_map]
  cases d with
  | str z =>
    show zs.any (fun y => y == z) = decide (z ∈ zs)
    rw [Bool.eq_iff_iff]
    simp
  | none => exact List.any_eq_false.mpr fun x _ => by simp [Function.comp, PyData.eqv]
  | bool b => exact List.any_eq_false.mpr fun x _ => by simp [Function.comp, PyData.eqv]
  | int i => exact List.any_eq_false.mpr fun x _ => by simp [Function.comp, PyData.eqv]
  | list ds => exact List.any_eq_false.mpr fun x _ => by simp [Function.comp, PyData.eqv]
  | tuple ds => exact List.any_eq_false.mpr fun x _ => by simp [Function.comp, PyData.eqv]
  | dict ds => exact List.any_eq_false.mpr fun x _ => by simp [Function.comp, PyData.eqv]
def rInN (K : PySem.W.Frag) : R2 := fun x y H Q => ∃ (d : PyData) (zs : List Str) (p : Addr), y = .ref p ∧ Dp K H x d ∧ SeqAt.shaped d = true ∧ (SqL K H p (zs.map V.str) ∨ SqT K H p (zs.map V.str)) ∧ SeqAt.shaped (.list (zs.map PyData.str)) = true ∧ Q (.bl (inS zs d)) H
def rNinN (K : PySem.W.Frag) : R2 := fun x y H Q => ∃ (d : PyData) (zs : List Str) (p : Addr), y = .ref p ∧ Dp K H x d ∧ SeqAt.shaped d = true ∧ (SqL K H p (zs.map V.str) ∨ SqT K H p (zs.map V.str)) ∧ SeqAt.shaped (.list (zs.map PyData.str)) = true ∧ Q (.bl (!inS zs d)) H
section
variable {X : Cx}
theorem op_inN (hu : X.A.units + 65 < cLine) : OpR X (compareOp .In) (rInN X.K) := by
  intro pins s σ H x y v u Q I rx ry h
  obtain ⟨d, zs, p, rfl, hd, sd, he, se, q⟩ := h
  rw [← any_eqv] at q
  obtain ⟨as, r1⟩ := Dp.reads I d x v hd rx
  rcases he with he | he
  · obtain ⟨bs, r2⟩ := Dp.reads I (.list (zs.map PyData.str)) (.ref p) u (.lst he (dp_strs zs)) ry
    exact SeqAt.in_list_reads r2 r1 (SeqAt.canLay_of_shaped se) (SeqAt.canLay_of_shaped sd) (room_in_shaped sd hu) ⟨.bl _, H, I, rfl, q⟩
  · obtain ⟨bs, r2⟩ := Dp.reads I (.tuple (zs.map PyData.str)) (.ref p) u (.tup he (dp_strs zs)) ry
    exact SeqAt.in_tuple_reads r2 r1 (SeqAt.canLay_of_shaped se) (SeqAt.canLay_of_shaped sd) (room_in_shaped sd hu) ⟨.bl _, H, I, rfl, q⟩
theorem op_ninN (hu : X.A.units + 65 < cLine) : OpR X (compareOp .NotIn) (rNinN X.K) := by
  intro pins s σ H x y v u Q I rx ry h
  obtain ⟨d, zs, p, rfl, hd, sd, he, se, q⟩ := h
  rw [← any_eqv] at q
  obtain ⟨as, r1⟩ := Dp.reads I d x v hd rx
  rcases he with he | he
  · obtain ⟨bs, r2⟩ := Dp.reads I (.list (zs.map PyData.str)) (.ref p) u (.lst he (dp_strs zs)) ry
    exact SeqAt.notIn_list_reads r2 r1 (SeqAt.canLay_of_shaped se) (SeqAt.canLay_of_shaped sd) (room_in_shaped sd hu) ⟨.bl _, H, I, rfl, q⟩
  · obtain ⟨bs, r2⟩ := Dp.reads I (.tuple (zs.map PyData.str)) (.ref p) u (.tup he (dp_strs zs)) ry
    exact SeqAt.notIn_tuple_reads r2 r1 (SeqAt.canLay_of_shaped se) (SeqAt.canLay_of_shaped sd) (room_in_shaped sd hu) ⟨.bl _, H, I, rfl, q⟩
/-- a statement that is never come to -/
theorem ps_nv {st : Stmt} : PS X st (fun _ _ _ => False) := ⟨fun _ _ _ _ _ _ h => h.elim⟩
end
/-! ### sizes -/
mutual
theorem lay_nice {B L : Nat} : ∀ {d : PyData}, Nice B L d → d.canLay0 = true
  | .none, _ => rfl
  | .bool _, _ => rfl
  | .int _, _ => rfl
  | .str z, h => by
    show PyData.strOk z = true
    unfold PyData.strOk
    rw [Array.all_eq_true']
    intro x hx
    have := h x (by unfold cl; exact Array.mem_toList_iff.mpr hx)
    simp; omega
  | .list ds, h => layAll_nice h.2
  | .tuple ds, h => layAll_nice h.2
  | .dict _, h => h.elim
theorem layAll_nice {B L : Nat} : ∀ {ds : List PyData}, NiceAll B L ds → PyData.canLayAll0 ds = true
  | [], _ => rfl
  | d :: ds, h => by
    show (d.canLay0 && PyData.canLayAll0 ds) = true
    rw [lay_nice h.1, layAll_nice h.2]; rfl
end
theorem shaped_nice {B L : Nat} {d : PyData} (h : Nice B L d) (hd : d.depth ≤ 60) : SeqAt.shaped d = true := by
  unfold SeqAt.shaped
  rw [lay_nice h, decide_eq_true (show d.depth ≤ 64 by omega)]; rfl
theorem shaped_str {z : Str} (h : NameOk z) : SeqAt.shaped (.str z) = true := by
  show (PyData.strOk z && decide (0 ≤ 64)) = true
  rw [strOk_name h]; rfl
theorem shaped_mem {ds : List PyData} {d : PyData} (h : SeqAt.shaped (.tuple ds) = true) (m : d ∈ ds) : SeqAt.shaped d = true := by
  have h' : (PyData.canLayAll0 ds && decide (PyData.depthAll ds + 1 ≤ 64)) = true := h
  rw [Bool.and_eq_true, decide_eq_true_eq] at h'
  have hd := depth_mem m
  unfold SeqAt.shaped
  rw [decide_eq_true (show d.depth ≤ 64 by omega), Bool.and_true]
  have g : ∀ {l : List PyData}, PyData.canLayAll0 l = true → d ∈ l → d.canLay0 = true := by
    intro l
    induction l with
    | nil => intro _ m; cases m
    | cons e l ih =>
      intro h m
      have h2 : (e.canLay0 && PyData.canLayAll0 l) = true := h
      rw [Bool.and_eq_true] at h2
      rcases List.mem_cons.mp m with rfl | m
      · exact h2.1
      · exact ih h2.2 m
  exact g h'.1 m
/-! ### the tables handed along -/
structure Tabs (K : PySem.W.Frag) (H : Hp) (tp : Addr) (ts : List Tab) : Prop where
  dp : Dp K H (.ref tp) (.tuple (ts.map tabD))
  ok : TabsOk 5 ts
  l0 : 0 < ts.length
  l8 : ts.length ≤ 8
theorem Tabs.same {K : PySem.W.Frag} {H H' : Hp} {tp : Addr} {ts : List Tab} (h : Tabs K H tp ts) (s : Same H H') : Tabs K H' tp ts := ⟨dp_same s h.dp, h.ok, h.l0, h.l8⟩
theorem Tabs.parts {K : PySem.W.Frag} {H : Hp} {tp : Addr} {ts : List Tab} (h : Tabs K H tp ts) : ∃ xs, SqT K H tp xs ∧ DpAll K H xs (ts.map tabD) ∧ xs.length = ts.length := by
  cases h.dp with
  | tup h1 h2 => exact ⟨_, h1, h2, by rw [dpAll_len h2, List.length_map]⟩
/-- one of the tables, taken apart -/
theorem tab_at {K : PySem.W.Frag} {H : Hp} {xs : List V} {ts : List Tab} {i : Nat} {x : V} (h : DpAll K H xs (ts.map tabD)) (hx : xs[i]? = some x) : ∃ (t : Tab) (q pc : Addr) (ys : List V), ts[i]? = some t ∧ x = .ref q ∧ SqT K H q [.str t.1, .ref pc] ∧ SqT K H pc ys ∧ DpAll K H ys (t.2.map colD) := by
  obtain ⟨dd, h1, h2⟩ := dpAll_get i h hx
  rw [List.getElem?_map] at h1
  obtain ⟨t, ht, rfl⟩ := Option.map_eq_some_iff.mp h1
  cases h2 with
  | tup g1 g2 =>
    cases g2 with
    | cons g3 g4 =>
      cases g4 with
      | cons g5 g6 =>
        cases g6
        cases g3
        cases g5 with
        | tup k1 k2 => exact ⟨t, _, _, _, ht, rfl, g1, k1, k2⟩
theorem col_at {K : PySem.W.Frag} {H : Hp} {ys : List V} {cs : List Col} {i : Nat} {x : V} (h : DpAll K H ys (cs.map colD)) (hx : ys[i]? = some x) : ∃ (co : Col) (q : Addr) (y : V), cs[i]? = some co ∧ x = .ref q ∧ SqT K H q [.str co.1, y] := by
  obtain ⟨dd, h1, h2⟩ := dpAll_get i h hx
  rw [List.getElem?_map] at h1
  obtain ⟨co, hco, rfl⟩ := Option.map_eq_some_iff.mp h1
  cases h2 with
  | tup g1 g2 =>
    cases g2 with
    | cons g3 g4 =>
      cases g4 with
      | cons g5 g6 =>
        cases g6
        cases g3
        exact ⟨co, _, _, hco, rfl, g1⟩
abbrev tns (ts : List Tab) : List Str := ts.map (·.1)
def colsOf (ts : List Tab) (t : Str) : List Col := match ts.find? (fun x => x.1 == t) with
  | some x => x.2
  | none => []
abbrev cns (ts : List Tab) (t : Str) : List Str := (colsOf ts t).map (·.1)
theorem colsOf_mem {ts : List Tab} (nd : (ts.map (·.1)).Nodup) {x : Tab} (hx : x ∈ ts) : colsOf ts x.1 = x.2 := by
  unfold colsOf
  induction ts with
  | nil => cases hx
  | cons a r ih =>
    rw [List.map_cons, List.nodup_cons] at nd
    rw [List.find?_cons]
    by_cases e : a.1 = x.1
    · rw [show (a.1 == x.1) = true by simp [e]]
      rcases List.mem_cons.mp hx with h | h
      · rw [h]
      · exact absurd (List.mem_map.mpr ⟨x, h, e.symm⟩) nd.1
    · rw [show (a.1 == x.1) = false by simp [e]]
      rcases List.mem_cons.mp hx with h | h
      · exact absurd (by rw [h]) e
      · exact ih nd.2 h
theorem tns_len {ts : List Tab} : (tns ts).length = ts.length := List.length_map ..
theorem tab_of {ts : List Tab} (nd : (ts.map (·.1)).Nodup) {t : Str} (h : t ∈ tns ts) : ∃ x ∈ ts, x.1 = t ∧ colsOf ts t = x.2 := by
  obtain ⟨x, hx, rfl⟩ := List.mem_map.mp h
  exact ⟨x, hx, rfl, colsOf_mem nd hx⟩
end TT

set_option Elab.async false
set_option linter.all false
set_option maxRecDepth 100000
namespace TT
open PySem PySem.Spec PyProof.Rows L2
section
variable {K : PySem.W.Frag} {M : List Addr} {H H' : Hp} {P : Addr} {vs : List V} {ds : List PyData} {v : V} {d : PyData} {o : HO} {s c : Addr}
theorem Mask.push (h : Mask M H s c) : Mask (P :: M) (upd H P o) s c := ⟨fun p hp => List.mem_cons_of_mem _ (h.sc p hp), fun b hb => by
  rcases List.mem_cons.mp hb with rfl | hb
  · rw [upd_same]; exact fun z => nomatch z
  · exact h.up.tr b hb⟩
theorem Mask.pop (h : Mask (P :: M) H s c) (sc : ∀ p ∈ [s, c], p ∈ M) : Mask M H s c := ⟨sc, fun b hb => h.tr b (List.mem_cons_of_mem _ hb)⟩
theorem mask0 {T : Nat} (S : StAt H s c T) : Mask [s, c] H s c := ⟨fun _ h => h, fun b hb z => by
  simp only [List.mem_cons, List.not_mem_nil, or_false] at hb
  rcases hb with rfl | rfl
  · obtain ⟨t, _, e⟩ := S.ex
    rw [z] at e; cases e
  · obtain ⟨ns, _, _, e⟩ := S.cs
    rw [z] at e; cases e⟩
end
theorem dp_ws {K : PySem.W.Frag} {H : Hp} : ∀ r : List (Option Int), DpAll K H (r.map wV) (r.map wD)
  | [] => .nil
  | w :: r => .cons (dp_w w) (dp_ws r)
/-! ### contents as plain data -/
abbrev Rw := List (Option Int)
def rowD (r : Rw) : PyData := .tuple (r.map wD)
def rowsD (rs : List Rw) : PyData := .list (rs.map rowD)
def contD (ct : List (List Rw)) : PyData := .list (ct.map rowsD)
def keyW : Rw → Int
  | some k :: _ => k
  | _ => 0
/-- a row of so many columns -/
structure RwOk (n : Nat) (r : Rw) : Prop where
  len : r.length = n
  w : ∀ o ∈ r, WOk o
  key : ∃ k t, r = some k :: t
structure RwsOk (n : Nat) (rs : List Rw) : Prop where
  row : ∀ r ∈ rs, RwOk n r
  up : (rs.map keyW).Pairwise (· < ·)
structure ContOk (L : Nat) (ts : List Tab) (ct : List (List Rw)) : Prop where
  len : ct.length = ts.length
  rows : ∀ (i : Nat) (t : Tab) (rs : List Rw), ts[i]? = some t → ct[i]? = some rs → RwsOk t.2.length rs
  few : ∀ rs ∈ ct, rs.length ≤ L
theorem RwsOk.snoc {n : Nat} {rs : List Rw} {r : Rw} (h : RwsOk n rs) (hr : RwOk n r) (hk : ∀ x ∈ rs, keyW x < keyW r) : RwsOk n (rs ++ [r]) where
  row := fun x hx => by
    rcases List.mem_append.mp hx with h1 | h1
    · exact h.row x h1
    · rw [List.mem_singleton.mp h1]; exact hr
  up := by
    rw [List.map_append, List.pairwise_append]
    refine ⟨h.up, by simp, fun a ha b hb => ?_⟩
    obtain ⟨x, hx, rfl⟩ := List.mem_map.mp ha
    rw [List.map_singleton] at hb
    rw [List.mem_singleton.mp hb]
    exact hk x hx
end TT

set_option Elab.async false
set_option linter.all false
set_option maxRecDepth 100000
namespace TT
open PySem PySem.Spec PyProof.Rows L2
/-! ### sizes of tables and of contents -/
theorem name_nice {z : Str} (h : NameOk z) (B L : Nat) : Nice B L (.str z) ∧ wt (.str z) ≤ 92 := by
  have l : z.length ≤ 8 := h.top
  exact ⟨fun c hc => by have := h.low c hc; unfold low at this; omega, by show 10 * z.length + 12 ≤ 92; omega⟩
theorem w_nice : ∀ {o : Option Int}, WOk o → Nice 1000000000 8 (wD o) ∧ wt (wD o) ≤ 25 ∧ (wD o).depth = 0
  | none, _ => ⟨trivial, by show 4 ≤ 25; decide, rfl⟩
  | some i, h => ⟨by show i.natAbs ≤ 1000000000; have h' : -1000000000 ≤ i ∧ i ≤ 1000000000 := h; omega, Nat.le_refl _, rfl⟩
theorem col_nice {x : Col} (h1 : NameOk x.1) (h2 : WOk x.2) : Nice 1000000000 8 (colD x) ∧ wt (colD x) ≤ 129 ∧ (colD x).depth ≤ 1 := by
  obtain ⟨a1, a2⟩ := name_nice h1 1000000000 8
  obtain ⟨b1, b2, b3⟩ := w_nice h2
  refine ⟨⟨by show 2 ≤ 8; decide, a1, b1, trivial⟩, ?_, ?_⟩
  · show 6 + (wt (.str x.1) + 3 + (wt (wD x.2) + 3 + 0)) ≤ 129
    omega
  · show max 0 (max (wD x.2).depth 0) + 1 ≤ 1
    rw [b3]; decide
theorem sum_le {α : Type} {f : α → PyData} {n : Nat} : ∀ {l : List α}, (∀ x ∈ l, wt (f x) ≤ n) → wtAll (l.map f) ≤ l.length * (n + 3)
  | [], _ => Nat.zero_le _
  | x :: l, h => by
    have h1 := h x (List.mem_cons_self ..)
    have h2 := sum_le fun y hy => h y (List.mem_cons_of_mem x hy)
    show wt (f x) + 3 + wtAll (l.map f) ≤ (l.length + 1) * (n + 3)
    rw [Nat.add_mul]
    omega
theorem all_nice {α : Type} {f : α → PyData} {B L : Nat} {l : List α} (h : ∀ x ∈ l, Nice B L (f x)) : NiceAll B L (l.map f) := niceAll_iff.mpr fun d hd => by
  obtain ⟨x, hx, rfl⟩ := List.mem_map.mp hd
  exact h x hx
theorem all_depth {α : Type} {f : α → PyData} {n : Nat} {l : List α} (h : ∀ x ∈ l, (f x).depth ≤ n) : PyData.depthAll (l.map f) ≤ n := depthAll_le fun d hd => by
  obtain ⟨x, hx, rfl⟩ := List.mem_map.mp hd
  exact h x hx
theorem tab_nice {n : Nat} {x : Tab} (hn : n ≤ 8) (h1 : NameOk x.1) (h2 : ColsOk n x.2) : Nice 1000000000 8 (tabD x) ∧ wt (tabD x) ≤ 1166 ∧ (tabD x).depth ≤ 3 := by
  obtain ⟨a1, a2⟩ := name_nice h1 1000000000 8
  have cn := fun y hy => col_nice (h2.nm y hy) (h2.w y hy)
  have l8 : x.2.length ≤ 8 := Nat.le_trans h2.top hn
  have ws := sum_le (f := colD) (n := 129) fun y hy => (cn y hy).2.1
  refine ⟨⟨by show 2 ≤ 8; decide, a1, ⟨by rw [List.length_map]; exact l8, all_nice fun y hy => (cn y hy).1⟩, trivial⟩, ?_, ?_⟩
  · show 6 + (wt (.str x.1) + 3 + ((6 + wtAll (x.2.map colD)) + 3 + 0)) ≤ 1166
    have : x.2.length * (129 + 3) ≤ 8 * 132 := Nat.mul_le_mul_right _ l8
    omega
  · have := all_depth (f := colD) (n := 1) fun y hy => (cn y hy).2.2
    show max 0 (max (PyData.depthAll (x.2.map colD) + 1) 0) + 1 ≤ 3
    omega
theorem tabs_nice {n : Nat} {ts : List Tab} (hn : n ≤ 8) (hl : ts.length ≤ 8) (h : TabsOk n ts) : Nice 1000000000 8 (.tuple (ts.map tabD)) ∧ wt (.tuple (ts.map tabD)) ≤ 10000 ∧ (PyData.tuple (ts.map tabD)).depth ≤ 4 := by
  have tn := fun y hy => tab_nice hn (h.nm y hy) (h.cs y hy).1
  have ws := sum_le (f := tabD) (n := 1166) fun y hy => (tn y hy).2.1
  refine ⟨⟨by rw [List.length_map]; exact hl, all_nice fun y hy => (tn y hy).1⟩, ?_, ?_⟩
  · show 6 + wtAll (ts.map tabD) ≤ 10000
    have : ts.length * (1166 + 3) ≤ 8 * 1169 := Nat.mul_le_mul_right _ hl
    omega
  · have := all_depth (f := tabD) (n := 3) fun y hy => (tn y hy).2.2
    show PyData.depthAll (ts.map tabD) + 1 ≤ 4
    omega

theorem wtAll_le {n : Nat} : ∀ {l : List PyData}, (∀ x ∈ l, wt x ≤ n) → wtAll l ≤ l.length * (n + 3)
  | [], _ => Nat.zero_le _
  | x :: l, h => by
    have h1 := h x (List.mem_cons_self ..)
    have h2 := wtAll_le fun y hy => h y (List.mem_cons_of_mem x hy)
    show wt x + 3 + wtAll l ≤ (l.length + 1) * (n + 3)
    rw [Nat.add_mul]
    omega
theorem w61 {o : Option Int} (h : WOk o) (L : Nat) : Nice 1000000000 L (wD o) ∧ wt (wD o) ≤ 25 ∧ (wD o).depth = 0 := by
  cases o with
  | none => exact ⟨trivial, by show 4 ≤ 25; decide, rfl⟩
  | some i => exact ⟨by have := h.1; have := h.2; show i.natAbs ≤ 1000000000; omega, Nat.le_refl _, rfl⟩
theorem row61 {n : Nat} (hn : n ≤ 5) {r : Rw} (h : RwOk n r) : Nice 1000000000 61 (rowD r) ∧ wt (rowD r) ≤ 146 ∧ (rowD r).depth ≤ 1 := by
  have ws := sum_le (f := wD) (n := 25) (l := r) fun o ho => (w61 (h.w o ho) 61).2.1
  have hl := h.len
  refine ⟨⟨by rw [List.length_map]; omega, all_nice fun o ho => (w61 (h.w o ho) 61).1⟩, ?_, ?_⟩
  · show 6 + wtAll (r.map wD) ≤ 146
    omega
  · have := all_depth (f := wD) (l := r) (n := 0) fun o ho => Nat.le_of_eq (w61 (h.w o ho) 61).2.2
    show PyData.depthAll (r.map wD) + 1 ≤ 1
    omega
theorem rows_nice {n : Nat} (hn : n ≤ 5) {rs : List Rw} (h : RwsOk n rs) (l : rs.length ≤ 61) : Nice 1000000000 61 (rowsD rs) ∧ wt (rowsD rs) ≤ 6 + rs.length * 149 ∧ (rowsD rs).depth ≤ 2 := by
  have tn := fun y hy => row61 hn (h.row y hy)
  have ws := sum_le (f := rowD) (n := 146) fun y hy => (tn y hy).2.1
  refine ⟨⟨by rw [List.length_map]; exact l, all_nice fun y hy => (tn y hy).1⟩, ?_, ?_⟩
  · show 6 + wtAll (rs.map rowD) ≤ _
    omega
  · have := all_depth (f := rowD) (n := 1) fun y hy => (tn y hy).2.2
    show PyData.depthAll (rs.map rowD) + 1 ≤ 2
    omega
theorem wtAll_sum {α : Type} {f : α → PyData} {g : α → Nat} : ∀ {l : List α}, (∀ x ∈ l, wt (f x) ≤ g x) → wtAll (l.map f) ≤ (l.map g).sum + l.length * 3
  | [], _ => Nat.zero_le _
  | x :: l, h => by
    have h1 := h x (List.mem_cons_self ..)
    have h2 := wtAll_sum fun y hy => h y (List.mem_cons_of_mem x hy)
    show wt (f x) + 3 + wtAll (l.map f) ≤ (g x + (l.map g).sum) + (l.length + 1) * 3
    omega
theorem sum_lin {α : Type} (f : α → Nat) (a b : Nat) : ∀ l : List α, (l.map fun x => a + f x * b).sum = l.length * a + (l.map f).sum * b
  | [] => by simp
  | x :: l => by
    rw [List.map_cons, List.sum_cons, sum_lin f a b l, List.map_cons, List.sum_cons, List.length_cons, Nat.add_mul, Nat.add_mul]
    omega
theorem cont_rows {L : Nat} {ts : List Tab} {ct : List (List Rw)} (h : ContOk L ts ct) (okt : TabsOk 5 ts) {rs : List Rw} (hm : rs ∈ ct) : ∃ n, 1 ≤ n ∧ n ≤ 5 ∧ RwsOk n rs := by
  obtain ⟨i, hi⟩ := List.getElem?_of_mem hm
  have hl := (List.getElem?_eq_some_iff.mp hi).1
  have hl2 : i < ts.length := by rw [← h.len]; exact hl
  have ht : ts[i]? = some ts[i] := List.getElem?_eq_getElem hl2
  have hmt := List.mem_of_getElem? ht
  exact ⟨_, (okt.cs _ hmt).2, (okt.cs _ hmt).1.top, h.rows i _ rs ht hi⟩
theorem mem_sum : ∀ {l : List Nat} {n : Nat}, n ∈ l → n ≤ l.sum
  | a :: l, n, h => by
    rw [List.sum_cons]
    rcases List.mem_cons.mp h with rfl | h
    · omega
    · have := mem_sum h; omega
theorem cont_nice {L : Nat} {ts : List Tab} {ct : List (List Rw)} (h : ContOk L ts ct) (okt : TabsOk 5 ts) (l8 : ts.length ≤ 8) (hs : (ct.map List.length).sum ≤ 61) : Nice 1000000000 61 (contD ct) ∧ wt (contD ct) ≤ 9200 ∧ (contD ct).depth ≤ 3 := by
  have few : ∀ rs ∈ ct, rs.length ≤ 61 := fun rs hm => by
    have : rs.length ∈ ct.map List.length := List.mem_map.mpr ⟨rs, hm, rfl⟩
    have := mem_sum this
    omega
  have tn : ∀ rs ∈ ct, Nice 1000000000 61 (rowsD rs) ∧ wt (rowsD rs) ≤ 6 + rs.length * 149 ∧ (rowsD rs).depth ≤ 2 := fun rs hm => by
    obtain ⟨n, _, hn, ho⟩ := cont_rows h okt hm
    exact rows_nice hn ho (few rs hm)
  have lct := h.len
  have ws := wtAll_sum (f := rowsD) (g := fun rs => 6 + rs.length * 149) fun y hy => (tn y hy).2.1
  rw [sum_lin] at ws
  refine ⟨⟨by rw [List.length_map]; omega, all_nice fun y hy => (tn y hy).1⟩, ?_, ?_⟩
  · show 6 + wtAll (ct.map rowsD) ≤ 9200
    have : (ct.map List.length).sum * 149 ≤ 61 * 149 := Nat.mul_le_mul_right _ hs
    omega
  · have := all_depth (f := rowsD) (n := 2) fun y hy => (tn y hy).2.2
    show PyData.depthAll (ct.map rowsD) + 1 ≤ 3
    omega
theorem shows_more {B L : Nat} {d : PyData} (h : Nice B L d) (hB : B ≤ 10 ^ 20) (hd : d.depth ≤ 60) (hw : wt d ≤ 1000000) : Shows d :=
  ⟨(showable_nice hB h).1, (showable_nice hB h).2, hd, Nat.le_trans (shown_len hB h) (Nat.le_trans hw (by decide))⟩
theorem tabs_all {K : PySem.W.Frag} {H : Hp} {tp : Addr} {ts : List Tab} (h : Tabs K H tp ts) : Nice 1000000000 8 (.tuple (ts.map tabD)) ∧ wt (.tuple (ts.map tabD)) ≤ 10000 ∧ (PyData.tuple (ts.map tabD)).depth ≤ 4 := tabs_nice (by decide) h.l8 h.ok
end TT

set_option Elab.async false
set_option linter.all false
set_option maxRecDepth 100000
namespace TT
open PySem PySem.Spec PyProof.Rows L2
theorem tns_ok {ts : List Tab} (h : TabsOk 5 ts) : ∀ z ∈ tns ts, NameOk z := fun z hz => by
  obtain ⟨x, hx, rfl⟩ := List.mem_map.mp hz
  exact h.nm x hx
theorem cns_ok {ts : List Tab} (h : TabsOk 5 ts) {t : Str} (ht : t ∈ tns ts) : (∀ z ∈ cns ts t, NameOk z) ∧ 0 < (cns ts t).length ∧ (cns ts t).length ≤ 5 ∧ (cns ts t).Nodup := by
  obtain ⟨x, hx, rfl, e⟩ := tab_of h.nd ht
  unfold cns
  rw [e]
  obtain ⟨c, l⟩ := h.cs x hx
  refine ⟨fun z hz => ?_, by rw [List.length_map]; exact l, by rw [List.length_map]; exact c.top, c.nd⟩
  obtain ⟨y, hy, rfl⟩ := List.mem_map.mp hz
  exact c.nm y hy
theorem inS_str {zs : List Str} {d : PyData} (h : inS zs d = true) : ∃ z, d = .str z ∧ z ∈ zs := by
  cases d with
  | str z => exact ⟨z, rfl, of_decide_eq_true h⟩
  | _ => cases h
/-- the names of the tables as they are told by table_names -/
theorem namesOf_tabs (ts : List Tab) : namesOf (ts.map tabD) = tns ts := by
  unfold namesOf
  rw [List.map_map]
  rfl
theorem strName_tabs (ts : List Tab) : (ts.map tabD).all strName = true := List.all_eq_true.mpr fun d hd => by
  obtain ⟨x, _, rfl⟩ := List.mem_map.mp hd
  rfl
theorem u65 {k : Nat} {A : Around} (r : Room k A) : A.units + 65 < cLine := by have := r.un; omega
section
variable {P : Program} {w : World} {K : PySem.W.Frag} {mg : Str → Option Value} {base : Heap}
/-- names of what is told to be pairs, by a comprehension with two targets -/
def spNamesOf (K : PySem.W.Frag) : Sp := fun vs H Q _ => ∃ (p : Addr) (xs : List V) (ds : List PyData), vs = [.ref p] ∧ SqT K H p xs ∧ DpAll K H xs ds ∧ ds.length ≤ 900 ∧ ds.all strName = true ∧
  ∀ (D : Addr) (H' : Hp), Same H H' → H' D = some (.lst ((namesOf ds).map V.str)) → Q (.ref D) H'
abbrev s_table_names : Stmt := topS 12
abbrev N_table_names : List Str := ["tables", "table", "_"]
theorem sc_table_names : FnScope N_table_names ["tables"] (defScope s_table_names) := ⟨rfl, rfl, rfl, by decide +kernel, rfl, by decide +kernel, by decide +kernel⟩

theorem ok_table_names {f : Addr} {fd : FuncData} (F : Fun K "table_names" "table_names" s_table_names f fd) : FnOk P w K mg base CX0 1 f fd ["tables"] (spNamesOf K) := by
  refine F.ok sc_table_names (fun vs H Q E h => ?_) (fun cdv A outer sh H vs Q E hr h => ?_)
  · obtain ⟨p, xs, ds, rfl, _⟩ := h
    rfl
  obtain ⟨p, xs, ds, rfl, hS, hA, hl, hn, q⟩ := h
  have nd := sc_table_names.nd
  refine ⟨_, (pss_one (ps_ret (pe_lc (own := [("table", 1), ("_", 2)]) (g := (gTup _ 2 (gCons (gName 1) (gCons (gName 2) gNil)))) (tt := tYes) rfl nd (pi_tup (pv 0)) (blkOk_by (N := N_table_names) (sc := defScope s_table_names) (by decide +kernel)) (fun _ _ _ _ _ => (pg_tup rfl (pgs_cons (pg_name (i := 1) nd rfl (Or.inl rfl)) (pgs_cons (pg_name (i := 2) nd rfl (Or.inl rfl)) pgs_nil)))) (fun _ _ _ _ _ => pts_nil) (fun _ _ _ _ _ => (pv 1))))), ?_⟩
  have l := dpAll_len hA
  refine ⟨.ref p, rfl, p, rfl, ⟨_, hS⟩, fun D nD => ?_⟩
  refine lc_it walk_tup (PvM H D fun i => .str (strOf (fstD (ds.getD i .none)))) (pvm_start ..) (fun i H2 _ hP => sameT (pvm_same hP nD) hS) (fun i x H2 H3 hi hP hY => ?_) (fun H2 hP => ?_)
  · obtain ⟨rfl, hx⟩ := hY
    have sm := pvm_same hP nD
    obtain ⟨d, h1, h2⟩ := dpAll_get i hA hx
    have hd := List.all_eq_true.mp hn d (List.mem_of_getElem? h1)
    unfold strName at hd
    rw [Bool.and_eq_true] at hd
    obtain ⟨pt, x1, y1, a, b, rfl, rfl, hT, ha, hb⟩ := tup2 h2 hd.1
    obtain ⟨z, rfl, rfl⟩ : ∃ z, a = .str z ∧ x1 = .str z := by
      have h3 : isSB a = true := hd.2
      cases ha <;> first | exact ⟨_, rfl, rfl⟩ | cases h3
    refine ⟨pt, _, rfl, sameT sm hT, rfl, .str z, _, rfl, y1, _, rfl, rfl, ?_⟩
    refine ⟨rfl, ?_⟩
    unfold tYes
    dsimp only
    refine iteT ?_
    refine ⟨.str z, rfl, pvm_step hP (Same.refl _) ?_ (by omega)⟩
    show V.str z = .str (strOf (fstD (ds.getD i .none)))
    rw [List.getD_eq_getElem?_getD, h1]
    rfl
  · refine q D H2 (pvm_same hP nD) ?_
    rw [hP.1, l]
    unfold namesOf
    rw [List.map_map]
    have e := range_map (fun d => V.str (strOf (fstD d))) .none ds
    rw [e]
    rfl
def spColumnsOf (K : PySem.W.Frag) : Sp := fun vs H Q _ => ∃ (tp : Addr) (ts : List Tab) (t : Str), vs = [.ref tp, .str t] ∧ Tabs K H tp ts ∧ t ∈ tns ts ∧ ∀ (pc : Addr) (ys : List V), SqT K H pc ys → DpAll K H ys ((colsOf ts t).map colD) → Q (.ref pc) H
abbrev s_columns_of : Stmt := topS 14
abbrev N_columns_of : List Str := ["tables", "table", "name", "columns"]
theorem sc_columns_of : FnScope N_columns_of ["tables", "table"] (defScope s_columns_of) := ⟨rfl, rfl, rfl, by decide +kernel, rfl, by decide +kernel, by decide +kernel⟩

theorem ok_columns_of {f : Addr} {fd : FuncData} (F : Fun K "_columns_of" "_columns_of" s_columns_of f fd) : FnOk P w K mg base CX0 1 f fd ["tables", "table"] (spColumnsOf K) := by
  refine F.ok sc_columns_of (fun vs H Q E h => ?_) (fun cdv A outer sh H vs Q E hr h => ?_)
  · obtain ⟨tp, ts, t, rfl, _⟩ := h
    rfl
  obtain ⟨tp, ts, t, rfl, hT, ht, q⟩ := h
  have nd := sc_columns_of.nd
  refine ⟨_, (pss_cons (ps_for PassesOwn.never rfl (pi_tup (pv 0)) (pg_tup rfl (pgs_cons (pg_name (i := 2) nd rfl (Or.inl rfl)) (pgs_cons (pg_name (i := 3) nd rfl (Or.inl rfl)) pgs_nil)))
        (pss_one (ps_if (pt_cmpR op_eq (pv 2) (pv 1) (nomark _))
          (pss_one (ps_ret (pv 3)))
          pss_nil)))
      (pss_one ps_nv)), ?_⟩
  obtain ⟨xs, hS, hA, l⟩ := hT.parts
  refine ⟨.ref tp, rfl, tp, rfl, ⟨_, hS⟩, ?_⟩
  refine for_tup (K := K) (a := tp) (xs := xs) (fun i σ H' => (∃ y2 y3, σ = [some (.ref tp), some (.str t), y2, y3]) ∧ H' = H ∧ t ∉ (tns ts).take i) ⟨⟨none, none, rfl⟩, rfl, by simp⟩ (fun i σ H' _ hP => by rw [hP.2.1]; exact hS) (fun i x σ H' hx hP => ?_) (fun σ H' hP => ?_)
  · obtain ⟨⟨y2, y3, rfl⟩, rfl, hn⟩ := hP
    obtain ⟨tb, qq, pc, ys, htb, rfl, h1, h2, h3⟩ := tab_at hA hx
    refine ⟨qq, _, rfl, h1, rfl, .str tb.1, _, rfl, .ref pc, _, rfl, rfl, ?_⟩
    refine ⟨.str tb.1, rfl, .str t, rfl, rfl, _, rfl, ite2 (fun e => ?_) (fun e => ?_)⟩
    · obtain rfl : tb.1 = t := V.str.inj (of_decide_eq_true e)
      refine ⟨.ref pc, rfl, q pc ys h2 ?_⟩
      rw [colsOf_mem hT.ok.nd (List.mem_of_getElem? htb)]
      exact h3
    · refine ⟨⟨_, _, rfl⟩, rfl, fun z => ?_⟩
      rw [List.take_add_one, List.getElem?_map, htb] at z
      rcases List.mem_append.mp z with z | z
      · exact hn z
      · have : t = tb.1 := by simpa using z
        exact e (decide_eq_true (by rw [this]))
  · obtain ⟨_, _, hn⟩ := hP
    rw [l, ← tns_len, List.take_length] at hn
    exact hn ht
/-- a list of the names of a table's columns -/
def spColNames (K : PySem.W.Frag) : Sp := fun vs H Q _ => ∃ (tp : Addr) (ts : List Tab) (t : Str), vs = [.ref tp, .str t] ∧ Tabs K H tp ts ∧ t ∈ tns ts ∧ ∀ (D : Addr) (H' : Hp), Same H H' → H' D = some (.lst ((cns ts t).map V.str)) → Q (.ref D) H'
abbrev s_column_names : Stmt := topS 13
abbrev N_column_names : List Str := ["tables", "table", "column", "_"]
theorem sc_column_names : FnScope N_column_names ["tables", "table"] (defScope s_column_names) := ⟨rfl, rfl, rfl, by decide +kernel, rfl, by decide +kernel, by decide +kernel⟩

theorem ok_column_names {f : Addr} {fd : FuncData} (F : Fun K "column_names" "column_names" s_column_names f fd) (D_columns_of : Def P w K mg base 1 "_columns_of" ["tables", "table"] (spColumnsOf K)) : FnOk P w K mg base CX0 2 f fd ["tables", "table"] (spColNames K) := by
  refine F.ok sc_column_names (fun vs H Q E h => ?_) (fun cdv A outer sh H vs Q E hr h => ?_)
  · obtain ⟨tp, ts, t, rfl, _⟩ := h
    rfl
  obtain ⟨tp, ts, t, rfl, hT, ht, q⟩ := h
  have nd := sc_column_names.nd
  refine ⟨_, (pss_one (ps_ret (pe_lc (own := [("column", 2), ("_", 3)]) (g := (gTup _ 2 (gCons (gName 2) (gCons (gName 3) gNil)))) (tt := tYes) rfl nd (pi_tup (pe_own D_columns_of hr (pa_cons (pv 0) (pa_cons (pv 1) pa_nil)))) (blkOk_by (N := N_column_names) (sc := defScope s_column_names) (by decide +kernel)) (fun _ _ _ _ _ => (pg_tup rfl (pgs_cons (pg_name (i := 2) nd rfl (Or.inl rfl)) (pgs_cons (pg_name (i := 3) nd rfl (Or.inl rfl)) pgs_nil)))) (fun _ _ _ _ _ => pts_nil) (fun _ _ _ _ _ => (pv 2))))), ?_⟩
  refine ⟨.ref tp, rfl, .str t, rfl, tp, ts, t, rfl, hT, ht, fun pc ys hS hA => ⟨pc, rfl, ⟨_, hS⟩, fun D nD => ?_⟩⟩
  have l : ys.length = (cns ts t).length := by rw [dpAll_len hA, List.length_map, List.length_map]
  have l8 : (cns ts t).length ≤ 5 := by
    obtain ⟨x, hx, _, e⟩ := tab_of hT.ok.nd ht
    unfold cns
    rw [e, List.length_map]
    exact (hT.ok.cs x hx).1.top
  refine lc_it walk_tup (PvM H D fun i => .str ((cns ts t).getD i Str.empty)) (pvm_start ..) (fun i H2 _ hP => sameT (pvm_same hP nD) hS) (fun i x H2 H3 hi hP hY => ?_) (fun H2 hP => ?_)
  · obtain ⟨rfl, hx⟩ := hY
    have sm := pvm_same hP nD
    obtain ⟨co, qc, yc, hco, rfl, hqc⟩ := col_at hA hx
    refine ⟨qc, _, rfl, sameT sm hqc, rfl, .str co.1, _, rfl, yc, _, rfl, rfl, ?_⟩
    refine ⟨rfl, ?_⟩
    unfold tYes
    dsimp only
    refine iteT ?_
    refine ⟨.str co.1, rfl, pvm_step hP (Same.refl _) ?_ (by omega)⟩
    show V.str co.1 = .str ((cns ts t).getD i Str.empty)
    rw [getD_of (show (cns ts t)[i]? = some co.1 by rw [List.getElem?_map, hco]; rfl)]
  · refine q D H2 (pvm_same hP nD) ?_
    rw [hP.1, l]
    have e := range_map (fun z => V.str z) Str.empty (cns ts t)
    rw [e]
end
end TT

set_option Elab.async false
set_option linter.all false
set_option maxRecDepth 100000
namespace TT
open PySem PySem.Spec PyProof.Rows L2
/-! ### rules as plain data -/
inductive Pl
  | w (o : Option Int)
  | many
  | tell (t c : Str)
def plD : Pl → PyData
  | .w o => wD o
  | .many => .tuple [.str "many"]
  | .tell t c => .tuple [.str t, .str c]
/-- a place that may be read from, by the rule's side, kind, columns -/
def PlOk (side kind : Str) (zs : List Str) : Pl → Prop
  | .w o => WOk o
  | .many => side = "deed"
  | .tell t c => side ≠ "deed" ∧ c ∈ zs ∧ ((t = "old" ∧ kind ≠ "put") ∨ (t = "new" ∧ kind ≠ "drop"))
/-- what is not to be leant on, the box with it -/
structure MaskB (M : List Addr) (H : Hp) (b : Addr) : Prop where
  b : b ∈ M
  tr : ∀ p ∈ M, H p ≠ none
section
variable {M : List Addr} {H H' : Hp} {b p : Addr} {T : Nat}
theorem MaskB.kept (m : MaskB M H b) (k : Kept [b] H H') (S : BoxAt H' b T) : MaskB M H' b := ⟨m.b, fun p hp n => by
  by_cases z : p = b
  · subst z
    obtain ⟨x, y, t, _, _, _, e⟩ := S.ex
    rw [n] at e; cases e
  · cases e : H p with
    | none => exact m.tr p hp e
    | some o =>
      have := k p o e (by simp [z])
      rw [n] at this; cases this⟩
theorem MaskB.out (m : MaskB M H b) (n : H p = none) : p ∉ M := fun z => m.tr p z n
theorem MaskB.push {o : HO} (m : MaskB M H b) (n : H p = none) : MaskB (p :: M) (L2.upd H p o) b := ⟨List.mem_cons_of_mem _ m.b, fun q hq z => by
  rcases List.mem_cons.mp hq with rfl | hq
  · rw [upd_same] at z; cases z
  · rw [upd_ne (fun e => m.tr q hq (by rw [e]; exact n))] at z
    exact m.tr q hq z⟩
theorem MaskB.same (m : MaskB M H b) (s : Same H H') : MaskB M H' b := ⟨m.b, fun p hp z => by
  cases e : H p with
  | none => exact m.tr p hp e
  | some o => have := s p o e; rw [z] at this; cases this⟩
theorem MaskB.mono (m : MaskB M H b) (k : Kept [b] H H') : Kept M H H' := k.mono fun p h => by rw [List.mem_singleton.mp h]; exact m.b
end
def kinds3 : List Str := ["put", "drop", "set"]
section
variable {P : Program} {w : World} {K : PySem.W.Frag} {mg : Str → Option Value} {base : Heap}
/-- columns of a table, as they are handed -/
structure ColX (K : PySem.W.Frag) (b : Addr) (H : Hp) (pc : Addr) (ys : List V) (cs : List Col) : Prop where
  sq : SqT K (msk [b] H) pc ys
  dp : DpAll K (msk [b] H) ys (cs.map colD)
  l0 : 0 < cs.length
  l5 : cs.length ≤ 5
theorem ColX.kept {b pc : Addr} {H H' : Hp} {ys : List V} {cs : List Col} (c : ColX K b H pc ys cs) (k : Kept [b] H H') : ColX K b H' pc ys cs := ⟨sameT (msk_same k) c.sq, dpAll_same (msk_same k) c.dp, c.l0, c.l5⟩
/-- a rule's head: at 1 its side, at 3 its kind -/
structure HeadX (K : PySem.W.Frag) (b : Addr) (H : Hp) (hp : Addr) (side kind : Str) : Prop where
  ex : ∃ xs : List V, SqT K (msk [b] H) hp xs ∧ xs[1]? = some (.str side) ∧ xs[3]? = some (.str kind)
  k3 : kind ∈ kinds3
theorem HeadX.kept {b hp : Addr} {H H' : Hp} {side kind : Str} (c : HeadX K b H hp side kind) (k : Kept [b] H H') : HeadX K b H' hp side kind := ⟨let ⟨xs, h1, h2, h3⟩ := c.ex; ⟨xs, sameT (msk_same k) h1, h2, h3⟩, c.k3⟩
def spPlace (K : PySem.W.Frag) : Sp := fun vs H Q _ => ∃ (b hp pc : Addr) (T : Nat) (side kind : Str) (ys : List V) (cs : List Col) (M : List Addr), vs = [.ref b, .ref hp, .ref pc] ∧ BoxAt H b T ∧ T + 4 ≤ 1000000 ∧ MaskB M H b ∧ HeadX K b H hp side kind ∧ ColX K b H pc ys cs ∧
  ∀ (pl : Pl) (v : V) (H' : Hp), PlOk side kind (cs.map (·.1)) pl → Dp K (msk M H') v (plD pl) → BoxAt H' b (T + 4) → Kept [b] H H' → Q v H'
abbrev s_law_place : Stmt := topS 38
abbrev N_law_place : List Str := ["box", "head", "columns", "teller"]
theorem sc_law_place : FnScope N_law_place ["box", "head", "columns"] (defScope s_law_place) := ⟨rfl, rfl, rfl, by decide +kernel, rfl, by decide +kernel, by decide +kernel⟩

set_option maxHeartbeats 4000000 in
theorem ok_place {f : Addr} {fd : FuncData} (F : Fun K "_law_place" "_law_place" s_law_place f fd) (D_law_take : Def P w K mg base 1 "_law_take" ["box", "many"] spTakeB) (D_law_worth : Def P w K mg base 2 "_law_worth" ["box"] spWorthB)
    (D_law_one_of : Def P w K mg base 2 "_law_one_of" ["box", "some"] (spOneOf K)) : FnOk P w K mg base CX0 3 f fd ["box", "head", "columns"] (spPlace K) := by
  refine F.ok sc_law_place (fun vs H Q E h => ?_) (fun cdv A outer sh H vs Q E hr h => ?_)
  · obtain ⟨b, hp, pc, T, side, kind, ys, cs, M, rfl, _⟩ := h
    rfl
  obtain ⟨b, hp, pc, T, side, kind, ys, cs, M, rfl, S, hT, mM, hH, hC, q⟩ := h
  have nd := sc_law_place.nd
  have hu := hu_of hr
  refine ⟨_, (pss_cons (ps_if (pt_cmpR op_eq (pe_own D_law_take hr (pa_cons (pv 0) (pa_cons pe_int pa_nil))) pe_int (nomark _))
        (pss_one (ps_ret (pe_own D_law_worth hr (pa_cons (pv 0) pa_nil))))
        pss_nil)
      (pss_cons (ps_if (pt_cmpR op_eq (pe_ix ix_tup (pv 1) pe_int (fun _ _ => rfl)) pe_str (nomark _))
        (pss_one (ps_ret (pe_tup (pa_cons pe_str pa_nil))))
        pss_nil)
      (pss_cons (ps_set (i := 3) nd rfl (Or.inl rfl) (pe_ix ix_list (pe_lst (pa_cons pe_str (pa_cons pe_str pa_nil))) (pe_own D_law_take hr (pa_cons (pv 0) (pa_cons pe_int pa_nil))) (fun _ _ => rfl)))
      (pss_cons (ps_set (i := 3) nd rfl (Or.inl rfl) (pe_dget2 hu (pe_disp (pps_cons pe_str pe_str (pps_cons pe_str pe_str pps_nil)) (by rfl) (by rfl) (fun z => by cases z) (by decide)) (pe_ix ix_tup (pv 1) pe_int (fun _ _ => rfl)) (pv 3) ⟨by rfl, by rfl, by rfl, by rfl⟩))
      (pss_one (ps_ret (pe_tup (pa_cons (pv 3) (pa_cons (pe_ix ix_seq (pe_own D_law_one_of hr (pa_cons (pv 0) (pa_cons (pv 2) pa_nil))) pe_int (fun _ _ => rfl)) pa_nil))))))))), ?_⟩
  refine ⟨.ref b, rfl, b, T, _, rfl, S, by omega, by decide, by decide, fun d H1 d0 d1 S1 K1 => ⟨rfl, _, rfl, ite2 (fun h1 => ?_) (fun h1 => ?_)⟩⟩
  · refine ⟨.ref b, rfl, b, _, rfl, S1, by omega, fun o H2 ho S2 K2 => ?_⟩
    exact q (.w o) (wV o) H2 ho (dp_w o) (S2.mono (by omega)) (K1.trans K2)
  obtain ⟨xs, hx, x1, x3⟩ := (hH.kept K1).ex
  refine ⟨.ref hp, rfl, hp, xs, 1, .str side, rfl, rfl, sameT (msk_sub _ _) hx, atI_nat (j := 1) x1, rfl, _, rfl, ite2 (fun h2 => ?_) (fun h2 => ?_)⟩
  · have h2 : side = "deed" := V.str.inj (of_decide_eq_true h2)
    refine ⟨(by show 1 ≤ sizeLine; decide), fun p np => ?_⟩
    have m1 := mM.kept K1 S1
    exact q .many (.ref p) _ h2 (.tup (.inl (.inl (msk_at upd_same (m1.out np)))) (.cons (.str _) .nil)) ((S1.same (same_upd np)).mono (by omega)) (K1.trans (Kept.upd_new np))
  have h2 : side ≠ "deed" := fun z => h2 (decide_eq_true (by rw [z]))
  refine ⟨(by show 2 ≤ sizeLine; decide), fun L nL => ?_⟩
  refine ⟨.ref b, rfl, b, _, _, rfl, S1.same (same_upd nL), by omega, by decide, by decide, fun e H2 e0 e1 S2 K2 => ?_⟩
  have oL := S1.out nL
  have K12 : Kept [b] H1 H2 := (Kept.upd_new nL).trans K2
  obtain ⟨tl, htl, hat⟩ : ∃ tl : Str, (tl = "old" ∨ tl = "new") ∧ atI [V.str "old", V.str "new"] e = some (.str tl) := by
    have : e = 0 ∨ e = 1 := by omega
    rcases this with rfl | rfl
    · exact ⟨"old", .inl rfl, rfl⟩
    · exact ⟨"new", .inr rfl, rfl⟩
  refine ⟨L, _, _, .str tl, rfl, rfl, .inl (.inl (K2.at upd_same oL)), hat, ?_⟩
  have hH2 := (hH.kept (K1.trans K12)).ex
  obtain ⟨xs2, hx2, _, x32⟩ := hH2
  have k3 := hH.k3
  have C2 := hC.kept (K1.trans K12)
  have mM2 := (mM.kept (K1.trans K12) S2)
  obtain ⟨t2, ht2, hok⟩ : ∃ t2 : Str, ((valV (mergeK [] [((Sum.inr "put" : Key), V.str "new"), (Sum.inr "drop", V.str "old")]) (Sum.inr kind)).getD (.str tl)) = .str t2 ∧ ((t2 = "old" ∧ kind ≠ "put") ∨ (t2 = "new" ∧ kind ≠ "drop")) := by
    unfold kinds3 at k3
    simp only [List.mem_cons, List.not_mem_nil, or_false] at k3
    rcases k3 with rfl | rfl | rfl
    · exact ⟨"new", rfl, .inr ⟨rfl, by decide⟩⟩
    · exact ⟨"old", rfl, .inl ⟨rfl, by decide⟩⟩
    · exact ⟨tl, rfl, htl.imp (fun h => ⟨h, by decide⟩) fun h => ⟨h, by decide⟩⟩
  refine gN0 ?_
  dsimp only [List.set]
  show tSeq _ _ _ [some (.ref b), some (.ref hp), some (.ref pc), some (.str tl)] H2
  refine fun dp ndp => ⟨upd_same, [((Sum.inr "put" : Key), V.str "new"), (Sum.inr "drop", V.str "old")], rfl, by decide, ?_⟩
  have sD : Same H2 (upd (upd H2 dp (.dK [])) dp (.dK (mergeK [] [((Sum.inr "put" : Key), V.str "new"), (Sum.inr "drop", V.str "old")]))) := by rw [upd_upd]; exact same_upd ndp
  have eD : (upd (upd H2 dp (.dK [])) dp (.dK (mergeK [] [((Sum.inr "put" : Key), V.str "new"), (Sum.inr "drop", V.str "old")]))) dp = some (.dK (mergeK [] [((Sum.inr "put" : Key), V.str "new"), (Sum.inr "drop", V.str "old")])) := upd_same
  generalize upd (upd H2 dp (.dK [])) dp (.dK (mergeK [] [((Sum.inr "put" : Key), V.str "new"), (Sum.inr "drop", V.str "old")])) = H3 at sD eD ⊢
  refine ⟨dp, rfl, .inl ⟨_, .inl eD⟩, .ref hp, rfl, hp, xs2, 3, .str kind, rfl, rfl, sameT sD (sameT (msk_sub _ _) hx2), atI_nat (j := 3) x32, .str tl, rfl, _, DGet.k (k := Sum.inr kind) eD, ?_⟩
  rw [ht2]
  have S3 := S2.same sD
  have C3 := C2.kept (Kept.of_same sD)
  refine ⟨.str t2, rfl, .ref b, rfl, .ref pc, rfl, b, pc, _, ys, rfl, S3, by omega, .inr C3.sq, ?_, ?_, fun j v H4 hj S4 K4 => ?_⟩
  · rw [dpAll_len C3.dp, List.length_map]; exact C3.l0
  · rw [dpAll_len C3.dp, List.length_map]; have := C3.l5; omega
  have C4 := C3.kept K4
  obtain ⟨dd, y1, y2⟩ := dpAll_get j C4.dp hj
  rw [List.getElem?_map] at y1
  obtain ⟨c, hc, rfl⟩ := Option.map_eq_some_iff.mp y1
  cases y2 with
  | tup a1 a2 =>
  cases a2 with
  | cons b1 b2 =>
  cases b1
  rename_i cp vs0
  have m4 := (mM2.same sD).kept K4 S4
  refine .inr (.inl ⟨cp, _, 0, .str c.1, rfl, rfl, sameT (msk_sub _ _) a1, atI_nat (j := 0) rfl, (by show 2 ≤ sizeLine; decide), fun p np => ?_⟩)
  exact q (.tell t2 c.1) (.ref p) _ ⟨h2, List.mem_map.mpr ⟨c, List.mem_of_getElem? hc, rfl⟩, hok⟩ (.tup (.inl (.inl (msk_at upd_same (m4.out np)))) (.cons (.str _) (.cons (.str _) .nil))) ((S4.same (same_upd np)).mono (by omega)) ((K1.trans K12).trans ((Kept.of_same sD).trans (K4.trans (Kept.upd_new np))))
/-! ### acts -/
inductive Act
  | put (t : Str) (ps : List Pl)
  | drop (t : Str) (p : Pl)
  | cell (w t : Str) (k : Pl) (c : Str) (p : Pl)
def actD : Act → PyData
  | .put t ps => .tuple [.str "put", .str t, .tuple (ps.map plD)]
  | .drop t p => .tuple [.str "drop", .str t, plD p]
  | .cell w t k c p => .tuple [.str w, .str t, plD k, .str c, plD p]
def ActOk (ts : List Tab) (side kind : Str) (zs : List Str) : Act → Prop
  | .put t ps => (∃ x ∈ ts, x.1 = t ∧ ps.length = x.2.length) ∧ ∀ p ∈ ps, PlOk side kind zs p
  | .drop t p => (∃ x ∈ ts, x.1 = t) ∧ PlOk side kind zs p
  | .cell w t k c p => (w = "set" ∨ w = "add") ∧ (∃ x ∈ ts, x.1 = t ∧ c ∈ x.2.map (·.1)) ∧ PlOk side kind zs k ∧ PlOk side kind zs p
end
end TT

set_option Elab.async false
set_option linter.all false
set_option maxRecDepth 100000
namespace TT
open PySem PySem.Spec PyProof.Rows L2
theorem MaskB.cons {M : List Addr} {H : Hp} {b D : Addr} {o : HO} (m : MaskB M H b) (e : H D = some o) : MaskB (D :: M) H b := ⟨List.mem_cons_of_mem _ m.b, fun p hp z => by
  rcases List.mem_cons.mp hp with rfl | hp
  · rw [e] at z; cases z
  · exact m.tr p hp z⟩
structure TabsB (K : PySem.W.Frag) (b : Addr) (H : Hp) (tp : Addr) (xs : List V) (ts : List Tab) : Prop where
  sq : SqT K (msk [b] H) tp xs
  dp : DpAll K (msk [b] H) xs (ts.map tabD)
  l0 : 0 < ts.length
  l6 : ts.length ≤ 6
  ok : ∀ x ∈ ts, 0 < x.2.length ∧ x.2.length ≤ 5
theorem TabsB.kept {K : PySem.W.Frag} {b tp : Addr} {H H' : Hp} {xs : List V} {ts : List Tab} (c : TabsB K b H tp xs ts) (k : Kept [b] H H') : TabsB K b H' tp xs ts := ⟨sameT (msk_same k) c.sq, dpAll_same (msk_same k) c.dp, c.l0, c.l6, c.ok⟩
theorem TabsB.len {K : PySem.W.Frag} {b tp : Addr} {H : Hp} {xs : List V} {ts : List Tab} (c : TabsB K b H tp xs ts) : xs.length = ts.length := by rw [dpAll_len c.dp, List.length_map]
theorem new_at {K : PySem.W.Frag} {b L : Addr} {T : Nat} {H : Hp} {xs : List V} (S : BoxAt H b T) (n : H L = none) : SqL K (msk [b] (upd H L (.lst xs))) L xs := .inl (.inl (msk_at upd_same (S.out n)))
section
variable {P : Program} {w : World} {K : PySem.W.Frag} {mg : Str → Option Value} {base : Heap}
def spAct (K : PySem.W.Frag) : Sp := fun vs H Q _ => ∃ (b tp hp pc : Addr) (T : Nat) (side kind : Str) (xs : List V) (ts : List Tab) (ys : List V) (cs : List Col) (M : List Addr), vs = [.ref b, .ref tp, .ref hp, .ref pc] ∧ BoxAt H b T ∧ T + 30 ≤ 1000000 ∧ MaskB M H b ∧ TabsB K b H tp xs ts ∧ HeadX K b H hp side kind ∧ ColX K b H pc ys cs ∧
  ∀ (act : Act) (v : V) (H' : Hp), ActOk ts side kind (cs.map (·.1)) act → Dp K (msk M H') v (actD act) → BoxAt H' b (T + 30) → Kept [b] H H' → Q v H'
abbrev s_law_act : Stmt := topS 39
abbrev N_law_act : List Str := ["box", "tables", "head", "columns", "table", "own", "word", "key", "column", "one"]
theorem sc_law_act : FnScope N_law_act ["box", "tables", "head", "columns"] (defScope s_law_act) := ⟨rfl, rfl, rfl, by decide +kernel, rfl, by decide +kernel, by decide +kernel⟩

set_option maxHeartbeats 4000000 in
theorem ok_act {f : Addr} {fd : FuncData} (F : Fun K "_law_act" "_law_act" s_law_act f fd) (nb : NB mg) (D_law_one_of : Def P w K mg base 2 "_law_one_of" ["box", "some"] (spOneOf K)) (D_law_place : Def P w K mg base 3 "_law_place" ["box", "head", "columns"] (spPlace K)) : FnOk P w K mg base CX0 4 f fd ["box", "tables", "head", "columns"] (spAct K) := by
  refine F.ok sc_law_act (fun vs H Q E h => ?_) (fun cdv A outer sh H vs Q E hr h => ?_)
  · obtain ⟨b, tp, hp, pc, T, side, kind, xs, ts, ys, cs, M, rfl, _⟩ := h
    rfl
  obtain ⟨b, tp, hp, pc, T, side, kind, xs, ts, ys, cs, M, rfl, S, hT, mM, hTb, hH, hC, q⟩ := h
  have nd := sc_law_act.nd
  have hu := hu_of hr
  refine ⟨_, (pss_cons (ps_asg (pe_tup (pa_cons (pe_own D_law_one_of hr (pa_cons (pv 0) (pa_cons (pv 1) pa_nil))) (pa_cons (pe_own D_law_one_of hr (pa_cons (pv 0) (pa_cons (pe_lst (pa_cons pe_str (pa_cons pe_str (pa_cons pe_str (pa_cons pe_str pa_nil))))) pa_nil))) pa_nil))) (pg_tup rfl (pgs_cons (pg_tup rfl (pgs_cons (pg_name (i := 4) nd rfl (Or.inl rfl)) (pgs_cons (pg_name (i := 5) nd rfl (Or.inl rfl)) pgs_nil))) (pgs_cons (pg_name (i := 6) nd rfl (Or.inl rfl)) pgs_nil))))
      (pss_cons (ps_if (pt_cmpR op_eq (pv 6) pe_str (nomark _))
        (pss_one (ps_ret (pe_tup (pa_cons (pv 6) (pa_cons (pv 4) (pa_cons (pe_callTy call_tuple_of (by rfl) nb.b_tuple (by decide +kernel) (pa_cons (pe_lc (own := [("one", 9)]) (g := (gName 9)) (tt := tYes) rfl nd (pi_tup (pv 5)) (blkOk_by (N := N_law_act) (sc := defScope s_law_act) (by decide +kernel)) (fun _ _ _ _ _ => (pg_name (i := 9) nd rfl (Or.inl rfl))) (fun _ _ _ _ _ => pts_nil) (fun _ _ _ _ _ => (pe_own D_law_place hr (pa_cons (pv 0) (pa_cons (pv 2) (pa_cons (pv 3) pa_nil)))))) pa_nil)) pa_nil))))))
        pss_nil)
      (pss_cons (ps_if (pt_cmpR op_eq (pv 6) pe_str (nomark _))
        (pss_one (ps_ret (pe_tup (pa_cons (pv 6) (pa_cons (pv 4) (pa_cons (pe_own D_law_place hr (pa_cons (pv 0) (pa_cons (pv 2) (pa_cons (pv 3) pa_nil)))) pa_nil))))))
        pss_nil)
      (pss_cons (ps_par (i := 7) (j := 8) (by rfl) nd rfl rfl (by decide) rfl rfl (pa_cons (pe_own D_law_place hr (pa_cons (pv 0) (pa_cons (pv 2) (pa_cons (pv 3) pa_nil)))) (pa_cons (pe_ix ix_seq (pe_own D_law_one_of hr (pa_cons (pv 0) (pa_cons (pv 5) pa_nil))) pe_int (fun _ _ => rfl)) pa_nil)) (by rfl))
      (pss_one (ps_ret (pe_tup (pa_cons (pv 6) (pa_cons (pv 4) (pa_cons (pv 7) (pa_cons (pv 8) (pa_cons (pe_own D_law_place hr (pa_cons (pv 0) (pa_cons (pv 2) (pa_cons (pv 3) pa_nil)))) pa_nil)))))))))))), ?_⟩
  refine ⟨.ref b, rfl, .ref tp, rfl, b, tp, T, xs, rfl, S, by omega, .inr hTb.sq, by rw [hTb.len]; exact hTb.l0, by rw [hTb.len]; have := hTb.l6; omega, fun j v H1 hj S1 K1 => ?_⟩
  have T1 := hTb.kept K1
  obtain ⟨tb, qq, po, yo, htb, rfl, h1, h2, h3⟩ := tab_at T1.dp hj
  have htm := List.mem_of_getElem? htb
  obtain ⟨o0, o5⟩ := hTb.ok tb htm
  refine ⟨.ref b, rfl, (by show 4 ≤ sizeLine; decide), fun L nL => ?_⟩
  refine ⟨b, L, _, _, rfl, S1.same (same_upd nL), by omega, .inl (new_at S1 nL), (by show 0 < 4; decide), (by show 4 < 2 ^ 62; decide), fun j2 v2 H2 hj2 S2 K2 => ?_⟩
  have K12 : Kept [b] H1 H2 := (Kept.upd_new nL).trans K2
  have K02 := K1.trans K12
  have h12 := sameT (msk_same K12) h1
  have C2' : ColX K b H2 po yo tb.2 := ⟨sameT (msk_same K12) h2, dpAll_same (msk_same K12) h3, o0, o5⟩
  obtain ⟨wd, rfl, hwd⟩ : ∃ wd : Str, v2 = .str wd ∧ (wd = "put" ∨ wd = "drop" ∨ wd = "set" ∨ wd = "add") := by
    match j2, hj2 with
    | 0, h => exact ⟨"put", (Option.some.inj h).symm, .inl rfl⟩
    | 1, h => exact ⟨"drop", (Option.some.inj h).symm, .inr (.inl rfl)⟩
    | 2, h => exact ⟨"set", (Option.some.inj h).symm, .inr (.inr (.inl rfl))⟩
    | 3, h => exact ⟨"add", (Option.some.inj h).symm, .inr (.inr (.inr rfl))⟩
    | n + 4, h => cases h
  refine ⟨(by show 2 ≤ sizeLine; decide), fun p0 n0 => ?_⟩
  have s0 := same_upd (o := .tup [.ref qq, .str wd]) n0
  refine ⟨p0, _, rfl, .inl (.inl upd_same), rfl, .ref qq, _, rfl, qq, _, rfl, sameT s0 (sameT (msk_sub _ _) h12), rfl, .str tb.1, _, rfl, .ref po, _, rfl, rfl, .str wd, _, rfl, rfl, ?_⟩
  have k0 : Kept [b] H2 (upd H2 p0 (.tup [.ref qq, .str wd])) := Kept.of_same s0
  have S3 := S2.same s0
  have K03 := K02.trans k0
  have C3 := hC.kept K03
  have C3' := C2'.kept k0
  have H3' := hH.kept K03
  have m3 := mM.kept K03 S3
  show tSeq _ _ _ [some (.ref b), some (.ref tp), some (.ref hp), some (.ref pc), some (.str tb.1), some (.ref po), some (.str wd), none, none, none] (upd H2 p0 (.tup [.ref qq, .str wd]))
  generalize upd H2 p0 (.tup [.ref qq, .str wd]) = H3 at S3 K03 C3 C3' H3' m3 ⊢
  clear h1 h2 h3 h12 C2' k0 s0 K12 K02 T1 K1 K2
  refine ⟨.str wd, rfl, rfl, _, rfl, ite2 (fun e => ?_) (fun e => ?_)⟩
  · -- put
    have e : wd = "put" := V.str.inj (of_decide_eq_true e)
    refine ⟨.str wd, rfl, .str tb.1, rfl, .ref po, rfl, po, rfl, ⟨_, sameT (msk_sub _ _) C3'.sq⟩, fun D nD => ?_⟩
    have lyo : yo.length = tb.2.length := by rw [dpAll_len C3'.dp, List.length_map]
    have nbD := S3.ne nD
    refine lc_it (walk_tup (xs := yo)) (fun k H' => (∃ us pls, Grow K M H' D us (pls.map plD) ∧ pls.length = k ∧ ∀ p ∈ pls, PlOk side kind (cs.map (·.1)) p) ∧ BoxAt H' b (T + 2 + k * 4) ∧ Kept [D, b] H3 H') ⟨⟨[], [], .start, rfl, fun _ h => absurd h List.not_mem_nil⟩, (S3.same (same_upd nD)).mono (by omega), Kept.upd_new nD⟩ (fun k H' _ hP => sameT (msk_sub _ _) (C3'.kept (hP.2.2.new nD)).sq) (fun k x H' H'' hk hP hY => ?_) (fun H4 hP => ?_)
    · obtain ⟨rfl, hx⟩ := hY
      obtain ⟨⟨us, pls, gr, lp, okp⟩, S4, K4⟩ := hP
      have k4 := K4.new nD
      have hk5 : k < 5 := by omega
      have m4 := (m3.kept k4 S4).cons gr.at'
      refine ⟨rfl, ?_⟩
      unfold tYes
      dsimp only
      refine iteT ?_
      refine ⟨.ref b, rfl, .ref hp, rfl, .ref pc, rfl, b, hp, pc, _, side, kind, ys, cs, D :: M, rfl, S4, by omega, m4, H3'.kept k4, C3.kept k4, fun pl v H5 hpl hv S5 K5 => ?_⟩
      have oD : D ∉ M := m3.out nD
      have g5 := gr.kept (K5.mono fun p h => by rw [List.mem_singleton.mp h]; exact m3.b) oD
      refine ⟨us, g5.at', small1000 (by rw [gr.len, List.length_map, lp]; omega), ⟨us ++ [v], pls ++ [pl], by rw [List.map_append]; exact g5.put hv, by rw [List.length_append, lp]; rfl, fun p hp => ?_⟩, ?_, ?_⟩
      · rcases List.mem_append.mp hp with h | h
        · exact okp p h
        · rw [List.mem_singleton.mp h]; exact hpl
      · exact (S5.kept (Kept.upd_in (M := [D]) (List.mem_cons_self ..)) (by simp [nbD])).mono (by omega)
      · exact K4.trans ((K5.mono fun p h => List.mem_cons_of_mem _ h).trans (Kept.upd_in (List.mem_cons_self ..)))
    · obtain ⟨⟨us, pls, gr, lp, okp⟩, S4, K4⟩ := hP
      have k4 := K4.new nD
      have m4 := m3.kept k4 S4
      refine ⟨D, us, rfl, .inl ⟨.inl (.inl gr.at'), fun l nl => ⟨(by show 3 ≤ sizeLine; decide), fun t nt => ?_⟩⟩⟩
      have sl := same_upd (o := .tup us) nl
      have st := same_upd (o := .tup [.str wd, .str tb.1, .ref l]) nt
      have s3 := sl.trans st
      have nlt : l ≠ t := ne_of_none upd_same nt
      have ol := m4.out nl
      have ot := (m4.same sl).out nt
      subst e
      refine q (.put tb.1 pls) (.ref t) _ ⟨⟨tb, htm, rfl, by rw [lp, lyo]⟩, okp⟩ (.tup (.inl (.inl (msk_at upd_same ot))) (.cons (.str _) (.cons (.str _) (.cons (.tup (.inl (.inl (msk_at (by rw [upd_ne nlt]; exact upd_same) ol))) ?_) .nil)))) ((S4.same s3).mono (by omega)) (K03.trans (k4.trans (Kept.of_same s3)))
      exact dpAll_same ((msk_less sub_push).trans (msk_same (Kept.of_same s3))) gr.dp
  · have e1 : wd ≠ "put" := fun z => e (decide_eq_true (by rw [z]))
    refine ⟨.str wd, rfl, rfl, _, rfl, ite2 (fun e => ?_) (fun e => ?_)⟩
    · have e : wd = "drop" := V.str.inj (of_decide_eq_true e)
      refine ⟨.str wd, rfl, .str tb.1, rfl, .ref b, rfl, .ref hp, rfl, .ref pc, rfl, b, hp, pc, _, side, kind, ys, cs, M, rfl, S3, by omega, m3, H3', C3, fun pl v H5 hpl hv S5 K5 => ⟨(by show 3 ≤ sizeLine; decide), fun t nt => ?_⟩⟩
      have m5 := m3.kept K5 S5
      have st := same_upd (o := .tup [.str wd, .str tb.1, v]) nt
      subst e
      exact q (.drop tb.1 pl) (.ref t) _ ⟨⟨tb, htm, rfl⟩, hpl⟩ (.tup (.inl (.inl (msk_at upd_same (m5.out nt)))) (.cons (.str _) (.cons (.str _) (.cons (dp_same (msk_same (Kept.of_same st)) hv) .nil)))) ((S5.same st).mono (by omega)) (K03.trans (K5.trans (Kept.of_same st)))
    · have e2 : wd ≠ "drop" := fun z => e (decide_eq_true (by rw [z]))
      refine ⟨.ref b, rfl, .ref hp, rfl, .ref pc, rfl, b, hp, pc, _, side, kind, ys, cs, M, rfl, S3, by omega, m3, H3', C3, fun pk vk H5 hpk hvk S5 K5 => ?_⟩
      have C5' := C3'.kept K5
      refine ⟨.ref b, rfl, .ref po, rfl, b, po, _, yo, rfl, S5, by omega, .inr C5'.sq, by rw [dpAll_len C5'.dp, List.length_map]; exact o0, by rw [dpAll_len C5'.dp, List.length_map]; omega, fun j3 v3 H6 hj3 S6 K6 => ?_⟩
      obtain ⟨dd, y1, y2⟩ := dpAll_get j3 (C5'.kept K6).dp hj3
      rw [List.getElem?_map] at y1
      obtain ⟨c, hc, rfl⟩ := Option.map_eq_some_iff.mp y1
      cases y2 with
      | tup a1 a2 =>
      cases a2 with
      | cons b1 b2 =>
      cases b1
      rename_i cp vs0
      refine .inr (.inl ⟨cp, _, 0, .str c.1, rfl, rfl, sameT (msk_sub _ _) a1, atI_nat (j := 0) rfl, ⟨_, _, rfl, ?_⟩⟩)
      have k36 := K5.trans K6
      have m6 := m3.kept k36 S6
      refine ⟨.str wd, rfl, .str tb.1, rfl, vk, rfl, .str c.1, rfl, .ref b, rfl, .ref hp, rfl, .ref pc, rfl, b, hp, pc, _, side, kind, ys, cs, M, rfl, S6, by omega, m6, H3'.kept k36, C3.kept k36, fun pl v H7 hpl hv S7 K7 => ⟨(by show 5 ≤ sizeLine; decide), fun t nt => ?_⟩⟩
      have m7 := m6.kept K7 S7
      have st := same_upd (o := .tup [.str wd, .str tb.1, vk, .str c.1, v]) nt
      have hvk7 := dp_same (msk_same ((m3.kept K5 S5).mono (K6.trans (K7.trans (Kept.of_same st))))) hvk
      refine q (.cell wd tb.1 pk c.1 pl) (.ref t) _ ⟨?_, ⟨tb, htm, rfl, List.mem_map.mpr ⟨c, List.mem_of_getElem? hc, rfl⟩⟩, hpk, hpl⟩ (.tup (.inl (.inl (msk_at upd_same (m7.out nt)))) (.cons (.str _) (.cons (.str _) (.cons hvk7 (.cons (.str _) (.cons (dp_same (msk_same (Kept.of_same st)) hv) .nil)))))) ((S7.same st).mono (by omega)) (K03.trans (k36.trans (K7.trans (Kept.of_same st))))
      rcases hwd with h | h | h | h
      · exact absurd h e1
      · exact absurd h e2
      · exact .inl h
      · exact .inr h
end
end TT

set_option Elab.async false
set_option linter.all false
set_option maxRecDepth 100000
namespace TT
open PySem PySem.Spec PyProof.Rows L2
/-! ### rules drawn -/
structure Rul where
  nm : Str
  side : Str
  tab : Str
  kind : Str
  col : Option Str
  test : Option (Pl × Str × Pl)
  acts : List Act
def colO : Option Str → PyData
  | none => .none
  | some c => .str c
def colOV : Option Str → V
  | none => .non
  | some c => .str c
def testD : Option (Pl × Str × Pl) → PyData
  | none => .none
  | some (a, s, b) => .tuple [plD a, .str s, plD b]
def ruleD (r : Rul) : PyData := .tuple [.str r.nm, .str r.side, .str r.tab, .str r.kind, colO r.col, testD r.test, .tuple (r.acts.map actD)]
def sides3 : List Str := ["ahead", "row", "deed"]
def signs3 : List Str := ["less", "like", "unlike"]
structure RuleOk (ts : List Tab) (r : Rul) : Prop where
  nm : NameOk r.nm
  side : r.side ∈ sides3
  kind : r.kind ∈ kinds3
  ex : ∃ x ∈ ts, x.1 = r.tab ∧ (∀ c, r.col = some c → r.kind = "set" ∧ c ∈ x.2.map (·.1)) ∧ (∀ a s b, r.test = some (a, s, b) → s ∈ signs3 ∧ PlOk r.side r.kind (x.2.map (·.1)) a ∧ PlOk r.side r.kind (x.2.map (·.1)) b) ∧
    ∀ act ∈ r.acts, ActOk ts r.side r.kind (x.2.map (·.1)) act
  ahead : r.side = "ahead" → r.test ≠ none ∧ r.acts = []
  other : r.side ≠ "ahead" → 0 < r.acts.length ∧ r.acts.length ≤ 3
theorem ifOr {tA tB : TT} {Y N : TS} {D : Ends} {σ : L2.St} {H : Hp} (G : Hp → Prop) (yes : ∀ H', G H' → Y D σ H') (main : (∀ H', G H' → Y D σ H') → tIfS (tOr tA tB) Y N D σ H) : tIfS (tOr tA tB) Y N D σ H := main yes
theorem splitσ {A R : TS} {D : Ends} {σ0 : L2.St} {H0 : Hp} (Pp : L2.St → Hp → Prop) (rest : ∀ σ H, Pp σ H → R D σ H) (main : (∀ σ H, Pp σ H → R D σ H) → tSeq A R D σ0 H0) : tSeq A R D σ0 H0 := main rest
section
variable {P : Program} {w : World} {K : PySem.W.Frag} {mg : Str → Option Value} {base : Heap}
def spRules (K : PySem.W.Frag) : Sp := fun vs H Q _ => ∃ (b tp : Addr) (T m : Nat) (xs : List V) (ts : List Tab), vs = [.ref b, .ref tp, .int m] ∧ BoxAt H b T ∧ T + 2000 ≤ 1000000 ∧ m ≤ 8 ∧ TabsB K b H tp xs ts ∧
  ∀ (p : Addr) (rs : List Rul) (H' : Hp), rs.length ≤ m → (rs.map (·.nm)).Nodup → (∀ r ∈ rs, RuleOk ts r) → H p = none → Dp K (msk [b] H') (.ref p) (.tuple (rs.map ruleD)) → BoxAt H' b (T + 2000) → Kept [b] H H' → Q (.ref p) H'
abbrev s_law_rules : Stmt := topS 40
abbrev N_law_rules : List Str := ["box", "tables", "most", "names", "found", "k", "table", "columns", "kind", "column", "head", "test", "acts", "sign", "turn"]
theorem sc_law_rules : FnScope N_law_rules ["box", "tables", "most"] (defScope s_law_rules) := ⟨rfl, rfl, rfl, by decide +kernel, rfl, by decide +kernel, by decide +kernel⟩

set_option maxHeartbeats 8000000 in
theorem ok_rules {f : Addr} {fd : FuncData} (F : Fun K "_law_rules" "_law_rules" s_law_rules f fd) (nb : NB mg) (D_law_take : Def P w K mg base 1 "_law_take" ["box", "many"] spTakeB) (D_law_names : Def P w K mg base 2 "_law_names" ["box", "many"] spNamesB) (D_law_one_of : Def P w K mg base 2 "_law_one_of" ["box", "some"] (spOneOf K)) (D_law_place : Def P w K mg base 3 "_law_place" ["box", "head", "columns"] (spPlace K))
    (D_law_act : Def P w K mg base 4 "_law_act" ["box", "tables", "head", "columns"] (spAct K)) : FnOk P w K mg base CX0 5 f fd ["box", "tables", "most"] (spRules K) := by
  refine F.ok sc_law_rules (fun vs H Q E h => ?_) (fun cdv A outer sh H vs Q E hr h => ?_)
  · obtain ⟨b, tp, T, m, xs, ts, rfl, _⟩ := h
    rfl
  obtain ⟨b, tp, T, m, xs, ts, rfl, S, hT, hm, hTb, q⟩ := h
  have nd := sc_law_rules.nd
  have hu := hu_of hr
  refine ⟨_, (pss_cons (ps_par (i := 3) (j := 4) (by rfl) nd rfl rfl (by decide) rfl rfl (pa_cons (pe_own D_law_names hr (pa_cons (pv 0) (pa_cons pe_int pa_nil))) (pa_cons (pe_lst pa_nil) pa_nil)) (by rfl))
      (pss_cons (ps_for PassesOwn.never rfl (pi_range1 (by rfl) nb.b_range (pa_cons (pe_own D_law_take hr (pa_cons (pv 0) (pa_cons (pe_op op_add (pv 2) pe_int) pa_nil))) pa_nil)) (pg_name (i := 5) nd rfl (Or.inl rfl))
        (pss_cons (ps_asg (pe_tup (pa_cons (pe_own D_law_one_of hr (pa_cons (pv 0) (pa_cons (pv 1) pa_nil))) (pa_cons (pe_own D_law_one_of hr (pa_cons (pv 0) (pa_cons (pe_lst (pa_cons pe_str (pa_cons pe_str (pa_cons pe_str pa_nil)))) pa_nil))) pa_nil))) (pg_tup rfl (pgs_cons (pg_tup rfl (pgs_cons (pg_name (i := 6) nd rfl (Or.inl rfl)) (pgs_cons (pg_name (i := 7) nd rfl (Or.inl rfl)) pgs_nil))) (pgs_cons (pg_name (i := 8) nd rfl (Or.inl rfl)) pgs_nil))))
        (pss_cons (ps_set (i := 9) nd rfl (Or.inl rfl) (pe_ifExp (PW.pt (pw_and (pt_cmpR op_eq (pv 8) pe_str (nomark _)) (pw_and1 (pt_cmpR op_eq (pe_own D_law_take hr (pa_cons (pv 0) (pa_cons pe_int pa_nil))) pe_int (nomark _))))) (pe_ix ix_seq (pe_own D_law_one_of hr (pa_cons (pv 0) (pa_cons (pv 7) pa_nil))) pe_int (fun _ _ => rfl)) pe_non))
        (pss_cons (ps_par3 (i := 10) (j := 11) (l := 12) (by rfl) nd rfl rfl rfl (by decide) (by decide) (by decide) rfl rfl rfl (pa_cons (pe_tup (pa_cons (pe_ix ix_list (pv 3) (pv 5) (fun _ _ => rfl)) (pa_cons (pe_own D_law_one_of hr (pa_cons (pv 0) (pa_cons (pe_lst (pa_cons pe_str (pa_cons pe_str (pa_cons pe_str (pa_cons pe_str pa_nil))))) pa_nil))) (pa_cons (pv 6) (pa_cons (pv 8) (pa_cons (pv 9) pa_nil)))))) (pa_cons pe_non (pa_cons (pe_lst pa_nil) pa_nil))) (by rfl))
        (pss_cons (ps_if (PW.pt (pw_or (pt_cmpR op_eq (pe_ix ix_tup (pv 10) pe_int (fun _ _ => rfl)) pe_str (nomark _)) (pw_or1 (pt_cmpR op_eq (pe_own D_law_take hr (pa_cons (pv 0) (pa_cons pe_int pa_nil))) pe_int (nomark _)))))
          (pss_cons (ps_set (i := 13) nd rfl (Or.inl rfl) (pe_own D_law_one_of hr (pa_cons (pv 0) (pa_cons (pe_lst (pa_cons pe_str (pa_cons pe_str (pa_cons pe_str pa_nil)))) pa_nil))))
          (pss_one (ps_set (i := 11) nd rfl (Or.inl rfl) (pe_tup (pa_cons (pe_own D_law_place hr (pa_cons (pv 0) (pa_cons (pv 10) (pa_cons (pv 7) pa_nil)))) (pa_cons (pv 13) (pa_cons (pe_own D_law_place hr (pa_cons (pv 0) (pa_cons (pv 10) (pa_cons (pv 7) pa_nil)))) pa_nil)))))))
          pss_nil)
        (pss_cons (ps_for PassesOwn.never rfl (pi_range1 (by rfl) nb.b_range (pa_cons (pe_op op_mul (pe_op op_add pe_int (pe_own D_law_take hr (pa_cons (pv 0) (pa_cons pe_int pa_nil)))) (pe_callTy call_int1 (by rfl) nb.b_int (by decide +kernel) (pa_cons (pe_cmpR op_ne (pe_ix ix_tup (pv 10) pe_int (fun _ _ => rfl)) pe_str (nomark _)) pa_nil))) pa_nil)) (pg_name (i := 14) nd rfl (Or.inl rfl))
          (pss_one (ps_expr (pe_bm PySem.F.plainAttrs_list PySem.F.slot_list_append PySem.F.type_list_append mt_append (pv 12) (pa_cons (pe_own D_law_act hr (pa_cons (pv 0) (pa_cons (pv 1) (pa_cons (pv 10) (pa_cons (pv 7) pa_nil))))) pa_nil)))))
        (pss_one (ps_expr (pe_bm PySem.F.plainAttrs_list PySem.F.slot_list_append PySem.F.type_list_append mt_append (pv 4) (pa_cons (pe_op (r := rCatT K) op_catT (pv 10) (pe_tup (pa_cons (pv 11) (pa_cons (pe_callTy call_tuple_of (by rfl) nb.b_tuple (by decide +kernel) (pa_cons (pv 12) pa_nil)) pa_nil)))) pa_nil))))))))))
      (pss_one (ps_ret (pe_callTy call_tuple_of (by rfl) nb.b_tuple (by decide +kernel) (pa_cons (pv 4) pa_nil)))))), ?_⟩
  -- names, found
  refine ⟨.ref b, rfl, b, T, 8, rfl, S, by omega, by decide, fun pn zs H1 lzs ndzs okzs _ fzs eZs S1 K1 => ⟨Nat.zero_le _, fun Fd nFd => ⟨_, _, rfl, ?_⟩⟩⟩
  have oPn := S.out fzs
  have oFd := S1.out nFd
  have fFd : H Fd = none := K1.fresh nFd fun p hp => by rw [List.mem_singleton.mp hp]; exact S1.ne nFd
  have sF := same_upd (o := .lst []) nFd
  have eZ1 := sF _ _ eZs
  have eF1 : (upd H1 Fd (.lst [])) Fd = some (.lst []) := upd_same
  have S2 := S1.same sF
  have K02 : Kept [Fd, b] H (upd H1 Fd (.lst [])) := (K1.mono fun p h => List.mem_cons_of_mem _ h).trans (Kept.of_same sF)
  have nFp : Fd ≠ pn := fun z => by rw [z] at nFd; rw [eZs] at nFd; cases nFd
  show tSeq _ _ _ [some (.ref b), some (.ref tp), some (.int m), some (.ref pn), some (.ref Fd), none, none, none, none, none, none, none, none, none, none] (upd H1 Fd (.lst []))
  generalize upd H1 Fd (.lst []) = H2 at eZ1 eF1 S2 K02 ⊢
  refine ⟨.ref b, rfl, .int m, rfl, _, _, rfl, rfl, b, _, _, rfl, S2, by omega, by omega, by omega, fun n H3 n0 n1 S3 K3 => ⟨n, rfl, by omega, by omega, ?_⟩⟩
  have k2 : Kept [Fd, b] H H3 := K02.trans (K3.mono fun p h => List.mem_cons_of_mem _ h)
  refine for_range (lo := 0) (n := n.toNat) (fun i σ H' => (∃ y5 y6 y7 y8 y9 y10 y11 y12 y13 y14, σ = [some (.ref b), some (.ref tp), some (.int m), some (.ref pn), some (.ref Fd), y5, y6, y7, y8, y9, y10, y11, y12, y13, y14]) ∧ (∃ us rs, Grow K [b] H' Fd us (rs.map ruleD) ∧ rs.map (·.nm) = zs.take i ∧ ∀ r ∈ rs, RuleOk ts r) ∧
      BoxAt H' b (T + 21 + i * 200) ∧ H' pn = some (.lst (zs.map V.str)) ∧ Kept [Fd, b] H H') ⟨⟨_, _, _, _, _, _, _, _, _, _, rfl⟩, ⟨[], [], ⟨K3.at eF1 oFd, .nil⟩, rfl, fun _ h => absurd h List.not_mem_nil⟩, S3.mono (by omega), K3.at eZ1 oPn, k2⟩ (fun i σ H5 hi hP => ?_) (fun σ H5 hP => ?_)
  · obtain ⟨⟨y5, y6, y7, y8, y9, y10, y11, y12, y13, y14, rfl⟩, ⟨us, rs, gr, hnm, hrs⟩, S5, eZ5, K05⟩ := hP
    have hi8 : i < 8 := by omega
    have k5 : Kept [b] H H5 := K05.new fFd
    have T5 := hTb.kept k5
    refine gN0 ?_
    dsimp only [List.set]
    -- (table, columns), kind
    refine ⟨.ref b, rfl, .ref tp, rfl, b, tp, _, xs, rfl, S5, by omega, .inr T5.sq, by rw [hTb.len]; exact hTb.l0, by rw [hTb.len]; have := hTb.l6; omega, fun j v H6 hj S6 K6 => ?_⟩
    obtain ⟨tb, qq, po, yo, htb, rfl, h1, h2, h3⟩ := tab_at (T5.kept K6).dp hj
    have htm := List.mem_of_getElem? htb
    obtain ⟨o0, o5⟩ := hTb.ok tb htm
    refine ⟨.ref b, rfl, (by show 3 ≤ sizeLine; decide), fun L nL => ?_⟩
    refine ⟨b, L, _, _, rfl, S6.same (same_upd nL), by omega, .inl (new_at S6 nL), (by show 0 < 3; decide), (by show 3 < 2 ^ 62; decide), fun j2 v2 H7 hj2 S7 K7 => ?_⟩
    have K67 : Kept [b] H6 H7 := (Kept.upd_new nL).trans K7
    obtain ⟨kd, rfl, hkd⟩ : ∃ kd : Str, v2 = .str kd ∧ kd ∈ kinds3 := by
      match j2, hj2 with
      | 0, h => exact ⟨"put", (Option.some.inj h).symm, by unfold kinds3; simp⟩
      | 1, h => exact ⟨"drop", (Option.some.inj h).symm, by unfold kinds3; simp⟩
      | 2, h => exact ⟨"set", (Option.some.inj h).symm, by unfold kinds3; simp⟩
      | n + 3, h => cases h
    refine ⟨(by show 2 ≤ sizeLine; decide), fun p0 n0 => ?_⟩
    have s0 := same_upd (o := .tup [.ref qq, .str kd]) n0
    have h17 := sameT (msk_same K67) h1
    refine ⟨p0, _, rfl, .inl (.inl upd_same), rfl, .ref qq, _, rfl, qq, _, rfl, sameT s0 (sameT (msk_sub _ _) h17), rfl, .str tb.1, _, rfl, .ref po, _, rfl, rfl, .str kd, _, rfl, rfl, ?_⟩
    have k58 : Kept [b] H5 (upd H7 p0 (.tup [.ref qq, .str kd])) := K6.trans (K67.trans (Kept.of_same s0))
    have C8 : ColX K b (upd H7 p0 (.tup [.ref qq, .str kd])) po yo tb.2 := ColX.kept ⟨sameT (msk_same K67) h2, dpAll_same (msk_same K67) h3, o0, o5⟩ (Kept.of_same s0)
    have S8 := S7.same s0
    dsimp only [List.set]
    show tSeq (tAsg _ _) (tSeq _ _) _ [some (.ref b), some (.ref tp), some (.int m), some (.ref pn), some (.ref Fd), some (.int (0 + (i : Int))), some (.str tb.1), some (.ref po), some (.str kd), y9, y10, y11, y12, y13, y14] (upd H7 p0 (.tup [.ref qq, .str kd]))
    generalize upd H7 p0 (.tup [.ref qq, .str kd]) = H8 at k58 C8 S8 ⊢
    clear h1 h2 h3 h17 s0 K6 K67 K7 S6 S7
    -- column
    refine splitσ (fun σ H' => ∃ col : Option Str, σ = [some (.ref b), some (.ref tp), some (.int m), some (.ref pn), some (.ref Fd), some (.int (0 + (i : Int))), some (.str tb.1), some (.ref po), some (.str kd), some (colOV col), y10, y11, y12, y13, y14] ∧ (∀ c, col = some c → kd = "set" ∧ c ∈ tb.2.map (·.1)) ∧ BoxAt H' b (T + 21 + i * 200 + 4) ∧ Kept [b] H8 H') (fun σ H9 hP => ?_) (fun rest => ?_)
    rotate_left
    · have col0 : ∀ H' : Hp, BoxAt H' b (T + 21 + i * 200 + 4) → Kept [b] H8 H' → _ := fun H' S' K' => rest _ H' ⟨none, rfl, (fun c h => (nomatch h)), S', K'⟩
      refine ⟨.str kd, rfl, rfl, _, rfl, ite2 (fun e => ?_) (fun e => ?_)⟩
      · have e : kd = "set" := V.str.inj (of_decide_eq_true e)
        refine ⟨.ref b, rfl, b, _, _, rfl, S8, by omega, by decide, by decide, fun d H9 d0 d1 S9 K9 => ⟨rfl, _, rfl, ite2 (fun e2 => ?_) (fun e2 => ?_)⟩⟩
        · have C9 := C8.kept K9
          refine ⟨.ref b, rfl, .ref po, rfl, b, po, _, yo, rfl, S9, by omega, .inr C9.sq, by rw [dpAll_len C9.dp, List.length_map]; exact o0, by rw [dpAll_len C9.dp, List.length_map]; omega, fun j3 v3 H10 hj3 S10 K10 => ?_⟩
          obtain ⟨dd, y1, y2⟩ := dpAll_get j3 (C9.kept K10).dp hj3
          rw [List.getElem?_map] at y1
          obtain ⟨c, hc, rfl⟩ := Option.map_eq_some_iff.mp y1
          cases y2 with
          | tup a1 a2 =>
          cases a2 with
          | cons b1 b2 =>
          cases b1
          rename_i cp vs0
          refine .inr (.inl ⟨cp, _, 0, .str c.1, rfl, rfl, sameT (msk_sub _ _) a1, atI_nat (j := 0) rfl, ?_⟩)
          exact rest _ H10 ⟨some c.1, rfl, fun c' h => by cases h; exact ⟨e, List.mem_map.mpr ⟨c, List.mem_of_getElem? hc, rfl⟩⟩, S10.mono (by omega), K9.trans K10⟩
        · exact col0 H9 (S9.mono (by omega)) K9
      · exact col0 H8 (S8.mono (by omega)) (Kept.refl _ _)
    obtain ⟨col, rfl, hcol, S9, K9⟩ := hP
    have k59 := k58.trans K9
    have C9 := C8.kept K9
    -- head, test, acts
    obtain ⟨nm, hnm1⟩ : ∃ nm, zs[i]? = some nm := ⟨_, List.getElem?_eq_getElem (by omega)⟩
    have okn : NameOk nm := okzs nm (List.mem_of_getElem? hnm1)
    have eZ9 := k59.at eZ5 oPn
    refine ⟨.ref pn, rfl, .int (0 + (i : Int)), rfl, pn, _, _, .str nm, rfl, rfl, .inl (.inl eZ9), ?_, .ref b, rfl, (by show 4 ≤ sizeLine; decide), fun L2 nL2 => ?_⟩
    · rw [Int.zero_add]
      exact atI_nat (by rw [List.getElem?_map, hnm1]; rfl)
    refine ⟨b, L2, _, _, rfl, S9.same (same_upd nL2), by omega, .inl (new_at S9 nL2), (by show 0 < 4; decide), (by show 4 < 2 ^ 62; decide), fun j4 v4 H10 hj4 S10 K10 => ?_⟩
    have K910 : Kept [b] H9 H10 := (Kept.upd_new nL2).trans K10
    obtain ⟨sd, rfl, hsd⟩ : ∃ sd : Str, v4 = .str sd ∧ sd ∈ sides3 := by
      match j4, hj4 with
      | 0, h => exact ⟨"ahead", (Option.some.inj h).symm, by unfold sides3; simp⟩
      | 1, h => exact ⟨"row", (Option.some.inj h).symm, by unfold sides3; simp⟩
      | 2, h => exact ⟨"deed", (Option.some.inj h).symm, by unfold sides3; simp⟩
      | 3, h => exact ⟨"row", (Option.some.inj h).symm, by unfold sides3; simp⟩
      | n + 4, h => cases h
    refine ⟨.str tb.1, rfl, .str kd, rfl, colOV col, rfl, (by show 5 ≤ sizeLine; decide), fun hp nhp => ⟨Nat.zero_le _, fun A nA => ⟨_, _, _, rfl, ?_⟩⟩⟩
    have sh1 := same_upd (o := .tup [.str nm, .str sd, .str tb.1, .str kd, colOV col]) nhp
    have nhA : hp ≠ A := ne_of_none upd_same nA
    have sA := same_upd (o := .lst []) nA
    have ohp := S10.out nhp
    have S11 := (S10.same sh1).same sA
    have k511 : Kept [b] H5 (upd (upd H10 hp (.tup [.str nm, .str sd, .str tb.1, .str kd, colOV col])) A (.lst [])) := k59.trans (K910.trans (Kept.of_same (sh1.trans sA)))
    have ehp : (upd (upd H10 hp (.tup [.str nm, .str sd, .str tb.1, .str kd, colOV col])) A (.lst [])) hp = some (.tup [.str nm, .str sd, .str tb.1, .str kd, colOV col]) := by rw [upd_ne nhA, upd_same]
    have eA : (upd (upd H10 hp (.tup [.str nm, .str sd, .str tb.1, .str kd, colOV col])) A (.lst [])) A = some (.lst []) := upd_same
    have C11 := C9.kept (K910.trans (Kept.of_same (sh1.trans sA)))
    have nA5 : H5 A = none := (k59.trans (K910.trans (Kept.of_same sh1))).fresh nA fun p hp => by rw [List.mem_singleton.mp hp]; exact (S10.same sh1).ne nA
    have nA8 : H8 A = none := (K9.trans (K910.trans (Kept.of_same sh1))).fresh nA fun p hp => by rw [List.mem_singleton.mp hp]; exact (S10.same sh1).ne nA
    have k811 : Kept [b] H8 (upd (upd H10 hp (.tup [.str nm, .str sd, .str tb.1, .str kd, colOV col])) A (.lst [])) := K9.trans (K910.trans (Kept.of_same (sh1.trans sA)))
    have nFA : Fd ≠ A := ne_of_none gr.at' nA5
    have oA : A ∉ [Fd, b] := by simp [nFA.symm, ((S10.same sh1).ne nA).symm]
    dsimp only [List.set]
    show tSeq (tIfS _ _ _) (tSeq _ _) _ [some (.ref b), some (.ref tp), some (.int m), some (.ref pn), some (.ref Fd), some (.int (0 + (i : Int))), some (.str tb.1), some (.ref po), some (.str kd), some (colOV col), some (.ref hp), some .non, some (.ref A), y13, y14] (upd (upd H10 hp (.tup [.str nm, .str sd, .str tb.1, .str kd, colOV col])) A (.lst []))
    generalize upd (upd H10 hp (.tup [.str nm, .str sd, .str tb.1, .str kd, colOV col])) A (.lst []) = H11 at S11 k511 k811 ehp eA C11 ⊢
    have HX : HeadX K b H11 hp sd kd := ⟨⟨_, .inl (.inl (msk_at ehp ohp)), rfl, rfl⟩, hkd⟩
    have gF11 := gr.kept k511 oFd
    have m11 : MaskB [A, Fd, b] H11 b := ⟨by simp, fun p hp z => by
      simp only [List.mem_cons, List.not_mem_nil, or_false] at hp
      rcases hp with rfl | rfl | rfl
      · rw [eA] at z; cases z
      · rw [gF11.at'] at z; cases z
      · exact (S11.ne z) rfl⟩
    have T11 := T5.kept k511
    clear K9 K910 K10 S9 S10 sh1 sA C9
    refine splitσ (fun σ H' => ∃ (y13 : Option V) (test : Option (Pl × Str × Pl)) (vt : V), σ = [some (.ref b), some (.ref tp), some (.int m), some (.ref pn), some (.ref Fd), some (.int (0 + (i : Int))), some (.str tb.1), some (.ref po), some (.str kd), some (colOV col), some (.ref hp), some vt, some (.ref A), y13, y14] ∧ Dp K (msk [A, Fd, b] H') vt (testD test) ∧
      (∀ a s c, test = some (a, s, c) → s ∈ signs3 ∧ PlOk sd kd (tb.2.map (·.1)) a ∧ PlOk sd kd (tb.2.map (·.1)) c) ∧ (sd = "ahead" → test ≠ none) ∧ BoxAt H' b (T + 21 + i * 200 + 20) ∧ Kept [b] H11 H') (fun σ H12 hP => ?_) (fun rest => ?_)
    rotate_left
    · show tIfS (tOr _ _) _ _ _ _ _
      refine ifOr (fun H' => BoxAt H' b (T + 21 + i * 200 + 8) ∧ Kept [b] H11 H') (fun Ha hG => ?_) (fun yes => ?_)
      · obtain ⟨Sa, Ka⟩ := hG
        refine ⟨.ref b, rfl, (by show 3 ≤ sizeLine; decide), fun L3 nL3 => ?_⟩
        refine ⟨b, L3, _, _, rfl, Sa.same (same_upd nL3), by omega, .inl (new_at Sa nL3), (by show 0 < 3; decide), (by show 3 < 2 ^ 62; decide), fun j5 v5 Hb hj5 Sb Kb => ?_⟩
        obtain ⟨sg, rfl, hsg⟩ : ∃ sg : Str, v5 = .str sg ∧ sg ∈ signs3 := by
          match j5, hj5 with
          | 0, h => exact ⟨"less", (Option.some.inj h).symm, by unfold signs3; simp⟩
          | 1, h => exact ⟨"like", (Option.some.inj h).symm, by unfold signs3; simp⟩
          | 2, h => exact ⟨"unlike", (Option.some.inj h).symm, by unfold signs3; simp⟩
          | n + 3, h => cases h
        have Kb' : Kept [b] H11 Hb := Ka.trans ((Kept.upd_new nL3).trans Kb)
        have mb := m11.kept Kb' Sb
        refine ⟨.ref b, rfl, .ref hp, rfl, .ref po, rfl, b, hp, po, _, sd, kd, yo, tb.2, [A, Fd, b], rfl, Sb, by omega, mb, HX.kept Kb', C11.kept Kb', fun pa va Hc hpa hva Sc Kc => ?_⟩
        have Kc' := Kb'.trans Kc
        have mc := m11.kept Kc' Sc
        refine ⟨.str sg, rfl, .ref b, rfl, .ref hp, rfl, .ref po, rfl, b, hp, po, _, sd, kd, yo, tb.2, [A, Fd, b], rfl, Sc, by omega, mc, HX.kept Kc', C11.kept Kc', fun pb vb Hd hpb hvb Sd Kd => ⟨(by show 3 ≤ sizeLine; decide), fun t nt => ?_⟩⟩
        have st := same_upd (o := .tup [va, .str sg, vb]) nt
        have md := mc.kept Kd Sd
        have hva' := dp_same (msk_same (mc.mono (Kd.trans (Kept.of_same st)))) hva
        refine rest _ _ ⟨_, some (pa, sg, pb), .ref t, rfl, .tup (.inl (.inl (msk_at upd_same (md.out nt)))) (.cons hva' (.cons (.str _) (.cons (dp_same (msk_same (Kept.of_same st)) hvb) .nil))), (fun a s c h => ?_), (fun _ h => (nomatch h)), (Sd.same st).mono (by omega), Kc'.trans (Kd.trans (Kept.of_same st))⟩
        cases h
        exact ⟨hsg, hpa, hpb⟩
      · refine ⟨.ref hp, rfl, hp, _, 1, .str sd, rfl, rfl, .inl (.inl ehp), atI_nat (j := 1) rfl, rfl, _, rfl, ite2 (fun e => ?_) (fun e => ?_)⟩
        · exact yes H11 ⟨S11.mono (by omega), Kept.refl _ _⟩
        · have e : sd ≠ "ahead" := fun z => e (decide_eq_true (by rw [z]))
          refine ⟨.ref b, rfl, b, _, _, rfl, S11, by omega, by decide, by decide, fun d Ha d0 d1 Sa Ka => ⟨rfl, _, rfl, ite2 (fun e2 => ?_) (fun e2 => ?_)⟩⟩
          · exact yes Ha ⟨Sa.mono (by omega), Ka⟩
          · exact rest _ Ha ⟨_, none, .non, rfl, .non, (fun a s c h => (nomatch h)), (fun h => absurd h e), Sa.mono (by omega), Ka⟩
    obtain ⟨y13, test, vt, rfl, dt, htest, hah, S12, K12⟩ := hP
    have K12' := k511.trans K12
    have C12 := C11.kept K12
    have T12 := T11.kept K12
    have H12' := HX.kept K12
    have m12 := m11.kept K12 S12
    have eA12 := K12.at eA (by simp at oA ⊢; exact oA.2)
    have ehp12 := K12.at ehp ohp
    have gF12 := gF11.kept K12 oFd
    -- acts
    refine ⟨.ref b, rfl, b, _, _, rfl, S12, by omega, by decide, by decide, fun d H13 d0 d1 S13 K13 => ⟨_, _, rfl, rfl, ?_⟩⟩
    have ehp13 := K13.at ehp12 ohp
    refine ⟨.ref hp, rfl, hp, _, 1, .str sd, rfl, rfl, .inl (.inl ehp13), atI_nat (j := 1) rfl, rfl, .inr ⟨_, rfl, _, _, rfl, rfl, ?_⟩⟩
    obtain ⟨N, hN, hNa, hNo⟩ : ∃ N : Nat, (1 + d) * (if (!decide (V.str sd = V.str (Str.ofString "ahead"))) = true then 1 else 0) = (N : Int) ∧ (sd = "ahead" → N = 0) ∧ (sd ≠ "ahead" → 0 < N ∧ N ≤ 3) := by
      by_cases z : sd = "ahead"
      · refine ⟨0, ?_, fun _ => rfl, fun h => absurd z h⟩
        rw [decide_eq_true (show V.str sd = V.str (Str.ofString "ahead") by rw [z])]
        simp
      · refine ⟨(1 + d).toNat, ?_, fun h => absurd h z, fun _ => ⟨by omega, by omega⟩⟩
        rw [decide_eq_false (fun h => z (V.str.inj h))]
        simp; omega
    have hN3 : N ≤ 3 := by
      by_cases z : sd = "ahead"
      · rw [hNa z]; decide
      · exact (hNo z).2
    refine ⟨.inr ⟨(b01 _).2.1, (b01 _).2.2⟩, ?_⟩
    refine ⟨(N : Int), congrArg (fun z => [V.int z]) hN, by omega, by omega, ?_⟩
    have eA13 := K13.at eA12 (by simp at oA ⊢; exact oA.2)
    have gF13 := gF12.kept K13 oFd
    have k813 := (k811.trans K12).trans K13
    have k513 := K12'.trans K13
    have dt13 := dp_same (msk_same (m12.mono K13)) dt
    have nbA : b ≠ A := by simp at oA; exact fun z => oA.2 z.symm
    have nhA : hp ≠ A := fun z => by rw [z, eA13] at ehp13; cases ehp13
    have nFh : Fd ≠ hp := fun z => by rw [← z, gF13.at'] at ehp13; cases ehp13
    refine for_range (lo := 0) (n := (N : Int).toNat) (fun k σ H' => (∃ y14, σ = [some (.ref b), some (.ref tp), some (.int m), some (.ref pn), some (.ref Fd), some (.int (0 + (i : Int))), some (.str tb.1), some (.ref po), some (.str kd), some (colOV col), some (.ref hp), some vt, some (.ref A), y13, y14]) ∧ (∃ ua acts, Grow K [Fd, b] H' A ua (acts.map actD) ∧ acts.length = k ∧ ∀ act ∈ acts, ActOk ts sd kd (tb.2.map (·.1)) act) ∧
        BoxAt H' b (T + 21 + i * 200 + 21 + k * 30) ∧ Kept [A, b] H13 H') ⟨⟨_, rfl⟩, ⟨[], [], ⟨eA13, .nil⟩, rfl, fun _ h => absurd h List.not_mem_nil⟩, S13.mono (by omega), Kept.refl _ _⟩ (fun k σ Ha hk hP => ?_) (fun σ Ha hP => ?_)
    · obtain ⟨⟨y14, rfl⟩, ⟨ua, acts, ga, lacts, okacts⟩, Sa, Ka⟩ := hP
      have k8a : Kept [b] H8 Ha := ((k813.mono fun p h => List.mem_cons_of_mem A h).trans Ka).new nA8
      have k5a : Kept [b] H5 Ha := ((k513.mono fun p h => List.mem_cons_of_mem A h).trans Ka).new nA5
      have ehpa := Ka.at ehp13 (by simp at ohp ⊢; exact ⟨nhA, ohp⟩)
      have HXa : HeadX K b Ha hp sd kd := ⟨⟨_, .inl (.inl (msk_at ehpa ohp)), rfl, rfl⟩, hkd⟩
      have gFa := gr.kept k5a oFd
      have ma : MaskB [A, Fd, b] Ha b := ⟨by simp, fun p hp z => by
        simp only [List.mem_cons, List.not_mem_nil, or_false] at hp
        rcases hp with rfl | rfl | rfl
        · rw [ga.at'] at z; cases z
        · rw [gFa.at'] at z; cases z
        · exact (Sa.ne z) rfl⟩
      refine gN0 ⟨.ref A, rfl, .inl ⟨rfl, _, .inl (.inl ga.at')⟩, .ref b, rfl, .ref tp, rfl, .ref hp, rfl, .ref po, rfl, b, tp, hp, po, _, sd, kd, xs, ts, yo, tb.2, [A, Fd, b], rfl, Sa, by omega, ma, T5.kept k5a, HXa, C8.kept k8a, fun act v Hb hact hv Sb Kb => ?_⟩
      have gb := ga.kept (Kb.mono fun p h => by rw [List.mem_singleton.mp h]; simp) oA
      refine ⟨A, ua, v, rfl, rfl, gb.at', small1000 (by rw [ga.len, List.length_map, lacts]; omega), ⟨_, rfl⟩, ⟨ua ++ [v], acts ++ [act], by rw [List.map_append]; exact gb.put hv, by rw [List.length_append, lacts]; rfl, fun a ha => ?_⟩, ?_, ?_⟩
      · rcases List.mem_append.mp ha with h | h
        · exact okacts a h
        · rw [List.mem_singleton.mp h]; exact hact
      · exact (Sb.kept (Kept.upd_in (M := [A]) (List.mem_cons_self ..)) (by simp [nbA])).mono (by omega)
      · exact Ka.trans ((Kb.mono fun p h => List.mem_cons_of_mem _ h).trans (Kept.upd_in (List.mem_cons_self ..)))
    obtain ⟨⟨y14, rfl⟩, ⟨ua, acts, ga, lacts, okacts⟩, Sa, Ka⟩ := hP
    have k5a : Kept [b] H5 Ha := ((k513.mono fun p h => List.mem_cons_of_mem A h).trans Ka).new nA5
    have ehpa := Ka.at ehp13 (by simp at ohp ⊢; exact ⟨nhA, ohp⟩)
    have gFa := gr.kept k5a oFd
    have eNn : (N : Int).toNat = N := rfl
    rw [eNn] at lacts Sa
    have da : DpAll K (msk [Fd, b] Ha) ua (acts.map actD) := dpAll_same (msk_less sub_push) ga.dp
    have dta : Dp K (msk [Fd, b] Ha) vt (testD test) := dp_same ((msk_same (Ka.mono fun p h => by
      simp only [List.mem_cons, List.not_mem_nil, or_false] at h ⊢
      rcases h with h | h
      · exact .inl h
      · exact .inr (.inr h))).trans (msk_less sub_push)) dt13
    have dcol : Dp K (msk [Fd, b] Ha) (colOV col) (colO col) := by
      cases col with
      | none => exact .non
      | some c => exact .str c
    refine ⟨.ref Fd, rfl, .inl ⟨rfl, _, .inl (.inl gFa.at')⟩, .ref hp, rfl, vt, rfl, .ref A, rfl, A, ua, rfl, .inl ⟨.inl (.inl ga.at'), fun l nl => ⟨(by show 2 ≤ sizeLine; decide), fun t nt => ?_⟩⟩⟩
    have sl := same_upd (o := .tup ua) nl
    have st := same_upd (o := .tup [vt, .ref l]) nt
    refine ⟨hp, t, [.str nm, .str sd, .str tb.1, .str kd, colOV col], [vt, .ref l], rfl, rfl, .inl (.inl ((sl.trans st) _ _ ehpa)), .inl (.inl upd_same), (fun z => by cases z), (by show 7 ≤ sizeLine; decide), (fun z => by cases z), fun _ p np => ?_⟩
    have sp := same_upd (o := .tup ([.str nm, .str sd, .str tb.1, .str kd, colOV col] ++ [vt, .ref l])) np
    have s3 := sl.trans (st.trans sp)
    have gFf := gFa.kept (Kept.of_same (M := [b]) s3) oFd
    have nFl : Fd ≠ l := ne_of_none gFa.at' nl
    have nFp2 : Fd ≠ p := ne_of_none ((sl.trans st) _ _ gFa.at') np
    have nbl := Sa.ne nl
    have nbp := (Sa.same (sl.trans st)).ne np
    have elf := (st.trans sp) _ _ (upd_same (H := Ha) (a := l) (o := .tup ua))
    have sm := msk_same (Kept.of_same (M := [Fd, b]) s3)
    have hdp : Dp K (msk (Fd :: [b]) (upd (upd (upd Ha l (.tup ua)) t (.tup [vt, .ref l])) p (.tup ([.str nm, .str sd, .str tb.1, .str kd, colOV col] ++ [vt, .ref l])))) (.ref p) (ruleD ⟨nm, sd, tb.1, kd, col, test, acts⟩) :=
      .tup (.inl (.inl (msk_at upd_same (by simp [nFp2.symm, nbp.symm])))) (.cons (.str _) (.cons (.str _) (.cons (.str _) (.cons (.str _) (.cons (dp_same sm dcol) (.cons (dp_same sm dta) (.cons (.tup (.inl (.inl (msk_at elf (by simp [nFl.symm, nbl.symm])))) (dpAll_same sm da)) .nil)))))))
    have put := gFf.put hdp
    have lrs : rs.length = i := by
      have := congrArg List.length hnm
      rw [List.length_map, List.length_take, lzs] at this
      omega
    have okr : RuleOk ts ⟨nm, sd, tb.1, kd, col, test, acts⟩ := ⟨okn, hsd, hkd, ⟨tb, htm, rfl, hcol, htest, okacts⟩, fun h => ⟨hah h, List.length_eq_zero_iff.mp (by show acts.length = 0; rw [lacts]; exact hNa h)⟩, fun h => by show 0 < acts.length ∧ acts.length ≤ 3; rw [lacts]; exact hNo h⟩
    refine ⟨Fd, us, .ref p, rfl, rfl, gFf.at', small1000 (by rw [gr.len, List.length_map, lrs]; omega), ⟨_, _, _, _, _, _, _, _, _, _, rfl⟩, ⟨_, rs ++ [⟨nm, sd, tb.1, kd, col, test, acts⟩], by rw [List.map_append]; exact put, ?_, ?_⟩, ?_, ?_, ?_⟩
    · rw [List.map_append, hnm, List.take_add_one, hnm1]; rfl
    · intro y hy
      rcases List.mem_append.mp hy with h | h
      · exact hrs y h
      · rw [List.mem_singleton.mp h]; exact okr
    · exact ((Sa.same s3).kept (Kept.upd_in (M := [Fd]) (List.mem_cons_self ..)) (by simp [S.ne fFd])).mono (by omega)
    · rw [upd_ne nFp.symm]
      exact s3 _ _ (k5a.at eZ5 oPn)
    · exact K05.trans (((k5a.mono fun p h => List.mem_cons_of_mem _ h).trans (Kept.of_same s3)).trans (Kept.upd_in (List.mem_cons_self ..)))
  · obtain ⟨⟨y5, y6, y7, y8, y9, y10, y11, y12, y13, y14, rfl⟩, ⟨us, rs, gr, hnm, hrs⟩, S5, eZ5, K05⟩ := hP
    refine ⟨.ref Fd, rfl, Fd, us, rfl, .inl ⟨.inl (.inl gr.at'), fun l nl => ?_⟩⟩
    have lrs : rs.length ≤ m := by
      have := congrArg List.length hnm
      rw [List.length_map, List.length_take, lzs] at this
      omega
    have nFl : Fd ≠ l := ne_of_none gr.at' nl
    have sl := same_upd (o := .tup us) nl
    have fl : H l = none := by
      refine K05.fresh nl fun p hp => ?_
      simp only [List.mem_cons, List.not_mem_nil, or_false] at hp
      rcases hp with rfl | rfl
      · exact nFl
      · exact S5.ne nl
    refine q l rs _ lrs (by rw [hnm]; exact ndzs.sublist (List.take_sublist _ _)) hrs fl (.tup (.inl (.inl (msk_at upd_same (S5.out nl)))) ?_) ((S5.same sl).mono (by omega)) ?_
    · exact dpAll_same ((msk_less sub_push).trans (msk_same (Kept.of_same sl))) gr.dp
    · exact (K05.new fFd).trans (Kept.upd_new nl)
end
end TT

set_option Elab.async false
set_option linter.all false
set_option maxRecDepth 100000
namespace TT
open PySem PySem.Spec PyProof.Rows L2
/-! ### zip of two, each a list (false) or a tuple (true) -/
def SIt (b : Bool) (h : Heap) (it a : Addr) (i : Nat) : Prop := match b with | true => h.IsTupleIter it a i | false => h.IsListIter it a i
def SAt (b : Bool) (h : Heap) (a : Addr) (its : Array Value) : Prop := match b with | true => h.IsTuple a its | false => h.IsList a its
def SqB (b : Bool) (K : PySem.W.Frag) (H : Hp) (a : Addr) (xs : List V) : Prop := match b with | true => SqT K H a xs | false => SqL K H a xs
def sIt (b : Bool) (a : Addr) : Obj := match b with | true => { cls := .type "tuple_iterator", data := .fields #[.ref a, .int 0 0] } | false => { cls := .type "list_iterator", data := .fields #[.ref a, .int 0 0] }
theorem SIt.start {b : Bool} {h : Heap} {it a : Addr} (e : h.get? it = some (sIt b a)) : SIt b h it a 0 := by cases b <;> exact ⟨_, e, rfl, rfl⟩
theorem SIt.live {b : Bool} {h : Heap} {it a : Addr} {i : Nat} (x : SIt b h it a i) : ∃ o, h.get? it = some o ∧ ∀ v, o.data ≠ .cell v := by
  cases b
  · obtain ⟨o, e, _, d⟩ := x; exact ⟨o, e, fun v q => by rw [d] at q; cases q⟩
  · obtain ⟨o, e, _, d⟩ := x; exact ⟨o, e, fun v q => by rw [d] at q; cases q⟩
theorem SIt.at' {b : Bool} {h h' : Heap} {it a : Addr} {i : Nat} (x : SIt b h it a i) (k : ∀ o, h.get? it = some o → h'.get? it = some o) : SIt b h' it a i := by
  cases b
  · exact Heap.IsListIter.at x k
  · exact Heap.IsTupleIter.at x k
theorem sit_begins (b : Bool) (a : Addr) (its : Array Value) : Begins (.ref a) (sIt b a) (fun h => SAt b h a its) := by
  cases b
  · exact begins_list a its
  · exact begins_tuple a its
theorem sit_draws {prog : Program} {w : World} {A : Around} (hh : A.handled = none) (b : Bool) (it a : Addr) (hne : a ≠ it) (its : Array Value) :
    Draws prog w A it [it, a] its.size (fun i v => its[i]? = some v) (fun i h => SIt b h it a i ∧ SAt b h a its) := by
  cases b
  · exact Draws.list hh it a hne its
  · exact Draws.tuple hh it a hne its
theorem inv_sqB {X : Cx} {pins : List (Addr × Obj)} {s : Shared} {σ : L2.St} {H : Hp} {b : Bool} {a : Addr} {xs : List V} (I : Inv X pins σ H s) (h : SqB b X.K H a xs) : ∃ its : List Value, Vals xs its ∧ SAt b s.heap a its.toArray ∧ a < s.heap.objs.size := by
  cases b
  · obtain ⟨its, rv, p, _⟩ := I.list h
    exact ⟨its, rv, p.isList, p.lt⟩
  · obtain ⟨its, rv, p, _⟩ := I.tuple h
    obtain ⟨o1, ho1, _⟩ := id p
    exact ⟨its, rv, p, Heap.lt_size ho1⟩
theorem sqB_inj {X : Cx} {pins : List (Addr × Obj)} {s : Shared} {σ : L2.St} {H : Hp} {b : Bool} {a : Addr} {xs ys : List V} (I : Inv X pins σ H s) (h : SqB b X.K H a xs) (h' : SqB b X.K H a ys) : xs = ys := by
  cases b
  · exact I.list_inj h h'
  · exact I.tuple_inj h h'
def ItzB (K : PySem.W.Frag) (b1 b2 : Bool) (a b : Addr) : It :=
  ⟨fun i H => ∃ (xs ys : List V) (x y : V), SqB b1 K H a xs ∧ SqB b2 K H b ys ∧ xs[i]? = some x ∧ ys[i]? = some y,
    fun i H v H' => ∃ T x y, v = .ref T ∧ H T = none ∧ H' = upd H T (.tup [x, y]) ∧ (∀ xs, SqB b1 K H a xs → xs[i]? = some x) ∧ ∀ ys, SqB b2 K H b ys → ys[i]? = some y,
    fun i H => ∃ xs ys : List V, SqB b1 K H a xs ∧ SqB b2 K H b ys ∧ i = min xs.length ys.length⟩
theorem turn_zipB {P : Program} {w : World} {K : PySem.W.Frag} {elts : List Expr} {kk : Nat} {tpos : Pos} {b1 b2 : Bool} {a b z TI TO i1 i2 : Addr} (S : ZipSep2 z TI TO i1 i2 [i1, a] [i2, b]) (na : a ≠ i1) (nb : b ≠ i2) :
    Turn P w K (.Tuple elts kk tpos) (ItzB K b1 b2 a b) [z, TI, TO, i1, i2] z (fun i h => IsZip h z TI TO .none ∧ IsPair h TI (.ref i1) (.ref i2) ∧ (∃ x y, IsPair h TO x y) ∧ SIt b1 h i1 a i ∧ SIt b2 h i2 b i) where
  mem := by simp
  obj := fun i h st c hc => by
    obtain ⟨hz, hTI, ⟨x, y, hTO⟩, h1, h2⟩ := st
    have e' : c = z ∨ c = TI ∨ c = TO ∨ c = i1 ∨ c = i2 := by simpa using hc
    rcases e' with q | q | q | q | q
    · rw [q]; exact ⟨_, hz, fun v q => nomatch q⟩
    · rw [q]; exact ⟨_, hTI, fun v q => nomatch q⟩
    · rw [q]; exact ⟨_, hTO, fun v q => nomatch q⟩
    · rw [q]; exact h1.live
    · rw [q]; exact h2.live
  keep := fun i h h' st k => by
    obtain ⟨hz, hTI, ⟨x, y, hTO⟩, h1, h2⟩ := st
    exact ⟨k z (by simp) _ hz, k TI (by simp) _ hTI, ⟨x, y, k TO (by simp) _ hTO⟩, h1.at' fun o q => k i1 (by simp) o q, h2.at' fun o q => k i2 (by simp) o q⟩
  item := by
    intro X hP hw hK hc i pins s σ H E I hf st hg
    subst hP hw hK
    obtain ⟨hz, hTI, ⟨x0, y0, hTO⟩, h1, h2⟩ := st
    obtain ⟨xs, ys, x, y, hqx, hqy, hx, hy⟩ := hg
    obtain ⟨its, rv, p, _⟩ := inv_sqB I hqx
    obtain ⟨its2, rv2, p2, _⟩ := inv_sqB I hqy
    obtain ⟨u, hu, ru⟩ := rv.get hx
    obtain ⟨u2, hu2, ru2⟩ := rv2.get hy
    have hzl : z < s.heap.objs.size := Heap.lt_size hz
    have l1 : i < its.toArray.size := by
      have := (List.getElem?_eq_some_iff.mp hu).1
      simpa using this
    have l2 : i < its2.toArray.size := by
      have := (List.getElem?_eq_some_iff.mp hu2).1
      simpa using this
    refine wpAny_pyNext_zipD2_item S (sit_draws (A := X.A.in1) (I.ok.hd hc) b1 i1 a na its.toArray) (sit_draws (A := X.A.in1) (I.ok.hd hc) b2 i2 b nb its2.toArray) hz hTI hTO ⟨h1, p⟩ ⟨h2, p2⟩ l1 l2 fun x1 x2 h' tk hP1 hP2 z' TO' st1 st2 hT hsz hk => ?_
    have hxu : x1 = u := by
      have q : its.toArray[i]? = some u := by simpa using hu
      rw [q] at hP1
      exact (Option.some.inj hP1).symm
    have hxu2 : x2 = u2 := by
      have q : its2.toArray[i]? = some u2 := by simpa using hu2
      rw [q] at hP2
      exact (Option.some.inj hP2).symm
    subst hxu hxu2
    refine ⟨_, rfl, wpAny_letOwnedTupleGo_zip (s := { s with heap := h', toks := tk }) z' fun h'' z'' sb => ?_⟩
    have hT2 : h''.get? s.heap.objs.size = some { cls := .type "tuple", data := .seq #[x1, x2] } := (sb.2 _ (Nat.ne_of_gt hzl)).trans hT
    have new : ObjOk X.prog X.w (upd H s.heap.objs.size (.tup [x, y])) h'' s.heap.objs.size (.tup [x, y]) :=
      ⟨by show 2 ≤ sizeLine; decide, [x1, x2], .cons ru (.cons ru2 .nil), ⟨_, hT2, rfl, _, rfl⟩⟩
    have I1 : Inv X pins σ (upd H s.heap.objs.size (.tup [x, y])) { s with heap := h'', toks := tk } :=
      I.turnedNew (t' := tk) (ch := [z, TI, TO, i1, i2]) (fun c o hb q => (sb.2 c (fun q' => hb (by simp [q']))).trans (hk c o (fun q' => hb (by simp [q'])) (fun q' => hb (by simp [q'])) (fun q' => hb (by simp [q'])) (fun q' => hb (by simp [q'])) q)) hf (Nat.le_refl _) new
    refine ⟨.ref s.heap.objs.size, _, I1, rfl, ⟨_, x, y, rfl, I.hok.fresh (Nat.le_refl _), rfl, fun l hl => by rw [sqB_inj I hl hqx]; exact hx, fun l hl => by rw [sqB_inj I hl hqy]; exact hy⟩, ⟨z'', ?_, ⟨x1, x2, ?_⟩, ?_, ?_⟩, fun c hcm => ?_⟩
    · exact (sb.2 _ S.TIz).trans (hk _ _ S.TIz S.TITO S.TIi1 S.TIi2 hTI)
    · exact (sb.2 _ S.TOz).trans TO'
    · exact st1.1.at' fun o q => (sb.2 _ S.zi1.symm).trans q
    · exact st2.1.at' fun o q => (sb.2 _ S.zi2.symm).trans q
    · have hlt : c < s.heap.objs.size := by
        have e' : c = z ∨ c = TI ∨ c = TO ∨ c = i1 ∨ c = i2 := by simpa using hcm
        rcases e' with q | q | q | q | q
        · rw [q]; exact hzl
        · rw [q]; exact Heap.lt_size hTI
        · rw [q]; exact Heap.lt_size hTO
        · rw [q]; obtain ⟨_, e1, _⟩ := h1.live; exact Heap.lt_size e1
        · rw [q]; obtain ⟨_, e2, _⟩ := h2.live; exact Heap.lt_size e2
      rw [upd_ne (Nat.ne_of_lt hlt)]
      exact (hf c hcm).1
  done := by
    intro X hP hw hK hc i pins s σ H E I hf st hg
    subst hP hw hK
    obtain ⟨hz, hTI, ⟨x0, y0, hTO⟩, h1, h2⟩ := st
    obtain ⟨xs, ys, hqx, hqy, hend⟩ := hg
    obtain ⟨its, rv, p, _⟩ := inv_sqB I hqx
    obtain ⟨its2, rv2, p2, _⟩ := inv_sqB I hqy
    have l1 := rv.length
    have l2 := rv2.length
    refine wpAny_pyNext_zipD2_end S (sit_draws (A := X.A.in1) (I.ok.hd hc) b1 i1 a na its.toArray) (sit_draws (A := X.A.in1) (I.ok.hd hc) b2 i2 b nb its2.toArray) hz hTI hTO ⟨h1, p⟩ ⟨h2, p2⟩ (by simp; omega) (by simp; omega) (by simp; omega) fun h' tk hk => ⟨rfl, I.turnedL (t' := tk) (ch := [z, TI, TO, i1, i2]) (fun c o hb q =>
      hk c o (fun q' => hb (by simp [q'])) (fun q' => hb (by simp [q'])) (fun q' => hb (by simp [q'])) (fun q' => hb (by simp [q'])) q) hf⟩
  self := fun A i s Q E st h => wpAny_pyIter_zip st.1 h
def iZipB (K : PySem.W.Frag) (ta : TA) : TI := fun σ H R => ta σ H fun vs H1 => ∃ b1 b2 a b xs ys, vs = [.ref a, .ref b] ∧ SqB b1 K H1 a xs ∧ SqB b2 K H1 b ys ∧ R (ItzB K b1 b2 a b) H1
theorem pi_zipB {X : Cx} {e e2 : Expr} {ta : TA} {p pos tpos : Pos} {elts : List Expr} {kk : Nat} (hg : Gl X "zip") (hm : X.mg "zip" = none) (ha : PA X [e, e2] ta)
    (hs : starEach [e, e2] X.env = (false, eval e X.env) :: starEach [e2] X.env := by rfl) (hpl : (backTo pos (starEach [e2] X.env)).any (·.1) = false := by rfl) :
    PI X (.Tuple elts kk tpos) (.Call (.Name "zip" p) [e, e2] [] pos) (iZipB X.K ta) := by
  refine ⟨fun pins s σ H R I h => ?_⟩
  refine Call_ (ld_blt I hg hm PyProof.Rows.boot_zip (PyProof.Rows.callWith_type1 (thn (ha.run pos pins s σ H _ I h) fun us s1 ⟨vs, H1, I1, r1, q1⟩ => ?_) hs hpl))
  obtain ⟨b1, b2, a, b, xs, ys, ex, hqx, hqy, q⟩ := q1
  subst ex
  cases r1 with
  | cons r rr =>
    cases rr with
    | cons r' rr =>
      cases rr
      cases r
      cases r'
      have fresh5 : ∀ c, c ∈ [s1.heap.objs.size + 4, s1.heap.objs.size + 2, s1.heap.objs.size + 3, s1.heap.objs.size, s1.heap.objs.size + 1] → FpOk X pins H1 c := fun c hcm => by
        have e' : c = s1.heap.objs.size + 4 ∨ c = s1.heap.objs.size + 2 ∨ c = s1.heap.objs.size + 3 ∨ c = s1.heap.objs.size ∨ c = s1.heap.objs.size + 1 := by simpa using hcm
        have hle : s1.heap.objs.size ≤ c := by
          rcases e' with z | z | z | z | z
          · rw [z]; exact Nat.le_add_right _ _
          · rw [z]; exact Nat.le_add_right _ _
          · rw [z]; exact Nat.le_add_right _ _
          · rw [z]; exact Nat.le_refl _
          · rw [z]; exact Nat.le_add_right _ _
        exact I1.fpOk hle (I1.hok.fresh hle)
      obtain ⟨its, rv, p1, la⟩ := inv_sqB I1 hqx
      obtain ⟨its2, rv2, p2, lb⟩ := inv_sqB I1 hqy
      refine zip_begins2 (sit_begins b1 a its.toArray) (sit_begins b2 b its2.toArray) p1 p2 fun h' hz hTI hTO h1 h2 hsz hk => wpAny_pyIter_zip hz ?_
      have I2 : Inv X pins σ H1 { s1 with heap := h' } := I1.kept (t' := s1.toks) hk
      have S := zip_sep2 (N := s1.heap.objs.size) (fp1 := [a]) (fp2 := [b]) (fun c hc => by rw [List.mem_singleton.mp hc]; exact la) (fun c hc => by rw [List.mem_singleton.mp hc]; exact lb)
      exact ⟨s1.heap.objs.size + 4, [s1.heap.objs.size + 4, s1.heap.objs.size + 2, s1.heap.objs.size + 3, s1.heap.objs.size, s1.heap.objs.size + 1], _, _, H1, rfl, I2, turn_zipB S (Nat.ne_of_lt la) (Nat.ne_of_lt (Nat.lt_succ_of_lt lb)), ⟨hz, hTI, ⟨_, _, hTO⟩, .start h1, .start h2⟩, fresh5, q⟩
theorem walk_zipB {K : PySem.W.Frag} {b1 b2 : Bool} {a b : Addr} {xs ys : List V} {n : Nat} (hn : n = min xs.length ys.length) : Walk (ItzB K b1 b2 a b) n (fun H => SqB b1 K H a xs ∧ SqB b2 K H b ys) (YPair (fun i => xs[i]?) (fun i => ys[i]?)) := by
  refine ⟨fun i _ hi q => ⟨xs, ys, xs[i]'(by omega), ys[i]'(by omega), q.1, q.2, by simp [show i < xs.length by omega], by simp [show i < ys.length by omega]⟩, fun _ q => ⟨xs, ys, q.1, q.2, hn⟩, fun i H v H' _ q y => ?_⟩
  obtain ⟨T, x, y, h1, h2, h3, h4, h5⟩ := y
  exact ⟨T, x, y, h1, h2, h3, h4 xs q.1, h5 ys q.2⟩
end TT

set_option Elab.async false
set_option linter.all false
set_option maxRecDepth 100000
namespace TT
open PySem PySem.Spec PyProof.Rows L2
structure GC (mg : Str → Option Value) : Prop where
  MOST_LETTERS : ∃ u, mg "MOST_LETTERS" = some (.int 8 u)
  MOST_NUMBER : ∃ u, mg "MOST_NUMBER" = some (.int 1000000000 u)
  MOST_RULES : ∃ u, mg "MOST_RULES" = some (.int 8 u)
  RULE_PARTS : ∃ u, mg "RULE_PARTS" = some (.int 7 u)
  MOST_ACTS : ∃ u, mg "MOST_ACTS" = some (.int 3 u)
def boundB : PyData → Bool
  | .int i => decide (-1000000000 ≤ i) && decide (i ≤ 1000000000)
  | _ => false
theorem isL_of {K : PySem.W.Frag} {H : Hp} {v : V} {d : PyData} (hd : Dp K H v d) (h : isLB d = true) : ∃ p xs ds, v = .ref p ∧ d = .list ds ∧ SqL K H p xs ∧ DpAll K H xs ds := by
  cases hd with
  | non => cases h
  | bl b => cases h
  | int i => cases h
  | str z => cases h
  | lst hs a => exact ⟨_, _, _, rfl, rfl, hs, a⟩
  | tup hs a => cases h
theorem spB_len {R : PyData → Bool} {K : PySem.W.Frag} {vs : List V} {H : Hp} {Q : VK} {E : XK} (h : spB R K vs H Q E) : vs.length = 1 := by
  obtain ⟨v, d, rfl, _⟩ := h
  rfl
section
variable {P : Program} {w : World} {K : PySem.W.Frag} {mg : Str → Option Value} {base : Heap}
def spTup (K : PySem.W.Frag) : Sp := fun vs H Q _ => ∃ (v : V) (d : PyData) (lo hi : Int), vs = [v, .int lo, .int hi] ∧ Dp K H v d ∧ Fit d ∧ ∀ H', Same H H' → Q (.bl (tupB lo hi d)) H'
abbrev s_is_tuple : Stmt := topS 9
abbrev N_is_tuple : List Str := ["thing", "least", "most"]
theorem sc_is_tuple : FnScope N_is_tuple ["thing", "least", "most"] (defScope s_is_tuple) := ⟨rfl, rfl, rfl, by decide +kernel, rfl, by decide +kernel, by decide +kernel⟩

theorem ok_is_tuple {f : Addr} {fd : FuncData} (F : Fun K "is_tuple" "is_tuple" s_is_tuple f fd) (nb : NB mg) : FnOk P w K mg base CX0 1 f fd ["thing", "least", "most"] (spTup K) := by
  refine F.ok sc_is_tuple (fun vs H Q E h => ?_) (fun cdv A outer sh H vs Q E hr h => ?_)
  · obtain ⟨v, d, lo, hi, rfl, _⟩ := h
    rfl
  obtain ⟨v, d, lo, hi, rfl, hd, hf, q⟩ := h
  have nd := sc_is_tuple.nd
  refine ⟨_, (pss_one (ps_ret (pe_and (pe_callB call_isi (by rfl) nb.b_isinstance (by decide +kernel) (pa_cons (pv 0) (pa_cons (pe_bltn (v := .ty "tuple") (by rfl) nb.b_tuple (by decide +kernel) rfl) pa_nil))) (pe_one (pe_chain op_le op_le (pv 1) (pe_callB call_len_seq (by rfl) nb.b_len (by decide +kernel) (pa_cons (pv 0) pa_nil)) (pv 2)))))), ?_⟩
  refine ⟨v, rfl, v, .ty "tuple", _, _, _, rfl, .ty "tuple", dp_ty hd, kit_t d, _, rfl, ite2 (fun h1 => ?_) (fun h1 => ?_)⟩
  · cases hd with
    | non => cases h1
    | bl b => cases h1
    | int i => cases h1
    | str z => cases h1
    | lst _ _ => cases h1
    | tup h a =>
      rename_i p xs ds
      have l := dpAll_len a
      refine ⟨.int lo, rfl, .ref p, rfl, p, xs, rfl, .inr h, _, _, rfl, rfl, _, rfl, ite2 (fun h3 => ?_) (fun h3 => ?_)⟩
      · refine ⟨.int hi, rfl, _, _, rfl, rfl, ?_⟩
        have e : decide ((xs.length : Int) ≤ hi) = tupB lo hi (.tuple ds) := by
          show _ = (decide (lo ≤ (ds.length : Int)) && decide ((ds.length : Int) ≤ hi))
          rw [← l, h3]; rfl
        have z := q H (Same.refl H)
        rw [← e] at z
        exact z
      · have e : false = tupB lo hi (.tuple ds) := by
          show _ = (decide (lo ≤ (ds.length : Int)) && decide ((ds.length : Int) ≤ hi))
          rw [← l, Bool.eq_false_iff.mpr h3]; rfl
        have z := q H (Same.refl H)
        rw [← e] at z
        exact z
  · have e : false = tupB lo hi d := by
      cases hd <;> first | rfl | exact absurd rfl h1
    have z := q H (Same.refl H)
    rw [← e] at z
    exact z
abbrev s_is_number : Stmt := topS 5
abbrev N_is_number : List Str := ["thing"]
theorem sc_is_number : FnScope N_is_number ["thing"] (defScope s_is_number) := ⟨rfl, rfl, rfl, by decide +kernel, rfl, by decide +kernel, by decide +kernel⟩

theorem ok_is_number {f : Addr} {fd : FuncData} (F : Fun K "is_number" "is_number" s_is_number f fd) (nb : NB mg) : FnOk P w K mg base CX0 1 f fd ["thing"] (spB numB K) := by
  refine F.ok sc_is_number (fun vs H Q E h => spB_len h) (fun cdv A outer sh H vs Q E hr h => ?_)
  obtain ⟨v, d, rfl, hd, hf, q⟩ := h
  have nd := sc_is_number.nd
  refine ⟨_, (pss_one (ps_ret (pe_and (pe_callB call_isi (by rfl) nb.b_isinstance (by decide +kernel) (pa_cons (pv 0) (pa_cons (pe_bltn (v := .ty "int") (by rfl) nb.b_int (by decide +kernel) rfl) pa_nil))) (pe_one (pe_not (pe_callB call_isi (by rfl) nb.b_isinstance (by decide +kernel) (pa_cons (pv 0) (pa_cons (pe_bltn (v := .ty "bool") (by rfl) nb.b_bool (by decide +kernel) rfl) pa_nil)))))))), ?_⟩
  refine ⟨v, rfl, v, .ty "int", _, _, _, rfl, .ty "int", dp_ty hd, kit_i d, _, rfl, ite2 (fun h1 => ?_) (fun h1 => ?_)⟩
  · refine ⟨v, rfl, v, .ty "bool", _, _, _, rfl, .ty "bool", dp_ty hd, kit_b d, _, rfl, ?_⟩
    have e : (!isBB d) = numB d := by cases d <;> simp_all [isIB, isBB, numB]
    have z := q H (Same.refl H)
    rw [← e] at z
    exact z
  · have e : false = numB d := by cases d <;> simp_all [isIB, numB]
    have z := q H (Same.refl H)
    rw [← e] at z
    exact z
abbrev s_is_bounded : Stmt := topS 6
abbrev N_is_bounded : List Str := ["thing"]
theorem sc_is_bounded : FnScope N_is_bounded ["thing"] (defScope s_is_bounded) := ⟨rfl, rfl, rfl, by decide +kernel, rfl, by decide +kernel, by decide +kernel⟩

theorem ok_is_bounded {f : Addr} {fd : FuncData} (F : Fun K "is_bounded" "is_bounded" s_is_bounded f fd) (gc : GC mg) (D_is_number : Def P w K mg base 1 "is_number" ["thing"] (spB numB K)) : FnOk P w K mg base CX0 2 f fd ["thing"] (spB boundB K) := by
  refine F.ok sc_is_bounded (fun vs H Q E h => spB_len h) (fun cdv A outer sh H vs Q E hr h => ?_)
  obtain ⟨v, d, rfl, hd, hf, q⟩ := h
  have nd := sc_is_bounded.nd
  refine ⟨_, (pss_one (ps_ret (pe_and (pe_own D_is_number hr (pa_cons (pv 0) pa_nil)) (pe_one (pe_chain op_le op_le (pe_un un_neg (pe_gint gc.MOST_NUMBER)) (pv 0) (pe_gint gc.MOST_NUMBER)))))), ?_⟩
  refine ⟨v, rfl, v, d, rfl, hd, hf, fun H1 sm => ⟨_, rfl, ite2 (fun h2 => ?_) (fun h2 => ?_)⟩⟩
  · obtain ⟨i, rfl, rfl⟩ : ∃ i, d = .int i ∧ v = .int i := by
      cases hd <;> first | exact ⟨_, rfl, rfl⟩ | cases h2
    refine ⟨_, rfl, .int i, rfl, _, _, rfl, rfl, _, rfl, ite2 (fun h3 => ?_) (fun h3 => ?_)⟩
    · refine ⟨_, _, rfl, rfl, ?_⟩
      have h3 : -1000000000 ≤ i := of_decide_eq_true h3
      have e : decide (i ≤ 1000000000) = boundB (.int i) := by
        show _ = (decide (-1000000000 ≤ i) && decide (i ≤ 1000000000))
        rw [decide_eq_true h3]; rfl
      have z := q H1 sm
      rw [← e] at z
      exact z
    · have h3 : ¬ -1000000000 ≤ i := fun z => h3 (decide_eq_true z)
      have e : false = boundB (.int i) := by
        show _ = (decide (-1000000000 ≤ i) && decide (i ≤ 1000000000))
        rw [decide_eq_false h3]; rfl
      have z := q H1 sm
      rw [← e] at z
      exact z
  · have e : false = boundB d := by cases d <;> first | rfl | exact absurd rfl h2
    have z := q H1 sm
    rw [← e] at z
    exact z
theorem worth_bound (d : PyData) : worthB d = (isN d || boundB d) := by cases d <;> rfl
theorem isN_v {K : PySem.W.Frag} {H : Hp} {v : V} {d : PyData} (h : Dp K H v d) : decide (v = V.non) = isN d := by cases h <;> rfl
abbrev s_is_worth : Stmt := topS 7
abbrev N_is_worth : List Str := ["thing"]
theorem sc_is_worth : FnScope N_is_worth ["thing"] (defScope s_is_worth) := ⟨rfl, rfl, rfl, by decide +kernel, rfl, by decide +kernel, by decide +kernel⟩

theorem ok_is_worth {f : Addr} {fd : FuncData} (F : Fun K "is_worth" "is_worth" s_is_worth f fd) (D_is_bounded : Def P w K mg base 2 "is_bounded" ["thing"] (spB boundB K)) : FnOk P w K mg base CX0 3 f fd ["thing"] (spB worthB K) := by
  refine F.ok sc_is_worth (fun vs H Q E h => spB_len h) (fun cdv A outer sh H vs Q E hr h => ?_)
  obtain ⟨v, d, rfl, hd, hf, q⟩ := h
  have nd := sc_is_worth.nd
  have q' : ∀ H', Same H H' → ∀ b, b = worthB d → Q (.bl b) H' := fun H' s b e => by rw [e]; exact q H' s
  refine ⟨_, (pss_one (ps_ret (pe_or (pe_cmpR op_isN (pv 0) pe_non (nomark _)) (pe_one (pe_own D_is_bounded hr (pa_cons (pv 0) pa_nil)))))), ?_⟩
  refine ⟨v, rfl, rfl, _, rfl, ?_⟩
  rw [isN_v hd]
  refine ite2 (fun h1 => ?_) (fun h1 => ?_)
  · refine q' H (Same.refl H) _ ?_
    rw [worth_bound, h1]; rfl
  · refine ⟨v, rfl, v, d, rfl, hd, hf, fun H1 sm => q' H1 sm _ ?_⟩
    rw [worth_bound, Bool.eq_false_iff.mpr h1]; rfl
/-- of a list of texts -/
def spUnlike (K : PySem.W.Frag) : Sp := fun vs H Q _ => ∃ (p : Addr) (zs : List Str), vs = [.ref p] ∧ SqL K H p (zs.map V.str) ∧ zs.length ≤ 1000 ∧ ∀ H', Same H H' → Q (.bl (decide zs.Nodup)) H'
abbrev s_are_unlike : Stmt := topS 10
abbrev N_are_unlike : List Str := ["names"]
theorem sc_are_unlike : FnScope N_are_unlike ["names"] (defScope s_are_unlike) := ⟨rfl, rfl, rfl, by decide +kernel, rfl, by decide +kernel, by decide +kernel⟩

theorem ok_are_unlike {f : Addr} {fd : FuncData} (F : Fun K "are_unlike" "are_unlike" s_are_unlike f fd) (nb : NB mg) : FnOk P w K mg base CX0 1 f fd ["names"] (spUnlike K) := by
  refine F.ok sc_are_unlike (fun vs H Q E h => ?_) (fun cdv A outer sh H vs Q E hr h => ?_)
  · obtain ⟨p, zs, rfl, _⟩ := h
    rfl
  obtain ⟨p, zs, rfl, hS, hl, q⟩ := h
  have nd := sc_are_unlike.nd
  refine ⟨_, (pss_one (ps_ret (pe_cmpR op_eq (pe_lenUnlike nb.b_len nb.b_set (pv 0)) (pe_callB call_len_seq (by rfl) nb.b_len (by decide +kernel) (pa_cons (pv 0) pa_nil)) (nomark _)))), ?_⟩
  refine ⟨.ref p, rfl, p, zs, rfl, hS, hl, .ref p, rfl, p, _, rfl, .inl hS, rfl, ?_⟩
  have e : decide (V.int ((unlike zs).length : Int) = V.int ((zs.map V.str).length : Int)) = decide zs.Nodup := by
    rw [← unlike_nodup, List.length_map]
    exact decide_eq_decide.mpr ⟨fun z => V.int.inj z, fun z => by rw [z]⟩
  have z := q H (Same.refl H)
  rw [← e] at z
  exact z
abbrev s_is_name : Stmt := topS 8
abbrev N_is_name : List Str := ["thing", "letter"]
theorem sc_is_name : FnScope N_is_name ["thing"] (defScope s_is_name) := ⟨rfl, rfl, rfl, by decide +kernel, rfl, by decide +kernel, by decide +kernel⟩

theorem ok_is_name {f : Addr} {fd : FuncData} (F : Fun K "is_name" "is_name" s_is_name f fd) (nb : NB mg) (gc : GC mg) : FnOk P w K mg base CX0 1 f fd ["thing"] (spB nameB K) := by
  refine F.ok sc_is_name (fun vs H Q E h => spB_len h) (fun cdv A outer sh H vs Q E hr h => ?_)
  obtain ⟨v, d, rfl, hd, hf, q⟩ := h
  have nd := sc_is_name.nd
  refine ⟨_, (pss_cons (ps_if (PW.pt (pw_or (pt_not (pt_val (pe_callB call_isi (by rfl) nb.b_isinstance (by decide +kernel) (pa_cons (pv 0) (pa_cons (pe_bltn (v := .ty "str") (by rfl) nb.b_str (by decide +kernel) rfl) pa_nil))))) (pw_or1 (pt_not (pt_chain op_le op_le pe_int (pe_callB call_len_str (by rfl) nb.b_len (by decide +kernel) (pa_cons (pv 0) pa_nil)) (pe_gint gc.MOST_LETTERS))))))
        (pss_one (ps_ret pe_bl))
        pss_nil)
      (pss_one (ps_ret (pe_callB (cr_all rfl) (by rfl) nb.b_all (by decide +kernel) (pa_cons (pe_lc (own := [("letter", 1)]) (g := (gName 1)) (tt := tYes) rfl nd (pi_str (pv 0)) (blkOk_by (N := N_is_name) (sc := defScope s_is_name) (by decide +kernel)) (fun _ _ _ _ _ => (pg_name (i := 1) nd rfl (Or.inl rfl))) (fun _ _ _ _ _ => pts_nil) (fun _ _ _ _ _ => (pe_chain op_le_str op_le_str pe_str (pv 1) pe_str))) pa_nil))))), ?_⟩
  refine ⟨v, rfl, v, .ty "str", _, _, _, rfl, .ty "str", dp_ty hd, kit_s d, _, rfl, ?_⟩
  by_cases hs : isSB d = true
  · obtain ⟨z, rfl, rfl⟩ : ∃ z, d = .str z ∧ v = .str z := by
      cases hd <;> first | exact ⟨_, rfl, rfl⟩ | cases hs
    have lz : z.length ≤ 10000 := hf
    have q' : ∀ H', Same H H' → ∀ b, b = nameB (.str z) → Q (.bl b) H' := fun H' s b e => by rw [e]; exact q H' s
    refine iteF ?_
    refine ⟨.str z, rfl, z, rfl, Nat.le_trans lz (by decide), _, _, rfl, rfl, _, rfl, ite2 (fun h1 => ?_) (fun h1 => ?_)⟩
    · refine ⟨_, _, rfl, rfl, _, rfl, ?_⟩
      have h1 : (1 : Int) ≤ z.length := of_decide_eq_true h1
      cases h2 : decide ((z.length : Int) ≤ 8) with
      | false =>
        refine iteT (q' H (Same.refl H) _ ?_)
        have h2 := of_decide_eq_false h2
        show false = ((decide (1 ≤ z.length) && decide (z.length ≤ 8)) && (cl z).all lowB)
        rw [decide_eq_false (show ¬ z.length ≤ 8 by omega), Bool.and_false]
        rfl
      | true =>
        have h2 := of_decide_eq_true h2
        refine iteF ?_
        refine ⟨.str z, rfl, z, rfl, fun D nD => ?_⟩
        refine lc_it walk_str (PvM H D fun i => .bl (lowB ((cl z).getD i 0))) (pvm_start ..) (fun _ _ _ _ => trivial) (fun i x H2 H3 hi hP hY => ?_) (fun H2 hP => ?_)
        · obtain ⟨rfl, c, hc, rfl⟩ := hY
          have hc' : (cl z).getD i 0 = c := by
            unfold cl
            rw [List.getD_eq_getElem?_getD, Array.getElem?_toList, hc]
            rfl
          refine ⟨rfl, ?_⟩
          unfold tYes
          dsimp only
          refine iteT ?_
          have ea : (Str.ofString "a").cps.toList = [97] := by decide +kernel
          have ez : (Str.ofString "z").cps.toList = [122] := by decide +kernel
          refine ⟨_, rfl, _, _, rfl, rfl, _, rfl, ?_⟩
          rw [ea]
          show (if (!decide (([c] : List Nat) < [97])) = true then _ else _)
          rw [lt_one]
          have hi8 : i ≤ 1000 := by
            have : i < z.length := hi
            omega
          refine ite2 (fun g1 => ?_) (fun g1 => ?_)
          · refine ⟨_, _, rfl, rfl, ?_⟩
            refine pvm_step hP (Same.refl _) ?_ hi8
            rw [ez, hc']
            show V.bl (!decide (([122] : List Nat) < [c])) = _
            rw [lt_one]
            unfold lowB
            have g2 : decide (97 ≤ c) = true := by
              rw [← g1]
              by_cases h : c < 97
              · rw [decide_eq_true h, decide_eq_false (by omega)]; rfl
              · rw [decide_eq_false h, decide_eq_true (by omega)]; rfl
            rw [g2]
            by_cases h : 122 < c
            · rw [decide_eq_true h, decide_eq_false (by omega)]; rfl
            · rw [decide_eq_false h, decide_eq_true (by omega)]; rfl
          · refine pvm_step hP (Same.refl _) ?_ hi8
            rw [hc']
            unfold lowB
            have g2 : decide (97 ≤ c) = false := by
              by_cases h : c < 97
              · exact decide_eq_false (by omega)
              · rw [decide_eq_false h] at g1
                exact absurd rfl g1
            rw [g2]
            rfl
        · have sm := pvm_same hP nD
          refine ⟨D, (List.range z.cps.size).map fun i => lowB ((cl z).getD i 0), rfl, .inl (.inl ?_), ?_⟩
          · rw [hP.1, List.map_map]; rfl
          · refine q' H2 sm _ ?_
            have el : z.cps.size = (cl z).length := rfl
            rw [el, range_all]
            show _ = ((decide (1 ≤ z.length) && decide (z.length ≤ 8)) && (cl z).all lowB)
            rw [decide_eq_true (show 1 ≤ z.length by omega), decide_eq_true (show z.length ≤ 8 by omega)]
            rfl
    · refine ⟨_, rfl, iteT (q' H (Same.refl H) _ ?_)⟩
      have h1 : ¬ (1 : Int) ≤ z.length := fun z => h1 (decide_eq_true z)
      show false = ((decide (1 ≤ z.length) && decide (z.length ≤ 8)) && (cl z).all lowB)
      rw [decide_eq_false (show ¬ 1 ≤ z.length by omega)]
      rfl
  · have hs' : isSB d = false := by simpa using hs
    rw [hs']
    refine iteT (iteT ?_)
    have e : nameB d = false := by cases d <;> first | rfl | exact absurd rfl hs
    have z := q H (Same.refl H)
    rw [e] at z
    exact z
end
end TT

set_option Elab.async false
set_option linter.all false
set_option maxRecDepth 100000
namespace TT
open PySem PySem.Spec PyProof.Rows L2
/-! ### places, tests, acts, rules as they are looked at -/
def oldP (c : Str) : PyData := .tuple [.str "old", .str c]
def newP (c : Str) : PyData := .tuple [.str "new", .str c]
def readP (side kind : Str) (zs : List Str) : List PyData :=
  if side = "deed" then [.tuple [.str "many"]] else ((zs.filter fun _ => decide (kind ≠ "put")).map oldP) ++ ((zs.filter fun _ => decide (kind ≠ "drop")).map newP)
def placeB (rd : List PyData) (d : PyData) : Bool := worthB d || rd.any fun z => PyData.eqv z d
theorem lc_filt {K : PySem.W.Frag} {J : It} {n : Nat} {G : Hp → Prop} {xs : List V} (w : Walk J n G (YAt xs)) {α : Type} {l : List α} (M : List Addr) (hn : n = l.length) (few : l.length ≤ 900) (p : α → Bool) (f : α → PyData) (R : V → α → Prop)
    {g : TG} {tt : TT} {te : TE} {vs : List Nat} {σ : L2.St} {H1 : Hp} {D : Addr} {Qd : Hp → Prop} (nD : H1 D = none) (hG : ∀ H', Kept [D] H1 H' → G H') (hx : ∀ (i : Nat) (x : V), xs[i]? = some x → ∃ a, l[i]? = some a ∧ R x a)
    (step : ∀ (x : V) (a : α) (H' : Hp) (C : V → Hp → Prop) (N : Hp → Prop), a ∈ l → R x a → Kept [D] H1 H' → (∃ ws, H' D = some (.lst ws)) → (p a = true → ∀ y H4, Kept [] H' H4 → Dp K (msk (D :: M) H4) y (f a) → C y H4) → (p a = false → ∀ H4, Kept [] H' H4 → N H4) →
      g x (wipe σ vs) H' fun σ2 H2 => wipe σ2 vs = wipe σ vs ∧ tt σ2 H2 fun b H3 => if b = true then te σ2 H3 C else N H3)
    (fin : ∀ us H2, Grow K M H2 D us ((l.filter p).map f) → Kept [D] H1 H2 → Qd H2) (oD : D ∉ M) :
    ∃ W : Nat → Nat → Hp → Prop, (∃ m, W 0 m (upd H1 D (.lst []))) ∧ ∀ i m H, W i m H →
      (J.stop i H ∧ Qd H) ∨ (J.go i H ∧ ∃ Nx : Hp → Prop, (∀ H', Nx H' → ∃ m', m' < m ∧ W (i + 1) m' H') ∧ ∀ x H', J.yld i H x H' → g x (wipe σ vs) H' fun σ2 H2 => wipe σ2 vs = wipe σ vs ∧ tt σ2 H2 fun b H3 =>
        if b = true then te σ2 H3 fun y H4 => ∃ acc, H4 D = some (.lst acc) ∧ acc.length < sizeLine ∧ Nx (upd H4 D (.lst (acc ++ [y]))) else Nx H3) := by
  refine lc_it w (fun i H' => ∃ us, Grow K M H' D us (((l.take i).filter p).map f) ∧ Kept [D] H1 H') ⟨[], .start, Kept.upd_new nD⟩ (fun i H' _ hP => let ⟨_, _, kk⟩ := hP; hG H' kk) (fun i x H' H'' hi hP hY => ?_) (fun H2 hP => ?_)
  · obtain ⟨rfl, hx1⟩ := hY
    obtain ⟨us, gr, kk⟩ := hP
    obtain ⟨a, h1, h2⟩ := hx i x hx1
    have et : (l.take (i + 1)).filter p = (l.take i).filter p ++ (if p a then [a] else []) := by
      rw [List.take_add_one, h1, List.filter_append]
      congr 1
      show List.filter p [a] = _
      rw [List.filter_cons, List.filter_nil]
    refine step x a H'' _ _ (List.mem_of_getElem? h1) h2 kk ⟨_, gr.at'⟩ (fun hp y H4 k4 hd => ?_) (fun hp H4 k4 => ?_)
    · have g4 := gr.kept (k4.mono fun _ h => absurd h List.not_mem_nil) oD
      refine ⟨us, g4.at', ?_, us ++ [y], ?_, kk.trans ((k4.mono (fun _ h => absurd h List.not_mem_nil)).trans (Kept.upd_in (List.mem_cons_self ..)))⟩
      · rw [gr.len, List.length_map]
        have := List.length_filter_le p (l.take i)
        rw [List.length_take] at this
        exact small1000 (by omega)
      · rw [et, hp, if_pos rfl, List.map_append]
        exact g4.put hd
    · refine ⟨us, ?_, kk.trans (k4.mono (fun _ h => absurd h List.not_mem_nil))⟩
      rw [et, hp, if_neg Bool.false_ne_true, List.append_nil]
      exact gr.kept (k4.mono fun _ h => absurd h List.not_mem_nil) oD
  · obtain ⟨us, gr, kk⟩ := hP
    rw [hn, List.take_length] at gr
    exact fin us H2 gr kk
section
variable {P : Program} {w : World} {K : PySem.W.Frag} {mg : Str → Option Value} {base : Heap}
def spPlacesRead (K : PySem.W.Frag) : Sp := fun vs H Q _ => ∃ (side kind : Str) (cp : Addr) (zs : List Str), vs = [.str side, .str kind, .ref cp] ∧ SqL K H cp (zs.map V.str) ∧ zs.length ≤ 100 ∧ ∀ (p : Addr) (H' : Hp), Same H H' → Dp K H' (.ref p) (.list (readP side kind zs)) → Q (.ref p) H'
abbrev s_places_read : Stmt := topS 24
abbrev N_places_read : List Str := ["side", "kind", "columns", "old", "column"]
theorem sc_places_read : FnScope N_places_read ["side", "kind", "columns"] (defScope s_places_read) := ⟨rfl, rfl, rfl, by decide +kernel, rfl, by decide +kernel, by decide +kernel⟩

set_option maxHeartbeats 4000000 in
theorem ok_places_read {f : Addr} {fd : FuncData} (F : Fun K "_places_read" "_places_read" s_places_read f fd) : FnOk P w K mg base CX0 1 f fd ["side", "kind", "columns"] (spPlacesRead K) := by
  refine F.ok sc_places_read (fun vs H Q E h => ?_) (fun cdv A outer sh H vs Q E hr h => ?_)
  · obtain ⟨side, kind, cp, zs, rfl, _⟩ := h
    rfl
  obtain ⟨side, kind, cp, zs, rfl, hS, few, q⟩ := h
  have nd := sc_places_read.nd
  refine ⟨_, (pss_cons (ps_if (pt_cmpR op_eq (pv 0) pe_str (nomark _))
        (pss_one (ps_ret (pe_lst (pa_cons (pe_tup (pa_cons pe_str pa_nil)) pa_nil))))
        pss_nil)
      (pss_cons (ps_setLc (i := 3) (own := [("column", 4)]) (g := (gName 4)) rfl nd rfl rfl (sw_true rfl rfl rfl (by decide +kernel)) (pi_list (pv 2)) (blkOk_by (N := N_places_read) (sc := defScope s_places_read) (by decide +kernel)) (fun _ _ _ _ _ => (pg_name (i := 4) nd rfl (Or.inl rfl))) (fun _ _ _ _ _ => (pts_one (pt_cmpR op_ne (pv 1) pe_str (nomark _)))) (fun _ _ _ _ _ => (pe_tup (pa_cons pe_str (pa_cons (pv 4) pa_nil)))))
      (pss_one (ps_ret (pe_op op_cat (pv 3) (pe_lc (own := [("column", 4)]) (g := (gName 4)) rfl nd (pi_list (pv 2)) (blkOk_by (N := N_places_read) (sc := defScope s_places_read) (by decide +kernel)) (fun _ _ _ _ _ => (pg_name (i := 4) nd rfl (Or.inl rfl))) (fun _ _ _ _ _ => (pts_one (pt_cmpR op_ne (pv 1) pe_str (nomark _)))) (fun _ _ _ _ _ => (pe_tup (pa_cons pe_str (pa_cons (pv 4) pa_nil)))))))))), ?_⟩
  unfold readP at q
  refine ⟨.str side, rfl, rfl, _, rfl, ite2 (fun e => ?_) (fun e => ?_)⟩
  · have e : side = "deed" := V.str.inj (of_decide_eq_true e)
    rw [if_pos e] at q
    refine ⟨(by show 1 ≤ sizeLine; decide), fun p np => ⟨(by show 1 ≤ sizeLine; decide), fun L nL => ?_⟩⟩
    have n1 : p ≠ L := ne_of_none upd_same nL
    exact q L _ ((same_upd np).trans (same_upd nL)) (.lst (.inl (.inl upd_same)) (.cons (.tup (.inl (.inl (by rw [upd_ne n1]; exact upd_same))) (.cons (.str _) .nil)) .nil))
  have e : side ≠ "deed" := fun z => e (decide_eq_true (by rw [z]))
  rw [if_neg e] at q
  have elem : ∀ (a : Str) (H' : Hp) (D : Addr) (wd : Str) (C : V → Hp → Prop), (∃ ws, H' D = some (.lst ws)) → (∀ y H4, Kept [] H' H4 → Dp K (msk [D] H4) y (.tuple [.str wd, .str a]) → C y H4) → ∀ t, H' t = none → C (.ref t) (upd H' t (.tup [.str wd, .str a])) := fun a H' D wd C hD hC t nt => by
    obtain ⟨ws, eD⟩ := hD
    have nDt : D ≠ t := ne_of_none eD nt
    exact hC _ _ (Kept.upd_new nt) (.tup (.inl (.inl (msk_at upd_same (by simp [nDt.symm])))) (.cons (.str _) (.cons (.str _) .nil)))
  refine ⟨.ref cp, rfl, cp, rfl, ⟨_, hS⟩, fun D nD => ?_⟩
  refine lc_filt (K := K) (walk_list (xs := zs.map V.str)) (l := zs) [] (by rw [List.length_map]) (by omega) (fun _ => decide (kind ≠ "put")) oldP (fun v a => v = .str a) nD (fun H' kk => (keptS0 kk nD).seq hS) (fun i x hx => ?_) (fun x a H' C N ha hR kk eD yesC noC => ?_) (fun us H1 gr kk => ?_) List.not_mem_nil
  · rw [List.getElem?_map] at hx
    obtain ⟨a, ha, rfl⟩ := Option.map_eq_some_iff.mp hx
    exact ⟨a, ha, rfl⟩
  · subst hR
    refine ⟨rfl, ⟨.str kind, rfl, rfl, _, rfl, ?_⟩⟩
    by_cases z : kind = "put"
    · rw [decide_eq_true (show V.str kind = V.str "put" by rw [z])]
      exact iteF (noC (decide_eq_false fun h => h z) H' (Kept.refl _ _))
    · rw [decide_eq_false (show ¬ V.str kind = V.str "put" from fun h => z (V.str.inj h))]
      exact iteT ⟨.str a, rfl, (by show 2 ≤ sizeLine; decide), elem a H' D "old" C eD (yesC (decide_eq_true z))⟩
  have s1 := keptS0 kk nD
  have hS1 := s1.seq hS
  refine ⟨.ref D, rfl, .ref cp, rfl, cp, rfl, ⟨_, hS1⟩, fun D2 nD2 => ?_⟩
  refine lc_filt (K := K) (walk_list (xs := zs.map V.str)) (l := zs) [] (by rw [List.length_map]) (by omega) (fun _ => decide (kind ≠ "drop")) newP (fun v a => v = .str a) nD2 (fun H' kk => (keptS0 kk nD2).seq hS1) (fun i x hx => ?_) (fun x a H' C N ha hR kk eD yesC noC => ?_) (fun us2 H2 gr2 kk2 => ?_) List.not_mem_nil
  · rw [List.getElem?_map] at hx
    obtain ⟨a, ha, rfl⟩ := Option.map_eq_some_iff.mp hx
    exact ⟨a, ha, rfl⟩
  · subst hR
    refine ⟨rfl, ⟨.str kind, rfl, rfl, _, rfl, ?_⟩⟩
    by_cases z : kind = "drop"
    · rw [decide_eq_true (show V.str kind = V.str "drop" by rw [z])]
      exact iteF (noC (decide_eq_false fun h => h z) H' (Kept.refl _ _))
    · rw [decide_eq_false (show ¬ V.str kind = V.str "drop" from fun h => z (V.str.inj h))]
      exact iteT ⟨.str a, rfl, (by show 2 ≤ sizeLine; decide), elem a H' D2 "new" C eD (yesC (decide_eq_true z))⟩
  have s2 := keptS0 kk2 nD2
  have d1 := dpAll_same ((msk_sub _ _).trans s2) gr.dp
  have d2 := dpAll_same (msk_sub _ _) gr2.dp
  have l1 : us.length ≤ 100 := by
    rw [gr.len, List.length_map]
    exact Nat.le_trans (List.length_filter_le ..) few
  have l2 : us2.length ≤ 100 := by
    rw [gr2.len, List.length_map]
    exact Nat.le_trans (List.length_filter_le ..) few
  refine ⟨D, D2, _, _, rfl, rfl, s2 _ _ gr.at', gr2.at', Nat.le_of_lt (small1000 (by omega)), fun G nG => ?_⟩
  have sG := same_upd (o := .lst (us ++ us2)) nG
  exact q G _ (s1.trans (s2.trans sG)) (.lst (.inl (.inl upd_same)) (dpAll_app (dpAll_same sG d1) (dpAll_same sG d2)))
theorem read_len (side kind : Str) (zs : List Str) (h : zs.length ≤ 100) : (readP side kind zs).length ≤ 300 := by
  unfold readP
  by_cases z : side = "deed"
  · rw [if_pos z]; show 1 ≤ 300; decide
  · rw [if_neg z, List.length_append, List.length_map, List.length_map]
    have h1 := List.length_filter_le (fun _ : Str => decide (kind ≠ "put")) zs
    have h2 := List.length_filter_le (fun _ : Str => decide (kind ≠ "drop")) zs
    omega
/-- what is handed to be read from -/
structure RdX (K : PySem.W.Frag) (H : Hp) (rp : Addr) (rd : List PyData) : Prop where
  dp : Dp K H (.ref rp) (.list rd)
  sh : SeqAt.shaped (.list rd) = true
theorem RdX.same {K : PySem.W.Frag} {H H' : Hp} {rp : Addr} {rd : List PyData} (h : RdX K H rp rd) (s : Same H H') : RdX K H' rp rd := ⟨dp_same s h.dp, h.sh⟩
def spPl (K : PySem.W.Frag) : Sp := fun vs H Q _ => ∃ (rp : Addr) (rd : List PyData) (v : V) (d : PyData), vs = [.ref rp, v] ∧ RdX K H rp rd ∧ Dp K H v d ∧ Fit d ∧ SeqAt.shaped d = true ∧ ∀ H', Same H H' → Q (.bl (placeB rd d)) H'
abbrev s_is_place : Stmt := topS 25
abbrev N_is_place : List Str := ["read", "thing"]
theorem sc_is_place : FnScope N_is_place ["read", "thing"] (defScope s_is_place) := ⟨rfl, rfl, rfl, by decide +kernel, rfl, by decide +kernel, by decide +kernel⟩

theorem ok_is_place {f : Addr} {fd : FuncData} (F : Fun K "_is_place" "_is_place" s_is_place f fd) (D_is_worth : Def P w K mg base 3 "is_worth" ["thing"] (spB worthB K)) : FnOk P w K mg base CX0 4 f fd ["read", "thing"] (spPl K) := by
  refine F.ok sc_is_place (fun vs H Q E h => ?_) (fun cdv A outer sh H vs Q E hr h => ?_)
  · obtain ⟨rp, rd, v, d, rfl, _⟩ := h
    rfl
  obtain ⟨rp, rd, v, d, rfl, hR, hd, hf, hs, q⟩ := h
  have nd := sc_is_place.nd
  have q' : ∀ H', Same H H' → ∀ b, b = placeB rd d → Q (.bl b) H' := fun H' s b e => by rw [e]; exact q H' s
  refine ⟨_, (pss_one (ps_ret (pe_or (pe_own D_is_worth hr (pa_cons (pv 1) pa_nil)) (pe_one (pe_cmpR (op_inD (u65 hr)) (pv 1) (pv 0) (by rfl)))))), ?_⟩
  refine ⟨v, rfl, v, d, rfl, hd, hf, fun H1 s1 => ⟨_, rfl, ite2 (fun e => ?_) (fun e => ?_)⟩⟩
  · refine q' H1 s1 _ ?_
    unfold placeB; rw [e]; rfl
  · refine ⟨v, rfl, .ref rp, rfl, d, rd, dp_same s1 hd, (hR.same s1).dp, hs, hR.sh, q' H1 s1 _ ?_⟩
    unfold placeB; rw [Bool.eq_false_iff.mpr e]; rfl
def placesB (rd : List PyData) (n : Nat) : PyData → Bool
  | .tuple ds => decide (ds.length = n) && ds.all (placeB rd)
  | _ => false
def spPls (K : PySem.W.Frag) : Sp := fun vs H Q _ => ∃ (rp : Addr) (rd : List PyData) (n : Nat) (v : V) (d : PyData), vs = [.ref rp, .int n, v] ∧ RdX K H rp rd ∧ Dp K H v d ∧ Fit d ∧ SeqAt.shaped d = true ∧ ∀ H', Same H H' → Q (.bl (placesB rd n d)) H'
abbrev s_is_places : Stmt := topS 29
abbrev N_is_places : List Str := ["read", "many", "thing", "part"]
theorem sc_is_places : FnScope N_is_places ["read", "many", "thing"] (defScope s_is_places) := ⟨rfl, rfl, rfl, by decide +kernel, rfl, by decide +kernel, by decide +kernel⟩

theorem ok_is_places {f : Addr} {fd : FuncData} (F : Fun K "_is_places" "_is_places" s_is_places f fd) (nb : NB mg) (D_is_tuple : Def P w K mg base 1 "is_tuple" ["thing", "least", "most"] (spTup K)) (D_is_place : Def P w K mg base 4 "_is_place" ["read", "thing"] (spPl K)) : FnOk P w K mg base CX0 5 f fd ["read", "many", "thing"] (spPls K) := by
  refine F.ok sc_is_places (fun vs H Q E h => ?_) (fun cdv A outer sh H vs Q E hr h => ?_)
  · obtain ⟨rp, rd, n, v, d, rfl, _⟩ := h
    rfl
  obtain ⟨rp, rd, n, v, d, rfl, hR, hd, hf, hs, q⟩ := h
  have nd := sc_is_places.nd
  have q' : ∀ H', Same H H' → ∀ b, b = placesB rd n d → Q (.bl b) H' := fun H' s b e => by rw [e]; exact q H' s
  refine ⟨_, (pss_cons (ps_if (pt_not (pt_val (pe_own D_is_tuple hr (pa_cons (pv 2) (pa_cons (pv 1) (pa_cons (pv 1) pa_nil))))))
        (pss_one (ps_ret pe_bl))
        pss_nil)
      (pss_one (ps_ret (pe_callB (cr_all rfl) (by rfl) nb.b_all (by decide +kernel) (pa_cons (pe_lc (own := [("part", 3)]) (g := (gName 3)) (tt := tYes) rfl nd (pi_tup (pv 2)) (blkOk_by (N := N_is_places) (sc := defScope s_is_places) (by decide +kernel)) (fun _ _ _ _ _ => (pg_name (i := 3) nd rfl (Or.inl rfl))) (fun _ _ _ _ _ => pts_nil) (fun _ _ _ _ _ => (pe_own D_is_place hr (pa_cons (pv 0) (pa_cons (pv 3) pa_nil))))) pa_nil))))), ?_⟩
  refine ⟨v, rfl, .int n, rfl, .int n, rfl, v, d, n, n, rfl, hd, hf, fun H1 s1 => ⟨_, rfl, ?_⟩⟩
  cases ht : tupB n n d with
  | false =>
    refine iteT (q' H1 s1 _ ?_)
    cases d with
    | tuple ds =>
      have h' : (decide ((n : Int) ≤ (ds.length : Int)) && decide ((ds.length : Int) ≤ n)) = false := ht
      show false = (decide (ds.length = n) && _)
      have : ¬ ds.length = n := fun z => by
        rw [decide_eq_true (by omega), decide_eq_true (by omega)] at h'; cases h'
      rw [decide_eq_false this]; rfl
    | _ => rfl
  | true =>
    refine iteF ?_
    obtain ⟨p, xs, ds, rfl, rfl, hS, hA⟩ := isT_of hd (tupB_isT ht)
    have l := dpAll_len hA
    have hn : ds.length = n := by
      have h' : (decide ((n : Int) ≤ (ds.length : Int)) && decide ((ds.length : Int) ≤ n)) = true := ht
      rw [Bool.and_eq_true] at h'
      have g1 := of_decide_eq_true h'.1
      have g2 := of_decide_eq_true h'.2
      omega
    have l9 := hf.1
    refine ⟨.ref p, rfl, p, rfl, ⟨_, sameT s1 hS⟩, fun D nD => ?_⟩
    refine lc_it walk_tup (PvM H1 D fun i => .bl (placeB rd (ds.getD i .none))) (pvm_start ..) (fun i H2 _ hP => sameT (s1.trans (pvm_same hP nD)) hS) (fun i x H2 H3 hi hP hY => ?_) (fun H2 hP => ?_)
    · obtain ⟨rfl, hx⟩ := hY
      obtain ⟨d1, h1, h2⟩ := dpAll_get i hA hx
      have hm := List.mem_of_getElem? h1
      refine ⟨rfl, ?_⟩
      unfold tYes
      dsimp only
      refine iteT ?_
      refine ⟨.ref rp, rfl, x, rfl, rp, rd, x, d1, rfl, hR.same (s1.trans (pvm_same hP nD)), dp_same (s1.trans (pvm_same hP nD)) h2, fit_mem hf.2 hm, shaped_mem hs hm, fun H4 s4 => pvm_step hP s4 ?_ (by omega)⟩
      rw [getD_of h1]
    · have sm2 : Same H1 H2 := pvm_same hP nD
      refine ⟨D, (List.range xs.length).map fun i => placeB rd (ds.getD i .none), rfl, .inl (.inl ?_), ?_⟩
      · rw [hP.1, List.map_map]; rfl
      rw [l, range_all]
      refine q' H2 (s1.trans sm2) _ ?_
      show _ = (decide (ds.length = n) && ds.all (placeB rd))
      rw [decide_eq_true hn]; rfl
end
end TT

set_option Elab.async false
set_option linter.all false
set_option maxRecDepth 100000
namespace TT
open PySem PySem.Spec PyProof.Rows L2
theorem signs_ok : ∀ z ∈ signs3 ++ (sides3 ++ (kinds3 ++ (["set", "add"] : List Str))), NameOk z := by
  have h : (signs3 ++ (sides3 ++ (kinds3 ++ (["set", "add"] : List Str)))).all (fun z => decide (0 < (cl z).length) && decide ((cl z).length ≤ 8) && (cl z).all fun c => decide (97 ≤ c) && decide (c ≤ 122)) = true := by decide +kernel
  intro z hz
  have h1 := List.all_eq_true.mp h z hz
  simp only [Bool.and_eq_true, decide_eq_true_eq, List.all_eq_true] at h1
  exact ⟨h1.1.1, h1.1.2, h1.2⟩
def testB (rd : List PyData) (side : Str) : PyData → Bool
  | .none => decide (side ≠ "ahead")
  | .tuple [a, s, b] => inS signs3 s && (placeB rd a && placeB rd b)
  | _ => false
structure GT (K : PySem.W.Frag) (mg : Str → Option Value) : Prop where
  SIDES : ∃ a, mg "SIDES" = some (.ref a) ∧ ∀ H, SqT K H a (sides3.map V.str)
  KINDS : ∃ a, mg "KINDS" = some (.ref a) ∧ ∀ H, SqT K H a (kinds3.map V.str)
  SIGNS : ∃ a, mg "SIGNS" = some (.ref a) ∧ ∀ H, SqT K H a (signs3.map V.str)
theorem three {ds : List PyData} (h : ds.length = 3) : ∃ a b c, ds = [a, b, c] := by
  match ds, h with
  | [a, b, c], _ => exact ⟨a, b, c, rfl⟩
theorem dp3 {K : PySem.W.Frag} {H : Hp} {xs : List V} {a b c : PyData} (h : DpAll K H xs [a, b, c]) : ∃ x y z, xs = [x, y, z] ∧ Dp K H x a ∧ Dp K H y b ∧ Dp K H z c := by
  cases h with
  | cons h1 t =>
  cases t with
  | cons h2 t =>
  cases t with
  | cons h3 t =>
  cases t
  exact ⟨_, _, _, rfl, h1, h2, h3⟩
theorem tup_n {n : Nat} {ds : List PyData} (h : tupB n n (.tuple ds) = true) : ds.length = n := by
  have h' : (decide ((n : Int) ≤ (ds.length : Int)) && decide ((ds.length : Int) ≤ n)) = true := h
  rw [Bool.and_eq_true] at h'
  have g1 := of_decide_eq_true h'.1
  have g2 := of_decide_eq_true h'.2
  omega
section
variable {P : Program} {w : World} {K : PySem.W.Frag} {mg : Str → Option Value} {base : Heap}
def spTest (K : PySem.W.Frag) : Sp := fun vs H Q _ => ∃ (rp : Addr) (rd : List PyData) (side : Str) (v : V) (d : PyData), vs = [.ref rp, .str side, v] ∧ RdX K H rp rd ∧ Dp K H v d ∧ Fit d ∧ SeqAt.shaped d = true ∧ ∀ H', Same H H' → Q (.bl (testB rd side d)) H'
abbrev s_is_test : Stmt := topS 26
abbrev N_is_test : List Str := ["read", "side", "thing", "one", "sign", "other"]
theorem sc_is_test : FnScope N_is_test ["read", "side", "thing"] (defScope s_is_test) := ⟨rfl, rfl, rfl, by decide +kernel, rfl, by decide +kernel, by decide +kernel⟩

set_option maxHeartbeats 4000000 in
theorem ok_is_test {f : Addr} {fd : FuncData} (F : Fun K "_is_test" "_is_test" s_is_test f fd) (gt : GT K mg) (D_is_tuple : Def P w K mg base 1 "is_tuple" ["thing", "least", "most"] (spTup K)) (D_is_place : Def P w K mg base 4 "_is_place" ["read", "thing"] (spPl K)) : FnOk P w K mg base CX0 5 f fd ["read", "side", "thing"] (spTest K) := by
  refine F.ok sc_is_test (fun vs H Q E h => ?_) (fun cdv A outer sh H vs Q E hr h => ?_)
  · obtain ⟨rp, rd, side, v, d, rfl, _⟩ := h
    rfl
  obtain ⟨rp, rd, side, v, d, rfl, hR, hd, hf, hs, q⟩ := h
  have nd := sc_is_test.nd
  obtain ⟨aS, mS, sS⟩ := gt.SIGNS
  have q' : ∀ H', Same H H' → ∀ b, b = testB rd side d → Q (.bl b) H' := fun H' s b e => by rw [e]; exact q H' s
  refine ⟨_, (pss_cons (ps_if (pt_cmpR op_isN (pv 2) pe_non (nomark _))
        (pss_one (ps_ret (pe_cmpR op_ne (pv 1) pe_str (nomark _))))
        pss_nil)
      (pss_cons (ps_if (pt_not (pt_val (pe_own D_is_tuple hr (pa_cons (pv 2) (pa_cons pe_int (pa_cons pe_int pa_nil))))))
        (pss_one (ps_ret pe_bl))
        pss_nil)
      (pss_cons (ps_asg (pv 2) (pg_tup rfl (pgs_cons (pg_name (i := 3) nd rfl (Or.inl rfl)) (pgs_cons (pg_name (i := 4) nd rfl (Or.inl rfl)) (pgs_cons (pg_name (i := 5) nd rfl (Or.inl rfl)) pgs_nil)))))
      (pss_one (ps_ret (pe_and (pe_cmpR (op_inN (u65 hr)) (pv 4) (pe_glob (v := .ref aS) (by rfl) mS rfl) (by rfl)) (pe_and (pe_own D_is_place hr (pa_cons (pv 0) (pa_cons (pv 3) pa_nil))) (pe_one (pe_own D_is_place hr (pa_cons (pv 0) (pa_cons (pv 5) pa_nil))))))))))), ?_⟩
  refine ⟨v, rfl, rfl, _, rfl, ?_⟩
  rw [isN_v hd]
  cases hn : isN d with
  | true =>
    refine iteT ⟨.str side, rfl, rfl, q' H (Same.refl H) _ ?_⟩
    cases d <;> first | cases hn
    show (!decide (V.str side = V.str "ahead")) = decide (side ≠ "ahead")
    by_cases z : side = "ahead"
    · rw [decide_eq_true (by rw [z]), decide_eq_false (fun h => h z)]; rfl
    · rw [decide_eq_false (fun h => z (V.str.inj h)), decide_eq_true z]; rfl
  | false =>
  refine iteF ?_
  refine ⟨v, rfl, v, d, 3, 3, rfl, hd, hf, fun H1 s1 => ⟨_, rfl, ?_⟩⟩
  cases ht : tupB 3 3 d with
  | false =>
    refine iteT (q' H1 s1 _ ?_)
    cases d with
    | none => cases hn
    | tuple ds =>
      match ds, ht with
      | [], _ => rfl
      | [_], _ => rfl
      | [_, _], _ => rfl
      | [_, _, _], h => cases h
      | _ :: _ :: _ :: _ :: _, _ => rfl
    | _ => rfl
  | true =>
  refine iteF ?_
  obtain ⟨p, xs, ds, rfl, rfl, hS, hA⟩ := isT_of hd (tupB_isT ht)
  obtain ⟨a, sg, c, rfl⟩ := three (tup_n (n := 3) ht)
  obtain ⟨x, y, z, rfl, da, ds', dc⟩ := dp3 hA
  have fa := fit_mem hf.2 (show a ∈ [a, sg, c] by simp)
  have fc := fit_mem hf.2 (show c ∈ [a, sg, c] by simp)
  have ha := shaped_mem hs (show a ∈ [a, sg, c] by simp)
  have hg := shaped_mem hs (show sg ∈ [a, sg, c] by simp)
  have hc := shaped_mem hs (show c ∈ [a, sg, c] by simp)
  refine ⟨.ref p, rfl, p, _, rfl, sameT s1 hS, rfl, x, _, rfl, y, _, rfl, z, _, rfl, rfl, ?_⟩
  have eT : testB rd side (.tuple [a, sg, c]) = (inS signs3 sg && (placeB rd a && placeB rd c)) := rfl
  refine ⟨y, rfl, sg, signs3, aS, rfl, dp_same s1 ds', hg, .inr (sS H1), shaped_strs (fun z hz => signs_ok z (List.mem_append_left _ hz)), _, rfl, ?_⟩
  cases h1 : inS signs3 sg with
  | false => exact iteF (q' H1 s1 _ (by rw [eT, h1]; rfl))
  | true =>
    refine iteT ⟨.ref rp, rfl, x, rfl, rp, rd, x, a, rfl, hR.same s1, dp_same s1 da, fa, ha, fun H2 s2 => ⟨_, rfl, ?_⟩⟩
    have s12 := s1.trans s2
    cases h2 : placeB rd a with
    | false => exact iteF (q' H2 s12 _ (by rw [eT, h1, h2]; rfl))
    | true => exact iteT ⟨.ref rp, rfl, z, rfl, rp, rd, z, c, rfl, hR.same s12, dp_same s12 dc, fc, hc, fun H3 s3 => q' H3 (s12.trans s3) _ (by rw [eT, h1, h2]; rfl)⟩
theorem andIf {tA tB : TT} {Y N : TS} {D : Ends} {σ : L2.St} {H : Hp} (a b : Bool) (hA : ∀ QQ : Bool → Hp → Prop, QQ a H → tA σ H QQ) (hB : ∀ QQ : Bool → Hp → Prop, QQ b H → tB σ H QQ) (yes : (a && b) = true → Y D σ H) (no : (a && b) = false → N D σ H) : tIfS (tAnd tA tB) Y N D σ H := by
  refine hA _ ?_
  cases a with
  | false => exact iteF (iteF (no rfl))
  | true =>
    refine iteT (hB _ ?_)
    cases b with
    | false => exact iteF (no rfl)
    | true => exact iteT (yes rfl)
def wordB (k : Str) (d : PyData) : Bool := PyData.eqv d (.str k)
def actP (ts : List Tab) (rd : List PyData) (ds : List PyData) : Bool :=
  if (wordB "put" (ds.getD 0 .none) && decide (ds.length = 3)) = true then placesB rd (cns ts (strOf (ds.getD 1 .none))).length (ds.getD 2 .none)
  else if (wordB "drop" (ds.getD 0 .none) && decide (ds.length = 3)) = true then placeB rd (ds.getD 2 .none)
  else if (inS ["set", "add"] (ds.getD 0 .none) && decide (ds.length = 5)) = true then inS (cns ts (strOf (ds.getD 1 .none))) (ds.getD 3 .none) && (placeB rd (ds.getD 2 .none) && placeB rd (ds.getD 4 .none))
  else false
def actB (ts : List Tab) (rd : List PyData) : PyData → Bool
  | .tuple ds => tupB 3 5 (.tuple ds) && (inS (tns ts) (ds.getD 1 .none) && actP ts rd ds)
  | _ => false
def spActs (R : List Tab → List PyData → PyData → Bool) (K : PySem.W.Frag) : Sp := fun vs H Q _ => ∃ (tp rp : Addr) (ts : List Tab) (rd : List PyData) (v : V) (d : PyData), vs = [.ref tp, .ref rp, v] ∧ Tabs K H tp ts ∧ RdX K H rp rd ∧ Dp K H v d ∧ Fit d ∧ SeqAt.shaped d = true ∧ ∀ H', Same H H' → Q (.bl (R ts rd d)) H'
abbrev s_is_act : Stmt := topS 28
abbrev N_is_act : List Str := ["tables", "read", "thing", "kind", "many", "columns", "_", "key", "column", "worth"]
theorem sc_is_act : FnScope N_is_act ["tables", "read", "thing"] (defScope s_is_act) := ⟨rfl, rfl, rfl, by decide +kernel, rfl, by decide +kernel, by decide +kernel⟩

set_option maxHeartbeats 4000000 in
theorem ok_is_act {f : Addr} {fd : FuncData} (F : Fun K "_is_act" "_is_act" s_is_act f fd) (nb : NB mg) (D_is_tuple : Def P w K mg base 1 "is_tuple" ["thing", "least", "most"] (spTup K)) (D_table_names : Def P w K mg base 1 "table_names" ["tables"] (spNamesOf K)) (D_column_names : Def P w K mg base 2 "column_names" ["tables", "table"] (spColNames K)) (D_is_place : Def P w K mg base 4 "_is_place" ["read", "thing"] (spPl K))
    (D_is_places : Def P w K mg base 5 "_is_places" ["read", "many", "thing"] (spPls K)) : FnOk P w K mg base CX0 6 f fd ["tables", "read", "thing"] (spActs actB K) := by
  refine F.ok sc_is_act (fun vs H Q E h => ?_) (fun cdv A outer sh H vs Q E hr h => ?_)
  · obtain ⟨tp, rp, ts, rd, v, d, rfl, _⟩ := h
    rfl
  obtain ⟨tp, rp, ts, rd, v, d, rfl, hT, hR, hd, hf, hs, q⟩ := h
  have nd := sc_is_act.nd
  have q' : ∀ H', Same H H' → ∀ b, b = actB ts rd d → Q (.bl b) H' := fun H' s b e => by rw [e]; exact q H' s
  refine ⟨_, (pss_cons (ps_if (PW.pt (pw_or (pt_not (pt_val (pe_own D_is_tuple hr (pa_cons (pv 2) (pa_cons pe_int (pa_cons pe_int pa_nil)))))) (pw_or1 (pt_cmpR (op_ninN (u65 hr)) (pe_ix ix_tup (pv 2) pe_int (fun _ _ => rfl)) (pe_own D_table_names hr (pa_cons (pv 0) pa_nil)) (by rfl)))))
        (pss_one (ps_ret pe_bl))
        pss_nil)
      (pss_cons (ps_par (i := 3) (j := 4) (by rfl) nd rfl rfl (by decide) rfl rfl (pa_cons (pe_ix ix_tup (pv 2) pe_int (fun _ _ => rfl)) (pa_cons (pe_callB call_len_seq (by rfl) nb.b_len (by decide +kernel) (pa_cons (pv 2) pa_nil)) pa_nil)) (by rfl))
      (pss_cons (ps_set (i := 5) nd rfl (Or.inl rfl) (pe_own D_column_names hr (pa_cons (pv 0) (pa_cons (pe_ix ix_tup (pv 2) pe_int (fun _ _ => rfl)) pa_nil))))
      (pss_cons (ps_if (PW.pt (pw_and (pt_cmpR (op_eqD hr.units) (pv 3) pe_str (nomark _)) (pw_and1 (pt_cmpR op_eq (pv 4) pe_int (nomark _)))))
        (pss_one (ps_ret (pe_own D_is_places hr (pa_cons (pv 1) (pa_cons (pe_callB call_len_seq (by rfl) nb.b_len (by decide +kernel) (pa_cons (pv 5) pa_nil)) (pa_cons (pe_ix ix_tup (pv 2) pe_int (fun _ _ => rfl)) pa_nil))))))
        pss_nil)
      (pss_cons (ps_if (PW.pt (pw_and (pt_cmpR (op_eqD hr.units) (pv 3) pe_str (nomark _)) (pw_and1 (pt_cmpR op_eq (pv 4) pe_int (nomark _)))))
        (pss_one (ps_ret (pe_own D_is_place hr (pa_cons (pv 1) (pa_cons (pe_ix ix_tup (pv 2) pe_int (fun _ _ => rfl)) pa_nil)))))
        pss_nil)
      (pss_cons (ps_if (PW.pt (pw_and (pt_cmpR (op_inN (u65 hr)) (pv 3) (pe_tup (pa_cons pe_str (pa_cons pe_str pa_nil))) (by rfl)) (pw_and1 (pt_cmpR op_eq (pv 4) pe_int (nomark _)))))
        (pss_cons (ps_asg (pv 2) (pg_tup rfl (pgs_cons (pg_name (i := 6) nd rfl (Or.inl rfl)) (pgs_cons (pg_name (i := 6) nd rfl (Or.inl rfl)) (pgs_cons (pg_name (i := 7) nd rfl (Or.inl rfl)) (pgs_cons (pg_name (i := 8) nd rfl (Or.inl rfl)) (pgs_cons (pg_name (i := 9) nd rfl (Or.inl rfl)) pgs_nil)))))))
        (pss_one (ps_ret (pe_and (pe_cmpR (op_inN (u65 hr)) (pv 8) (pv 5) (by rfl)) (pe_and (pe_own D_is_place hr (pa_cons (pv 1) (pa_cons (pv 7) pa_nil))) (pe_one (pe_own D_is_place hr (pa_cons (pv 1) (pa_cons (pv 9) pa_nil)))))))))
        pss_nil)
      (pss_one (ps_ret pe_bl)))))))), ?_⟩
  refine ⟨v, rfl, v, d, 3, 5, rfl, hd, hf, fun H1 s1 => ⟨_, rfl, ?_⟩⟩
  cases ht : tupB 3 5 d with
  | false =>
    refine iteT (iteT (q' H1 s1 _ ?_))
    cases d with
    | tuple ds =>
      show false = (tupB 3 5 (.tuple ds) && _)
      rw [ht]; rfl
    | _ => rfl
  | true =>
  refine iteF ?_
  obtain ⟨p, xs, ds, rfl, rfl, hS, hA⟩ := isT_of hd (tupB_isT ht)
  have l := dpAll_len hA
  have lb : 3 ≤ ds.length ∧ ds.length ≤ 5 := by
    have h' : (decide ((3 : Int) ≤ (ds.length : Int)) && decide ((ds.length : Int) ≤ 5)) = true := ht
    rw [Bool.and_eq_true] at h'
    have g1 := of_decide_eq_true h'.1
    have g2 := of_decide_eq_true h'.2
    omega
  have at' : ∀ i, i < ds.length → ∃ u e, xs[i]? = some u ∧ ds[i]? = some e ∧ ds.getD i .none = e ∧ Dp K H u e ∧ Fit e ∧ SeqAt.shaped e = true := fun i hi => by
    have h1 : ds[i]? = some ds[i] := List.getElem?_eq_getElem hi
    obtain ⟨u, h2, h3⟩ := dpAll_at hA h1
    have hm := List.mem_of_getElem? h1
    exact ⟨u, _, h2, h1, getD_of h1, h3, fit_mem hf.2 hm, shaped_mem hs hm⟩
  obtain ⟨u0, e0, x0, y0, g0, d0, f0, sh0⟩ := at' 0 (by omega)
  obtain ⟨u1, e1, x1, y1, g1, d1, _, sh1⟩ := at' 1 (by omega)
  obtain ⟨u2, e2, x2, y2, g2, d2, f2, sh2⟩ := at' 2 (by omega)
  have eA : actB ts rd (.tuple ds) = (inS (tns ts) e1 && actP ts rd ds) := by
    show (tupB 3 5 (.tuple ds) && (inS (tns ts) (ds.getD 1 .none) && actP ts rd ds)) = _
    rw [ht, g1]; rfl
  -- thing[1] not in table_names(tables)
  obtain ⟨ws, hTS, hTA, lw⟩ := hT.parts
  refine ⟨.ref p, rfl, p, xs, 1, u1, rfl, rfl, sameT s1 hS, atI_nat x1, .ref tp, rfl, tp, ws, ts.map tabD, rfl, sameT s1 hTS, dpAll_same s1 hTA, by rw [List.length_map]; have := hT.l8; omega, strName_tabs ts, fun D H2 s2 eD => ?_⟩
  rw [namesOf_tabs] at eD
  have s12 := s1.trans s2
  refine ⟨e1, tns ts, D, rfl, dp_same s12 d1, sh1, .inl (.inl (.inl eD)), shaped_strs (tns_ok hT.ok), _, rfl, ?_⟩
  cases hi : inS (tns ts) e1 with
  | false => exact iteT (q' H2 s12 _ (by rw [eA, hi]; rfl))
  | true =>
  refine iteF ?_
  obtain ⟨t, rfl, htm⟩ := inS_str hi
  cases d1
  have eB : actB ts rd (.tuple ds) = actP ts rd ds := by rw [eA, hi]; rfl
  -- kind, many
  refine ⟨.ref p, rfl, p, xs, 0, u0, rfl, rfl, sameT s12 hS, atI_nat (j := 0) x0, .ref p, rfl, p, xs, rfl, .inr (sameT s12 hS), _, _, rfl, ?_⟩
  -- columns
  refine ⟨.ref tp, rfl, .ref p, rfl, p, xs, 1, .str t, rfl, rfl, sameT s12 hS, atI_nat x1, tp, ts, t, rfl, hT.same s12, htm, fun C H3 s3' eC => ?_⟩
  have s3 := s12.trans s3'
  obtain ⟨hcn, hc0, hc5, _⟩ := cns_ok hT.ok htm
  have wsh : ∀ k, NameOk k → SeqAt.shaped (.str k) = true := fun k h => shaped_str h
  have nput : NameOk "put" := signs_ok _ (by decide +kernel)
  have ndrop : NameOk "drop" := signs_ok _ (by decide +kernel)
  have hlen : ∀ n : Nat, decide (V.int (xs.length : Int) = V.int (n : Int)) = decide (ds.length = n) := fun n => by
    rw [l]
    exact decide_eq_decide.mpr ⟨fun h => by have := V.int.inj h; omega, fun h => by rw [h]⟩
  have eP : actP ts rd ds = (if (wordB "put" e0 && decide (ds.length = 3)) = true then placesB rd (cns ts t).length e2
      else if (wordB "drop" e0 && decide (ds.length = 3)) = true then placeB rd e2
      else if (inS ["set", "add"] e0 && decide (ds.length = 5)) = true then inS (cns ts t) (ds.getD 3 .none) && (placeB rd e2 && placeB rd (ds.getD 4 .none)) else false) := by
    unfold actP
    rw [g0, g1, g2]; rfl
  refine gN0 ?_
  dsimp only [List.set]
  show tSeq (tIfS _ _ _) (tSeq _ _) _ [some (.ref tp), some (.ref rp), some (.ref p), some u0, some (.int (xs.length : Int)), some (.ref C), none, none, none, none] H3
  have d03 := dp_same s3 d0
  -- put
  refine andIf (wordB "put" e0) (decide (ds.length = 3)) (fun QQ h => ⟨u0, rfl, e0, .str "put", d03, .str _, sh0, wsh _ nput, _, rfl, h⟩) (fun QQ h => ⟨.int _, rfl, rfl, _, rfl, by rw [show decide (V.int (xs.length : Int) = V.int 3) = decide (ds.length = 3) from hlen 3]; exact h⟩) (fun c1 => ?_) (fun c1 => ?_)
  · refine ⟨.ref rp, rfl, .ref C, rfl, C, _, rfl, .inl (.inl (.inl eC)), .ref p, rfl, p, xs, 2, u2, rfl, rfl, sameT s3 hS, atI_nat x2, rp, rd, (cns ts t).length, u2, e2, by rw [List.length_map]; rfl, hR.same s3, dp_same s3 d2, f2, sh2, fun H4 s4 => q' H4 (s3.trans s4) _ ?_⟩
    rw [eB, eP, if_pos c1]
  rw [c1, if_neg Bool.false_ne_true] at eP
  unfold tNext
  dsimp only
  -- drop
  refine andIf (wordB "drop" e0) (decide (ds.length = 3)) (fun QQ h => ⟨u0, rfl, e0, .str "drop", d03, .str _, sh0, wsh _ ndrop, _, rfl, h⟩) (fun QQ h => ⟨.int _, rfl, rfl, _, rfl, by rw [show decide (V.int (xs.length : Int) = V.int 3) = decide (ds.length = 3) from hlen 3]; exact h⟩) (fun c2 => ?_) (fun c2 => ?_)
  · refine ⟨.ref rp, rfl, .ref p, rfl, p, xs, 2, u2, rfl, rfl, sameT s3 hS, atI_nat x2, rp, rd, u2, e2, rfl, hR.same s3, dp_same s3 d2, f2, sh2, fun H4 s4 => q' H4 (s3.trans s4) _ ?_⟩
    rw [eB, eP, if_pos c2]
  rw [c2, if_neg Bool.false_ne_true] at eP
  dsimp only
  -- set, add
  refine ⟨u0, rfl, (by show 2 ≤ sizeLine; decide), fun pt nt => ?_⟩
  have s4' := same_upd (o := .tup [.str "set", .str "add"]) nt
  have s4 := s3.trans s4'
  refine ⟨e0, ["set", "add"], pt, rfl, dp_same s4 d0, sh0, .inr (.inl (.inl upd_same)), shaped_strs (fun z hz => signs_ok z (List.mem_append_right _ (List.mem_append_right _ (List.mem_append_right _ hz)))), _, rfl, ?_⟩
  generalize upd H3 pt (.tup [.str "set", .str "add"]) = H4 at s4' s4 ⊢
  cases h3 : inS ["set", "add"] e0 with
  | false =>
    refine iteF (iteF (q' H4 s4 _ ?_))
    rw [eB, eP, h3]; rfl
  | true =>
  refine iteT ⟨.int _, rfl, rfl, _, rfl, ?_⟩
  rw [show decide (V.int (xs.length : Int) = V.int 5) = decide (ds.length = 5) from hlen 5]
  cases h4 : decide (ds.length = 5) with
  | false =>
    refine iteF (q' H4 s4 _ ?_)
    rw [eB, eP, h3, h4]; rfl
  | true =>
  refine iteT ?_
  have l5 := of_decide_eq_true h4
  obtain ⟨u3, e3, x3, y3, g3, d3, f3, sh3⟩ := at' 3 (by omega)
  obtain ⟨u4, e4, x4, y4, g4, d4, f4, sh4⟩ := at' 4 (by omega)
  rw [h3, h4, g3, g4] at eP
  have eP2 : actP ts rd ds = (inS (cns ts t) e3 && (placeB rd e2 && placeB rd e4)) := eP
  obtain ⟨a0, a1, a2, a3, a4, exs⟩ : ∃ a0 a1 a2 a3 a4, xs = [a0, a1, a2, a3, a4] := by
    match xs, (show xs.length = 5 by omega) with
    | [a, b, c, d, e], _ => exact ⟨a, b, c, d, e, rfl⟩
  subst exs
  cases x2; cases x3; cases x4
  refine ⟨.ref p, rfl, p, _, rfl, sameT s4 hS, rfl, _, _, rfl, _, _, rfl, _, _, rfl, _, _, rfl, _, _, rfl, rfl, ?_⟩
  refine ⟨u3, rfl, .ref C, rfl, e3, cns ts t, C, rfl, dp_same s4 d3, sh3, .inl (.inl (.inl (s4' _ _ eC))), shaped_strs hcn, _, rfl, ?_⟩
  cases h5 : inS (cns ts t) e3 with
  | false => exact iteF (q' H4 s4 _ (by rw [eB, eP2, h5]; rfl))
  | true =>
    refine iteT ⟨.ref rp, rfl, u2, rfl, rp, rd, u2, e2, rfl, hR.same s4, dp_same s4 d2, f2, sh2, fun H5 s5 => ⟨_, rfl, ?_⟩⟩
    have s45 := s4.trans s5
    cases h6 : placeB rd e2 with
    | false => exact iteF (q' H5 s45 _ (by rw [eB, eP2, h5, h6]; rfl))
    | true => exact iteT ⟨.ref rp, rfl, u4, rfl, rp, rd, u4, e4, rfl, hR.same s45, dp_same s45 d4, f4, sh4, fun H6 s6 => q' H6 (s45.trans s6) _ (by rw [eB, eP2, h5, h6]; rfl)⟩
end
end TT

set_option Elab.async false
set_option linter.all false
set_option maxRecDepth 100000
namespace TT
open PySem PySem.Spec PyProof.Rows L2
theorem shaped_read {side kind : Str} {zs : List Str} (h : ∀ z ∈ zs, NameOk z) (few : zs.length ≤ 100) : SeqAt.shaped (.list (readP side kind zs)) = true := by
  have nw : ∀ z ∈ (["old", "new", "many"] : List Str), NameOk z := by
    have h : (["old", "new", "many"] : List Str).all (fun z => decide (0 < (cl z).length) && decide ((cl z).length ≤ 8) && (cl z).all fun c => decide (97 ≤ c) && decide (c ≤ 122)) = true := by decide +kernel
    intro z hz
    have h1 := List.all_eq_true.mp h z hz
    simp only [Bool.and_eq_true, decide_eq_true_eq, List.all_eq_true] at h1
    exact ⟨h1.1.1, h1.1.2, h1.2⟩
  have two : ∀ a c : Str, NameOk a → NameOk c → Nice 10 900 (.tuple [.str a, .str c]) ∧ (PyData.tuple [.str a, .str c]).depth ≤ 1 := fun a c ha hc =>
    ⟨⟨by show 2 ≤ 900; decide, (name_nice ha 10 900).1, (name_nice hc 10 900).1, trivial⟩, Nat.le_refl 1⟩
  have all : ∀ d ∈ readP side kind zs, Nice 10 900 d ∧ d.depth ≤ 1 := fun d hd => by
    unfold readP at hd
    by_cases z : side = "deed"
    · rw [if_pos z] at hd
      rw [List.mem_singleton.mp hd]
      exact ⟨⟨by show 1 ≤ 900; decide, (name_nice (nw _ (by simp)) 10 900).1, trivial⟩, Nat.le_refl 1⟩
    · rw [if_neg z] at hd
      rcases List.mem_append.mp hd with h1 | h1
      · obtain ⟨c, hc, rfl⟩ := List.mem_map.mp h1
        exact two _ _ (nw _ (by simp)) (h c (List.mem_filter.mp hc).1)
      · obtain ⟨c, hc, rfl⟩ := List.mem_map.mp h1
        exact two _ _ (nw _ (by simp)) (h c (List.mem_filter.mp hc).1)
  refine shaped_nice (B := 10) (L := 900) ⟨?_, niceAll_iff.mpr fun d hd => (all d hd).1⟩ ?_
  · have := read_len side kind zs few; omega
  · have : PyData.depthAll (readP side kind zs) ≤ 1 := depthAll_le fun d hd => (all d hd).2
    show PyData.depthAll (readP side kind zs) + 1 ≤ 60
    omega
def actsB (ts : List Tab) (rd : List PyData) (side : Str) : PyData → Bool
  | .tuple ds => if side = "ahead" then tupB 0 0 (.tuple ds) else tupB 1 3 (.tuple ds) && ds.all (actB ts rd)
  | _ => false
theorem tupB_not {lo hi : Int} {d : PyData} (h : isTB d = false) : tupB lo hi d = false := by
  cases d <;> first | rfl | cases h
def rcolB (kind : Str) (zs : List Str) (d : PyData) : Bool := isN d || (decide (kind = "set") && inS zs d)
def ruleB (ts : List Tab) : PyData → Bool
  | .tuple [r, sd, tb, kd, co, te, ac] => nameB r && (inS sides3 sd && (inS (tns ts) tb && (inS kinds3 kd && (rcolB (strOf kd) (cns ts (strOf tb)) co &&
      (testB (readP (strOf sd) (strOf kd) (cns ts (strOf tb))) (strOf sd) te && actsB ts (readP (strOf sd) (strOf kd) (cns ts (strOf tb))) (strOf sd) ac)))))
  | _ => false
section
variable {P : Program} {w : World} {K : PySem.W.Frag} {mg : Str → Option Value} {base : Heap}
def spActsS (K : PySem.W.Frag) : Sp := fun vs H Q _ => ∃ (tp rp : Addr) (ts : List Tab) (rd : List PyData) (side : Str) (v : V) (d : PyData), vs = [.ref tp, .ref rp, .str side, v] ∧ Tabs K H tp ts ∧ RdX K H rp rd ∧ Dp K H v d ∧ Fit d ∧ SeqAt.shaped d = true ∧ ∀ H', Same H H' → Q (.bl (actsB ts rd side d)) H'
abbrev s_is_acts : Stmt := topS 27
abbrev N_is_acts : List Str := ["tables", "read", "side", "thing", "part"]
theorem sc_is_acts : FnScope N_is_acts ["tables", "read", "side", "thing"] (defScope s_is_acts) := ⟨rfl, rfl, rfl, by decide +kernel, rfl, by decide +kernel, by decide +kernel⟩

set_option maxHeartbeats 4000000 in
theorem ok_is_acts {f : Addr} {fd : FuncData} (F : Fun K "_is_acts" "_is_acts" s_is_acts f fd) (nb : NB mg) (gc : GC mg) (D_is_tuple : Def P w K mg base 1 "is_tuple" ["thing", "least", "most"] (spTup K)) (D_is_act : Def P w K mg base 6 "_is_act" ["tables", "read", "thing"] (spActs actB K)) : FnOk P w K mg base CX0 7 f fd ["tables", "read", "side", "thing"] (spActsS K) := by
  refine F.ok sc_is_acts (fun vs H Q E h => ?_) (fun cdv A outer sh H vs Q E hr h => ?_)
  · obtain ⟨tp, rp, ts, rd, side, v, d, rfl, _⟩ := h
    rfl
  obtain ⟨tp, rp, ts, rd, side, v, d, rfl, hT, hR, hd, hf, hs, q⟩ := h
  have nd := sc_is_acts.nd
  have q' : ∀ H', Same H H' → ∀ b, b = actsB ts rd side d → Q (.bl b) H' := fun H' s b e => by rw [e]; exact q H' s
  refine ⟨_, (pss_cons (ps_if (pt_cmpR op_eq (pv 2) pe_str (nomark _))
        (pss_one (ps_ret (pe_own D_is_tuple hr (pa_cons (pv 3) (pa_cons pe_int (pa_cons pe_int pa_nil))))))
        pss_nil)
      (pss_cons (ps_if (pt_not (pt_val (pe_own D_is_tuple hr (pa_cons (pv 3) (pa_cons pe_int (pa_cons (pe_gint gc.MOST_ACTS) pa_nil))))))
        (pss_one (ps_ret pe_bl))
        pss_nil)
      (pss_one (ps_ret (pe_callB (cr_all rfl) (by rfl) nb.b_all (by decide +kernel) (pa_cons (pe_lc (own := [("part", 4)]) (g := (gName 4)) (tt := tYes) rfl nd (pi_tup (pv 3)) (blkOk_by (N := N_is_acts) (sc := defScope s_is_acts) (by decide +kernel)) (fun _ _ _ _ _ => (pg_name (i := 4) nd rfl (Or.inl rfl))) (fun _ _ _ _ _ => pts_nil) (fun _ _ _ _ _ => (pe_own D_is_act hr (pa_cons (pv 0) (pa_cons (pv 1) (pa_cons (pv 4) pa_nil)))))) pa_nil)))))), ?_⟩
  refine ⟨.str side, rfl, rfl, _, rfl, ite2 (fun e => ?_) (fun e => ?_)⟩
  · have e : side = "ahead" := V.str.inj (of_decide_eq_true e)
    refine ⟨v, rfl, v, d, 0, 0, rfl, hd, hf, fun H1 s1 => q' H1 s1 _ ?_⟩
    cases d with
    | tuple ds =>
      show _ = (if side = "ahead" then _ else _)
      rw [if_pos e]
    | _ => rfl
  have e : side ≠ "ahead" := fun z => e (decide_eq_true (by rw [z]))
  refine ⟨v, rfl, v, d, 1, 3, rfl, hd, hf, fun H1 s1 => ⟨_, rfl, ?_⟩⟩
  cases ht : tupB 1 3 d with
  | false =>
    refine iteT (q' H1 s1 _ ?_)
    cases d with
    | tuple ds =>
      show _ = (if side = "ahead" then _ else _)
      rw [if_neg e, ht]; rfl
    | _ => rfl
  | true =>
    refine iteF ?_
    obtain ⟨p, xs, ds, rfl, rfl, hS, hA⟩ := isT_of hd (tupB_isT ht)
    have l := dpAll_len hA
    have l9 := hf.1
    refine ⟨.ref p, rfl, p, rfl, ⟨_, sameT s1 hS⟩, fun D nD => ?_⟩
    refine lc_it walk_tup (PvM H1 D fun i => .bl (actB ts rd (ds.getD i .none))) (pvm_start ..) (fun i H2 _ hP => sameT (s1.trans (pvm_same hP nD)) hS) (fun i x H2 H3 hi hP hY => ?_) (fun H2 hP => ?_)
    · obtain ⟨rfl, hx⟩ := hY
      obtain ⟨d1, h1, h2⟩ := dpAll_get i hA hx
      have hm := List.mem_of_getElem? h1
      have sk := s1.trans (pvm_same hP nD)
      refine ⟨rfl, ?_⟩
      unfold tYes
      dsimp only
      refine iteT ?_
      refine ⟨.ref tp, rfl, .ref rp, rfl, x, rfl, tp, rp, ts, rd, x, d1, rfl, hT.same sk, hR.same sk, dp_same sk h2, fit_mem hf.2 hm, shaped_mem hs hm, fun H4 s4 => pvm_step hP s4 ?_ (by omega)⟩
      rw [getD_of h1]
    · have sm2 : Same H1 H2 := pvm_same hP nD
      refine ⟨D, (List.range xs.length).map fun i => actB ts rd (ds.getD i .none), rfl, .inl (.inl ?_), ?_⟩
      · rw [hP.1, List.map_map]; rfl
      rw [l, range_all]
      refine q' H2 (s1.trans sm2) _ ?_
      show _ = (if side = "ahead" then _ else _)
      rw [if_neg e, ht]; rfl
def spTs (R : List Tab → PyData → Bool) (K : PySem.W.Frag) : Sp := fun vs H Q _ => ∃ (tp : Addr) (ts : List Tab) (v : V) (d : PyData), vs = [.ref tp, v] ∧ Tabs K H tp ts ∧ Dp K H v d ∧ Fit d ∧ SeqAt.shaped d = true ∧ ∀ H', Same H H' → Q (.bl (R ts d)) H'
abbrev s_is_rule : Stmt := topS 23
abbrev N_is_rule : List Str := ["tables", "thing", "rule", "side", "table", "kind", "column", "test", "acts", "columns", "read"]
theorem sc_is_rule : FnScope N_is_rule ["tables", "thing"] (defScope s_is_rule) := ⟨rfl, rfl, rfl, by decide +kernel, rfl, by decide +kernel, by decide +kernel⟩

set_option maxHeartbeats 8000000 in
theorem ok_is_rule {f : Addr} {fd : FuncData} (F : Fun K "_is_rule" "_is_rule" s_is_rule f fd) (nb : NB mg) (gc : GC mg) (gt : GT K mg) (D_is_tuple : Def P w K mg base 1 "is_tuple" ["thing", "least", "most"] (spTup K)) (D_is_name : Def P w K mg base 1 "is_name" ["thing"] (spB nameB K)) (D_table_names : Def P w K mg base 1 "table_names" ["tables"] (spNamesOf K)) (D_column_names : Def P w K mg base 2 "column_names" ["tables", "table"] (spColNames K))
    (D_places_read : Def P w K mg base 1 "_places_read" ["side", "kind", "columns"] (spPlacesRead K)) (D_is_test : Def P w K mg base 5 "_is_test" ["read", "side", "thing"] (spTest K)) (D_is_acts : Def P w K mg base 7 "_is_acts" ["tables", "read", "side", "thing"] (spActsS K)) : FnOk P w K mg base CX0 8 f fd ["tables", "thing"] (spTs ruleB K) := by
  refine F.ok sc_is_rule (fun vs H Q E h => ?_) (fun cdv A outer sh H vs Q E hr h => ?_)
  · obtain ⟨tp, ts, v, d, rfl, _⟩ := h
    rfl
  obtain ⟨tp, ts, v, d, rfl, hT, hd, hf, hs, q⟩ := h
  have nd := sc_is_rule.nd
  obtain ⟨aS, mS, sS⟩ := gt.SIDES
  obtain ⟨aK, mK, sK⟩ := gt.KINDS
  have q' : ∀ H', Same H H' → ∀ b, b = ruleB ts d → Q (.bl b) H' := fun H' s b e => by rw [e]; exact q H' s
  refine ⟨_, (pss_cons (ps_if (pt_not (pt_val (pe_own D_is_tuple hr (pa_cons (pv 1) (pa_cons (pe_gint gc.RULE_PARTS) (pa_cons (pe_gint gc.RULE_PARTS) pa_nil))))))
        (pss_one (ps_ret pe_bl))
        pss_nil)
      (pss_cons (ps_asg (pv 1) (pg_tup rfl (pgs_cons (pg_name (i := 2) nd rfl (Or.inl rfl)) (pgs_cons (pg_name (i := 3) nd rfl (Or.inl rfl)) (pgs_cons (pg_name (i := 4) nd rfl (Or.inl rfl)) (pgs_cons (pg_name (i := 5) nd rfl (Or.inl rfl)) (pgs_cons (pg_name (i := 6) nd rfl (Or.inl rfl)) (pgs_cons (pg_name (i := 7) nd rfl (Or.inl rfl)) (pgs_cons (pg_name (i := 8) nd rfl (Or.inl rfl)) pgs_nil)))))))))
      (pss_cons (ps_if (PW.pt (pw_or (pt_not (pt_val (pe_own D_is_name hr (pa_cons (pv 2) pa_nil)))) (pw_or1 (pt_cmpR (op_ninN (u65 hr)) (pv 3) (pe_glob (v := .ref aS) (by rfl) mS rfl) (by rfl)))))
        (pss_one (ps_ret pe_bl))
        pss_nil)
      (pss_cons (ps_if (PW.pt (pw_or (pt_cmpR (op_ninN (u65 hr)) (pv 4) (pe_own D_table_names hr (pa_cons (pv 0) pa_nil)) (by rfl)) (pw_or1 (pt_cmpR (op_ninN (u65 hr)) (pv 5) (pe_glob (v := .ref aK) (by rfl) mK rfl) (by rfl)))))
        (pss_one (ps_ret pe_bl))
        pss_nil)
      (pss_cons (ps_set (i := 9) nd rfl (Or.inl rfl) (pe_own D_column_names hr (pa_cons (pv 0) (pa_cons (pv 4) pa_nil))))
      (pss_cons (ps_if (PW.pt (pw_and (pt_cmpR op_notN (pv 6) pe_non (nomark _)) (pw_and1 (PW.pt (pw_or (pt_cmpR op_ne (pv 5) pe_str (nomark _)) (pw_or1 (pt_cmpR (op_ninN (u65 hr)) (pv 6) (pv 9) (by rfl))))))))
        (pss_one (ps_ret pe_bl))
        pss_nil)
      (pss_cons (ps_set (i := 10) nd rfl (Or.inl rfl) (pe_own D_places_read hr (pa_cons (pv 3) (pa_cons (pv 5) (pa_cons (pv 9) pa_nil)))))
      (pss_one (ps_ret (pe_and (pe_own D_is_test hr (pa_cons (pv 10) (pa_cons (pv 3) (pa_cons (pv 7) pa_nil)))) (pe_one (pe_own D_is_acts hr (pa_cons (pv 0) (pa_cons (pv 10) (pa_cons (pv 3) (pa_cons (pv 8) pa_nil)))))))))))))))), ?_⟩
  refine ⟨v, rfl, v, d, 7, 7, rfl, hd, hf, fun H1 s1 => ⟨_, rfl, ?_⟩⟩
  cases ht : tupB 7 7 d with
  | false =>
    refine iteT (q' H1 s1 _ ?_)
    cases d with
    | tuple ds =>
      match ds, ht with
      | [], _ => rfl
      | [_], _ => rfl
      | [_, _], _ => rfl
      | [_, _, _], _ => rfl
      | [_, _, _, _], _ => rfl
      | [_, _, _, _, _], _ => rfl
      | [_, _, _, _, _, _], _ => rfl
      | [_, _, _, _, _, _, _], h => cases h
      | _ :: _ :: _ :: _ :: _ :: _ :: _ :: _ :: _, _ => rfl
    | _ => rfl
  | true =>
  refine iteF ?_
  obtain ⟨p, xs, ds, rfl, rfl, hS, hA⟩ := isT_of hd (tupB_isT ht)
  obtain ⟨r, sd, tb, kd, co, te, ac, rfl⟩ : ∃ r sd tb kd co te ac, ds = [r, sd, tb, kd, co, te, ac] := by
    match ds, tup_n (n := 7) ht with
    | [a, b, c, d, e, f, g], _ => exact ⟨a, b, c, d, e, f, g, rfl⟩
  have hm : ∀ e ∈ [r, sd, tb, kd, co, te, ac], Fit e ∧ SeqAt.shaped e = true := fun e h => ⟨fit_mem hf.2 h, shaped_mem hs h⟩
  cases hA with
  | cons dr hA =>
  cases hA with
  | cons dsd hA =>
  cases hA with
  | cons dtb hA =>
  cases hA with
  | cons dkd hA =>
  cases hA with
  | cons dco hA =>
  cases hA with
  | cons dte hA =>
  cases hA with
  | cons dac hA =>
  cases hA
  rename_i x0 x1 x2 x3 x4 x5 x6
  obtain ⟨fr, sr⟩ := hm r (by simp)
  obtain ⟨_, ssd⟩ := hm sd (by simp)
  obtain ⟨_, stb⟩ := hm tb (by simp)
  obtain ⟨_, skd⟩ := hm kd (by simp)
  obtain ⟨_, sco⟩ := hm co (by simp)
  obtain ⟨fte, ste⟩ := hm te (by simp)
  obtain ⟨fac, sac⟩ := hm ac (by simp)
  have eR : ruleB ts (.tuple [r, sd, tb, kd, co, te, ac]) = (nameB r && (inS sides3 sd && (inS (tns ts) tb && (inS kinds3 kd && (rcolB (strOf kd) (cns ts (strOf tb)) co &&
      (testB (readP (strOf sd) (strOf kd) (cns ts (strOf tb))) (strOf sd) te && actsB ts (readP (strOf sd) (strOf kd) (cns ts (strOf tb))) (strOf sd) ac)))))) := rfl
  refine ⟨.ref p, rfl, p, _, rfl, sameT s1 hS, rfl, x0, _, rfl, x1, _, rfl, x2, _, rfl, x3, _, rfl, x4, _, rfl, x5, _, rfl, x6, _, rfl, rfl, ?_⟩
  have sidesOk : ∀ z ∈ sides3, NameOk z := fun z hz => signs_ok z (List.mem_append_right _ (List.mem_append_left _ hz))
  have kindsOk : ∀ z ∈ kinds3, NameOk z := fun z hz => signs_ok z (List.mem_append_right _ (List.mem_append_right _ (List.mem_append_left _ hz)))
  -- name, side
  refine ⟨x0, rfl, x0, r, rfl, dp_same s1 dr, fr, fun H2 s2' => ⟨_, rfl, ?_⟩⟩
  have s2 := s1.trans s2'
  cases h1 : nameB r with
  | false => exact iteT (iteT (q' H2 s2 _ (by rw [eR, h1]; rfl)))
  | true =>
  refine iteF ?_
  refine ⟨x1, rfl, sd, sides3, aS, rfl, dp_same s2 dsd, ssd, .inr (sS H2), shaped_strs sidesOk, _, rfl, ?_⟩
  cases h2 : inS sides3 sd with
  | false => exact iteT (q' H2 s2 _ (by rw [eR, h1, h2]; rfl))
  | true =>
  refine iteF ?_
  obtain ⟨side, rfl, hside⟩ := inS_str h2
  cases dsd
  -- table, kind
  obtain ⟨ws, hTS, hTA, lw⟩ := hT.parts
  refine ⟨x2, rfl, .ref tp, rfl, tp, ws, ts.map tabD, rfl, sameT s2 hTS, dpAll_same s2 hTA, by rw [List.length_map]; have := hT.l8; omega, strName_tabs ts, fun D H3 s3' eD => ?_⟩
  rw [namesOf_tabs] at eD
  have s3 := s2.trans s3'
  refine ⟨tb, tns ts, D, rfl, dp_same s3 dtb, stb, .inl (.inl (.inl eD)), shaped_strs (tns_ok hT.ok), _, rfl, ?_⟩
  cases h3 : inS (tns ts) tb with
  | false => exact iteT (iteT (q' H3 s3 _ (by rw [eR, h1, h2, h3]; rfl)))
  | true =>
  refine iteF ?_
  obtain ⟨t, rfl, htm⟩ := inS_str h3
  cases dtb
  refine ⟨x3, rfl, kd, kinds3, aK, rfl, dp_same s3 dkd, skd, .inr (sK H3), shaped_strs kindsOk, _, rfl, ?_⟩
  cases h4 : inS kinds3 kd with
  | false => exact iteT (q' H3 s3 _ (by rw [eR, h1, h2, h3, h4]; rfl))
  | true =>
  refine iteF ?_
  obtain ⟨kind, rfl, hkind⟩ := inS_str h4
  cases dkd
  -- columns
  refine ⟨.ref tp, rfl, .str t, rfl, tp, ts, t, rfl, hT.same s3, htm, fun C H4 s4' eC => ?_⟩
  have s4 := s3.trans s4'
  obtain ⟨hcn, hc0, hc5, _⟩ := cns_ok hT.ok htm
  obtain ⟨zs, hzs⟩ : ∃ zs, zs = cns ts t := ⟨_, rfl⟩
  have eR2 : ruleB ts (.tuple [r, .str side, .str t, .str kind, co, te, ac]) = (rcolB kind zs co && (testB (readP side kind zs) side te && actsB ts (readP side kind zs) side ac)) := by
    rw [eR, h1, h2, h3, h4, hzs]; rfl
  rw [← hzs] at eC hcn hc0 hc5
  refine gN0 ?_
  dsimp only [List.set]
  show tSeq (tIfS _ _ _) (tSeq _ _) _ [some (.ref tp), some (.ref p), some x0, some (.str side), some (.str t), some (.str kind), some x4, some x5, some x6, some (.ref C), none] H4
  refine splitS0 (fun v H' => rcolB kind zs co = true ∧ v = .non ∧ Same H4 H') (fun _ => [some (.ref tp), some (.ref p), some x0, some (.str side), some (.str t), some (.str kind), some x4, some x5, some x6, some (.ref C), none]) (fun v H5 hP => ?_) (fun rest => ?_)
  rotate_left
  · refine ⟨x4, rfl, rfl, _, rfl, ?_⟩
    rw [isN_v (dp_same s4 dco)]
    cases hn : isN co with
    | true =>
      refine iteF ?_
      exact rest .non H4 ⟨by unfold rcolB; rw [hn]; rfl, rfl, Same.refl _⟩
    | false =>
      refine iteT ⟨.str kind, rfl, rfl, _, rfl, ?_⟩
      by_cases z : kind = "set"
      · rw [decide_eq_true (show V.str kind = V.str "set" by rw [z])]
        refine iteF ⟨x4, rfl, .ref C, rfl, co, zs, C, rfl, dp_same s4 dco, sco, .inl (.inl (.inl eC)), shaped_strs hcn, _, rfl, ?_⟩
        cases h5 : inS zs co with
        | false => exact iteT (q' H4 s4 _ (by rw [eR2]; unfold rcolB; rw [hn, h5, Bool.and_false]; rfl))
        | true => exact iteF (rest .non H4 ⟨by unfold rcolB; rw [hn, h5, decide_eq_true z]; rfl, rfl, Same.refl _⟩)
      · rw [decide_eq_false (show ¬ V.str kind = V.str "set" from fun h => z (V.str.inj h))]
        exact iteT (iteT (q' H4 s4 _ (by rw [eR2]; unfold rcolB; rw [hn, decide_eq_false z]; rfl)))
  obtain ⟨hcol, rfl, s5'⟩ := hP
  have s5 := s4.trans s5'
  have eC5 := s5' _ _ eC
  refine ⟨.str side, rfl, .str kind, rfl, .ref C, rfl, side, kind, C, zs, rfl, .inl (.inl eC5), by omega, fun rp H6 s6' dR => ?_⟩
  have s6 := s5.trans s6'
  have RX : RdX K H6 rp (readP side kind zs) := ⟨dR, shaped_read hcn (by omega)⟩
  refine ⟨.ref rp, rfl, .str side, rfl, x5, rfl, rp, _, side, x5, te, rfl, RX, dp_same s6 dte, fte, ste, fun H7 s7' => ⟨_, rfl, ?_⟩⟩
  have s7 := s6.trans s7'
  cases h6 : testB (readP side kind zs) side te with
  | false => exact iteF (q' H7 s7 _ (by rw [eR2, h6, hcol]; rfl))
  | true =>
    refine iteT ⟨.ref tp, rfl, .ref rp, rfl, .str side, rfl, x6, rfl, tp, rp, ts, _, side, x6, ac, rfl, hT.same s7, RX.same s7', dp_same s7 dac, fac, sac, fun H8 s8 => q' H8 (s7.trans s8) _ (by rw [eR2, h6, hcol]; rfl)⟩
end
end TT

set_option Elab.async false
set_option linter.all false
set_option maxRecDepth 100000
namespace TT
open PySem PySem.Spec PyProof.Rows L2
def ruleNm : PyData → Str
  | .tuple (.str z :: _) => z
  | _ => Str.empty
theorem rule_nm {ts : List Tab} {d : PyData} (h : ruleB ts d = true) : ∃ z ds, d = .tuple (.str z :: ds) ∧ ruleNm d = z := by
  cases d with
  | tuple ds =>
    match ds, h with
    | [r, sd, tb, kd, co, te, ac], h =>
      have h1 : (nameB r && _) = true := h
      rw [Bool.and_eq_true] at h1
      cases r with
      | str z => exact ⟨z, _, rfl, rfl⟩
      | _ => cases h1.1
    | [], h => cases h
    | [_], h => cases h
    | [_, _], h => cases h
    | [_, _, _], h => cases h
    | [_, _, _, _], h => cases h
    | [_, _, _, _, _], h => cases h
    | [_, _, _, _, _, _], h => cases h
    | _ :: _ :: _ :: _ :: _ :: _ :: _ :: _ :: _, h => cases h
  | _ => cases h
def rulesB (ts : List Tab) : PyData → Bool
  | .tuple ds => tupB 0 8 (.tuple ds) && (ds.all (ruleB ts) && decide ((ds.map ruleNm).Nodup))
  | _ => false
section
variable {P : Program} {w : World} {K : PySem.W.Frag} {mg : Str → Option Value} {base : Heap}
abbrev s_is_rules : Stmt := topS 22
abbrev N_is_rules : List Str := ["tables", "thing", "part"]
theorem sc_is_rules : FnScope N_is_rules ["tables", "thing"] (defScope s_is_rules) := ⟨rfl, rfl, rfl, by decide +kernel, rfl, by decide +kernel, by decide +kernel⟩

set_option maxHeartbeats 4000000 in
theorem ok_is_rules {f : Addr} {fd : FuncData} (F : Fun K "is_rules" "is_rules" s_is_rules f fd) (nb : NB mg) (gc : GC mg) (D_is_tuple : Def P w K mg base 1 "is_tuple" ["thing", "least", "most"] (spTup K)) (D_is_rule : Def P w K mg base 8 "_is_rule" ["tables", "thing"] (spTs ruleB K)) (D_are_unlike : Def P w K mg base 1 "are_unlike" ["names"] (spUnlike K)) : FnOk P w K mg base CX0 9 f fd ["tables", "thing"] (spTs rulesB K) := by
  refine F.ok sc_is_rules (fun vs H Q E h => ?_) (fun cdv A outer sh H vs Q E hr h => ?_)
  · obtain ⟨tp, ts, v, d, rfl, _⟩ := h
    rfl
  obtain ⟨tp, ts, v, d, rfl, hT, hd, hf, hs, q⟩ := h
  have nd := sc_is_rules.nd
  have q' : ∀ H', Same H H' → ∀ b, b = rulesB ts d → Q (.bl b) H' := fun H' s b e => by rw [e]; exact q H' s
  refine ⟨_, (pss_cons (ps_if (pt_not (pt_val (pe_own D_is_tuple hr (pa_cons (pv 1) (pa_cons pe_int (pa_cons (pe_gint gc.MOST_RULES) pa_nil))))))
        (pss_one (ps_ret pe_bl))
        pss_nil)
      (pss_cons (ps_if (pt_not (pt_val (pe_callB (cr_all rfl) (by rfl) nb.b_all (by decide +kernel) (pa_cons (pe_lc (own := [("part", 2)]) (g := (gName 2)) (tt := tYes) rfl nd (pi_tup (pv 1)) (blkOk_by (N := N_is_rules) (sc := defScope s_is_rules) (by decide +kernel)) (fun _ _ _ _ _ => (pg_name (i := 2) nd rfl (Or.inl rfl))) (fun _ _ _ _ _ => pts_nil) (fun _ _ _ _ _ => (pe_own D_is_rule hr (pa_cons (pv 0) (pa_cons (pv 2) pa_nil))))) pa_nil))))
        (pss_one (ps_ret pe_bl))
        pss_nil)
      (pss_one (ps_ret (pe_own D_are_unlike hr (pa_cons (pe_lc (own := [("part", 2)]) (g := (gName 2)) (tt := tYes) rfl nd (pi_tup (pv 1)) (blkOk_by (N := N_is_rules) (sc := defScope s_is_rules) (by decide +kernel)) (fun _ _ _ _ _ => (pg_name (i := 2) nd rfl (Or.inl rfl))) (fun _ _ _ _ _ => pts_nil) (fun _ _ _ _ _ => (pe_ix (r := rIx K) ix_seq (pv 2) pe_int (fun _ _ => rfl)))) pa_nil)))))), ?_⟩
  refine ⟨v, rfl, v, d, 0, 8, rfl, hd, hf, fun H1 s1 => ⟨_, rfl, ?_⟩⟩
  cases ht : tupB 0 8 d with
  | false =>
    refine iteT (q' H1 s1 _ ?_)
    cases d with
    | tuple ds =>
      show false = (tupB 0 8 (.tuple ds) && _)
      rw [ht]; rfl
    | _ => rfl
  | true =>
  refine iteF ?_
  obtain ⟨p, xs, ds, rfl, rfl, hS, hA⟩ := isT_of hd (tupB_isT ht)
  have l := dpAll_len hA
  have l9 := hf.1
  have eR : rulesB ts (.tuple ds) = (ds.all (ruleB ts) && decide ((ds.map ruleNm).Nodup)) := by
    show (tupB 0 8 (.tuple ds) && _) = _
    rw [ht]; rfl
  refine ⟨.ref p, rfl, p, rfl, ⟨_, sameT s1 hS⟩, fun D nD => ?_⟩
  refine lc_it walk_tup (PvM H1 D fun i => .bl (ruleB ts (ds.getD i .none))) (pvm_start ..) (fun i H2 _ hP => sameT (s1.trans (pvm_same hP nD)) hS) (fun i x H2 H3 hi hP hY => ?_) (fun H2 hP => ?_)
  · obtain ⟨rfl, hx⟩ := hY
    obtain ⟨d1, h1, h2⟩ := dpAll_get i hA hx
    have hm := List.mem_of_getElem? h1
    have sk := s1.trans (pvm_same hP nD)
    refine ⟨rfl, ?_⟩
    unfold tYes
    dsimp only
    refine iteT ?_
    refine ⟨.ref tp, rfl, x, rfl, tp, ts, x, d1, rfl, hT.same sk, dp_same sk h2, fit_mem hf.2 hm, shaped_mem hs hm, fun H4 s4 => pvm_step hP s4 ?_ (by omega)⟩
    rw [getD_of h1]
  have s2 := s1.trans (pvm_same hP nD)
  refine ⟨D, (List.range xs.length).map fun i => ruleB ts (ds.getD i .none), rfl, .inl (.inl ?_), _, rfl, ?_⟩
  · rw [hP.1, List.map_map]; rfl
  rw [l, range_all]
  cases ha : ds.all (ruleB ts) with
  | false => exact iteT (q' H2 s2 _ (by rw [eR, ha]; rfl))
  | true =>
  refine iteF ?_
  have hall := List.all_eq_true.mp ha
  refine ⟨.ref p, rfl, p, rfl, ⟨_, sameT s2 hS⟩, fun D2 nD2 => ?_⟩
  refine lc_it walk_tup (PvM H2 D2 fun i => .str (ruleNm (ds.getD i .none))) (pvm_start ..) (fun i H3 _ hP3 => sameT (s2.trans (pvm_same hP3 nD2)) hS) (fun i x H3 H4 hi hP3 hY => ?_) (fun H3 hP3 => ?_)
  · obtain ⟨rfl, hx⟩ := hY
    obtain ⟨d1, h1, h2⟩ := dpAll_get i hA hx
    have hm := List.mem_of_getElem? h1
    have sk := s2.trans (pvm_same hP3 nD2)
    obtain ⟨z, dr, rfl, hz⟩ := rule_nm (hall d1 hm)
    cases h2 with
    | tup a1 a2 =>
    cases a2 with
    | cons b1 b2 =>
    cases b1
    rename_i q1 vs1
    refine ⟨rfl, ?_⟩
    unfold tYes
    dsimp only
    refine iteT ?_
    refine ⟨.ref q1, rfl, .inr (.inl ⟨q1, _, 0, .str z, rfl, rfl, sameT sk a1, atI_nat (j := 0) rfl, pvm_step hP3 (Same.refl _) ?_ (by omega)⟩)⟩
    rw [getD_of h1, hz]
  have s3 := s2.trans (pvm_same hP3 nD2)
  have eD2 : H3 D2 = some (.lst ((ds.map ruleNm).map V.str)) := by
    rw [hP3.1, l]
    have e := range_map (fun d => V.str (ruleNm d)) PyData.none ds
    rw [e, List.map_map]; rfl
  refine ⟨D2, ds.map ruleNm, rfl, .inl (.inl eD2), by rw [List.length_map]; omega, fun H4 s4 => q' H4 (s3.trans s4) _ ?_⟩
  rw [eR, ha]; rfl
end
end TT

set_option Elab.async false
set_option linter.all false
set_option maxRecDepth 100000
namespace TT
open PySem PySem.Spec PyProof.Rows L2
section
variable {P : Program} {w : World} {K : PySem.W.Frag} {mg : Str → Option Value} {base : Heap}
abbrev s_law_is_name : Stmt := topS 42
abbrev N_law_is_name : List Str := ["thing"]
theorem sc_law_is_name : FnScope N_law_is_name ["thing"] (defScope s_law_is_name) := ⟨rfl, rfl, rfl, by decide +kernel, rfl, by decide +kernel, by decide +kernel⟩

theorem ok_law_is_name {f : Addr} {fd : FuncData} (F : Fun K "_law_is_name" "_law_is_name" s_law_is_name f fd) (nb : NB mg) : FnOk P w K mg base CX0 1 f fd ["thing"] (spB nameB K) := by
  refine F.ok sc_law_is_name (fun vs H Q E h => spB_len h) (fun cdv A outer sh H vs Q E hr h => ?_)
  obtain ⟨v, d, rfl, hd, hf, q⟩ := h
  have nd := sc_law_is_name.nd
  have q' : ∀ H', Same H H' → ∀ b, b = nameB d → Q (.bl b) H' := fun H' s b e => by rw [e]; exact q H' s
  refine ⟨_, (pss_one (ps_ret (pe_and (pe_callB call_isi (by rfl) nb.b_isinstance (by decide +kernel) (pa_cons (pv 0) (pa_cons (pe_bltn (v := .ty "str") (by rfl) nb.b_str (by decide +kernel) rfl) pa_nil))) (pe_and (pe_chain op_lt op_lt pe_int (pe_callB call_len_str (by rfl) nb.b_len (by decide +kernel) (pa_cons (pv 0) pa_nil)) pe_int) (pe_one (pe_cmpR op_eq (pe_bm PySem.F.plainAttrs_str PySem.F.slot_str_strip PySem.F.type_str_strip mt_stripChars (pv 0) (pa_cons pe_str pa_nil)) pe_str (nomark _))))))), ?_⟩
  refine ⟨v, rfl, v, .ty "str", _, _, _, rfl, .ty "str", dp_ty hd, kit_s d, _, rfl, ite2 (fun hs => ?_) (fun hs => ?_)⟩
  · obtain ⟨z, rfl, rfl⟩ : ∃ z, d = .str z ∧ v = .str z := by
      cases hd <;> first | exact ⟨_, rfl, rfl⟩ | cases hs
    have lz : z.length ≤ 10000 := hf
    refine ⟨.str z, rfl, z, rfl, Nat.le_trans lz (by decide), _, _, rfl, rfl, _, rfl, ite2 (fun h1 => ?_) (fun h1 => ?_)⟩
    · have h1 : (0 : Int) < z.length := of_decide_eq_true h1
      refine ⟨_, _, rfl, rfl, _, rfl, ite2 (fun h2 => ?_) (fun h2 => ?_)⟩
      · have h2 : (z.length : Int) < 9 := of_decide_eq_true h2
        refine ⟨.str z, rfl, ?_, z, abc, rfl, rfl, Nat.le_trans lz (by decide), rfl, ?_⟩
        · exact rfl
        · refine q' H (Same.refl H) _ ?_
          have e : decide (V.str (Txt.stripChars z abc) = V.str (Str.ofString "")) = (cl z).all lowB := by
            rw [← strip_name]
            exact decide_eq_decide.mpr ⟨fun q => V.str.inj q, fun q => by rw [q]⟩
          show _ = ((decide (1 ≤ z.length) && decide (z.length ≤ 8)) && (cl z).all lowB)
          rw [decide_eq_true (show 1 ≤ z.length by omega), decide_eq_true (show z.length ≤ 8 by omega)]
          exact e
      · have h2 : ¬ (z.length : Int) < 9 := fun q => h2 (decide_eq_true q)
        refine q' H (Same.refl H) _ ?_
        show _ = ((decide (1 ≤ z.length) && decide (z.length ≤ 8)) && (cl z).all lowB)
        rw [decide_eq_false (show ¬ z.length ≤ 8 by omega), Bool.and_false]; rfl
    · have h1 : ¬ (0 : Int) < z.length := fun q => h1 (decide_eq_true q)
      refine ⟨_, rfl, iteF (q' H (Same.refl H) _ ?_)⟩
      show _ = ((decide (1 ≤ z.length) && decide (z.length ≤ 8)) && (cl z).all lowB)
      rw [decide_eq_false (show ¬ 1 ≤ z.length by omega)]; rfl
  · refine q' H (Same.refl H) _ ?_
    cases d <;> first | rfl | exact absurd rfl hs
def numIn (lo hi : Int) : PyData → Bool
  | .int i => decide (lo ≤ i) && decide (i ≤ hi)
  | _ => false
def spNum (K : PySem.W.Frag) : Sp := fun vs H Q _ => ∃ (v : V) (d : PyData) (lo hi : Int), vs = [v, .int lo, .int hi] ∧ Dp K H v d ∧ Fit d ∧ ∀ H', Same H H' → Q (.bl (numIn lo hi d)) H'
abbrev s_law_is_number : Stmt := topS 41
abbrev N_law_is_number : List Str := ["thing", "least", "most"]
theorem sc_law_is_number : FnScope N_law_is_number ["thing", "least", "most"] (defScope s_law_is_number) := ⟨rfl, rfl, rfl, by decide +kernel, rfl, by decide +kernel, by decide +kernel⟩

theorem ok_law_is_number {f : Addr} {fd : FuncData} (F : Fun K "_law_is_number" "_law_is_number" s_law_is_number f fd) (nb : NB mg) : FnOk P w K mg base CX0 1 f fd ["thing", "least", "most"] (spNum K) := by
  refine F.ok sc_law_is_number (fun vs H Q E h => ?_) (fun cdv A outer sh H vs Q E hr h => ?_)
  · obtain ⟨v, d, lo, hi, rfl, _⟩ := h
    rfl
  obtain ⟨v, d, lo, hi, rfl, hd, hf, q⟩ := h
  have nd := sc_law_is_number.nd
  have q' : ∀ H', Same H H' → ∀ b, b = numIn lo hi d → Q (.bl b) H' := fun H' s b e => by rw [e]; exact q H' s
  refine ⟨_, (pss_one (ps_ret (pe_and (pe_callB call_isi (by rfl) nb.b_isinstance (by decide +kernel) (pa_cons (pv 0) (pa_cons (pe_bltn (v := .ty "int") (by rfl) nb.b_int (by decide +kernel) rfl) pa_nil))) (pe_and (pe_not (pe_callB call_isi (by rfl) nb.b_isinstance (by decide +kernel) (pa_cons (pv 0) (pa_cons (pe_bltn (v := .ty "bool") (by rfl) nb.b_bool (by decide +kernel) rfl) pa_nil)))) (pe_one (pe_chain op_le op_le (pv 1) (pv 0) (pv 2))))))), ?_⟩
  refine ⟨v, rfl, v, .ty "int", _, _, _, rfl, .ty "int", dp_ty hd, kit_i d, _, rfl, ite2 (fun h1 => ?_) (fun h1 => ?_)⟩
  · refine ⟨v, rfl, v, .ty "bool", _, _, _, rfl, .ty "bool", dp_ty hd, kit_b d, _, rfl, _, rfl, ite2 (fun h2 => ?_) (fun h2 => ?_)⟩
    · obtain ⟨i, rfl, rfl⟩ : ∃ i, d = .int i ∧ v = .int i := by
        cases hd <;> first | exact ⟨_, rfl, rfl⟩ | exact absurd h2 Bool.false_ne_true | cases h1
      refine ⟨.int lo, rfl, .int i, rfl, _, _, rfl, rfl, _, rfl, ite2 (fun h3 => ?_) (fun h3 => ?_)⟩
      · refine ⟨.int hi, rfl, _, _, rfl, rfl, q' H (Same.refl H) _ ?_⟩
        show _ = (decide (lo ≤ i) && decide (i ≤ hi))
        rw [h3]; rfl
      · refine q' H (Same.refl H) _ ?_
        show _ = (decide (lo ≤ i) && decide (i ≤ hi))
        rw [Bool.eq_false_iff.mpr h3]; rfl
    · refine q' H (Same.refl H) _ ?_
      cases d <;> simp_all [isIB, isBB, numIn]
  · refine q' H (Same.refl H) _ ?_
    cases d <;> simp_all [isIB, numIn]
theorem worth_num (d : PyData) : worthB d = (isN d || numIn (-1000000000) 1000000000 d) := by cases d <;> rfl
abbrev s_law_is_worth : Stmt := topS 43
abbrev N_law_is_worth : List Str := ["thing"]
theorem sc_law_is_worth : FnScope N_law_is_worth ["thing"] (defScope s_law_is_worth) := ⟨rfl, rfl, rfl, by decide +kernel, rfl, by decide +kernel, by decide +kernel⟩

theorem ok_law_is_worth {f : Addr} {fd : FuncData} (F : Fun K "_law_is_worth" "_law_is_worth" s_law_is_worth f fd) (D_law_is_number : Def P w K mg base 1 "_law_is_number" ["thing", "least", "most"] (spNum K)) : FnOk P w K mg base CX0 2 f fd ["thing"] (spB worthB K) := by
  refine F.ok sc_law_is_worth (fun vs H Q E h => spB_len h) (fun cdv A outer sh H vs Q E hr h => ?_)
  obtain ⟨v, d, rfl, hd, hf, q⟩ := h
  have nd := sc_law_is_worth.nd
  have q' : ∀ H', Same H H' → ∀ b, b = worthB d → Q (.bl b) H' := fun H' s b e => by rw [e]; exact q H' s
  refine ⟨_, (pss_one (ps_ret (pe_or (pe_cmpR op_isN (pv 0) pe_non (nomark _)) (pe_one (pe_own D_law_is_number hr (pa_cons (pv 0) (pa_cons (pe_un un_neg (pe_op op_pow pe_int pe_int)) (pa_cons (pe_op op_pow pe_int pe_int) pa_nil)))))))), ?_⟩
  refine ⟨v, rfl, rfl, _, rfl, ?_⟩
  rw [isN_v hd]
  refine ite2 (fun h1 => ?_) (fun h1 => ?_)
  · refine q' H (Same.refl H) _ ?_
    rw [worth_num, h1]; rfl
  · refine ⟨v, rfl, 10, 9, rfl, rfl, ⟨by decide, by decide, by decide⟩, _, rfl, 10, 9, rfl, rfl, ⟨by decide, by decide, by decide⟩, v, d, -(10 ^ (9 : Int).toNat), 10 ^ (9 : Int).toNat, rfl, hd, hf, fun H1 s1 => q' H1 s1 _ ?_⟩
    rw [worth_num, Bool.eq_false_iff.mpr h1]
    rfl
end
end TT

set_option Elab.async false
set_option linter.all false
set_option maxRecDepth 100000
namespace TT
open PySem PySem.Spec PyProof.Rows L2
/-! ### names of tables, with their columns, as a dict -/
theorem putK_new {kvs : List (Key × V)} {k : Key} {v : V} (h : k ∉ kvs.map (·.1)) : putK kvs k v = kvs ++ [(k, v)] := by
  unfold putK
  rw [if_neg]
  rw [List.any_eq_true]
  rintro ⟨x, hx, e⟩
  exact h (List.mem_map.mpr ⟨x, hx, of_decide_eq_true e⟩)
theorem mergeK_new : ∀ {more kvs : List (Key × V)}, ((kvs ++ more).map (·.1)).Nodup → mergeK kvs more = kvs ++ more
  | [], kvs, _ => (List.append_nil kvs).symm
  | p :: r, kvs, h => by
    show mergeK (putK kvs p.1 p.2) r = _
    have h0 : ((kvs ++ [p] ++ r).map (·.1)).Nodup := by rw [List.append_assoc]; exact h
    have h1 : p.1 ∉ kvs.map (·.1) := fun z => by
      rw [List.map_append, List.map_cons] at h
      exact (List.nodup_append.mp h).2.2 _ z _ (List.mem_cons_self ..) rfl
    rw [putK_new h1, mergeK_new h0, List.append_assoc]; rfl
theorem yesI {σ : L2.St} {H : Hp} {k : Bool → Hp → Prop} (h : k true H) : tYes σ H k := h
structure NamedAt (H : Hp) (D p c : Addr) (t : Tab) : Prop where
  tp : H p = some (.tup [.str t.1, .ref c])
  lc : H c = some (.lst ((t.2.map (·.1)).map V.str))
  np : p ≠ D
  nc : c ≠ D
theorem NamedAt.kept {H H' : Hp} {D p c : Addr} {t : Tab} (h : NamedAt H D p c t) (k : Kept [D] H H') : NamedAt H' D p c t := ⟨k.at h.tp (by simp [h.np]), k.at h.lc (by simp [h.nc]), h.np, h.nc⟩
section
variable {P : Program} {w : World} {K : PySem.W.Frag} {mg : Str → Option Value} {base : Heap}
def spNamed (K : PySem.W.Frag) : Sp := fun vs H Q _ => ∃ (tp : Addr) (ts : List Tab), vs = [.ref tp] ∧ Tabs K H tp ts ∧ ∀ (D : Addr) (pcs : List (Addr × Addr)) (H' : Hp), Same H H' → H' D = some (.lst (pcs.map fun x => V.ref x.1)) → pcs.length = ts.length →
  (∀ (j : Nat) (x : Addr × Addr) (t : Tab), pcs[j]? = some x → ts[j]? = some t → NamedAt H' D x.1 x.2 t) → Q (.ref D) H'
abbrev s_law_named : Stmt := topS 44
abbrev N_law_named : List Str := ["tables", "name", "columns", "column", "fallback"]
theorem sc_law_named : FnScope N_law_named ["tables"] (defScope s_law_named) := ⟨rfl, rfl, rfl, by decide +kernel, rfl, by decide +kernel, by decide +kernel⟩

set_option maxHeartbeats 4000000 in
theorem ok_law_named {f : Addr} {fd : FuncData} (F : Fun K "_law_named" "_law_named" s_law_named f fd) : FnOk P w K mg base CX0 1 f fd ["tables"] (spNamed K) := by
  refine F.ok sc_law_named (fun vs H Q E h => ?_) (fun cdv A outer sh H vs Q E hr h => ?_)
  · obtain ⟨tp, ts, rfl, _⟩ := h
    rfl
  obtain ⟨tp, ts, rfl, hT, q⟩ := h
  have nd := sc_law_named.nd
  refine ⟨_, (pss_one (ps_ret (pe_lc (te := tTup (tCons (tVar 1) (tCons (tLc (iTup K (tVar 2)) (gTup K 2 (gCons (gName 3) (gCons (gName 4) gNil))) tYes (tVar 3) [3, 4]) tNil))) (own := [("name", 1), ("columns", 2)]) (g := (gTup _ 2 (gCons (gName 1) (gCons (gName 2) gNil)))) (tt := tYes) rfl nd (pi_tup (pv 0)) (blkOk_by (N := N_law_named) (sc := defScope s_law_named) (by decide +kernel)) (fun _ _ _ _ _ => (pg_tup rfl (pgs_cons (pg_name (i := 1) nd rfl (Or.inl rfl)) (pgs_cons (pg_name (i := 2) nd rfl (Or.inl rfl)) pgs_nil)))) (fun _ _ _ _ _ => pts_nil) (fun _ _ _ _ _ => (pe_tup (pa_cons (pv 1) (pa_cons (pe_lc (own := [("column", 3), ("fallback", 4)]) (g := (gTup _ 2 (gCons (gName 3) (gCons (gName 4) gNil)))) (tt := tYes) rfl nd (pi_tup (pv 2)) (blkOk_by (N := N_law_named) (sc := relS { kind := ScopeKind.function, names := [(".0", NameKind.local), ("name", NameKind.local), ("columns", NameKind.local)], isGenerator := false, isCoroutine := false } (defScope s_law_named)) (by decide +kernel)) (fun _ _ _ _ _ => (pg_tup rfl (pgs_cons (pg_name (i := 3) nd rfl (Or.inl rfl)) (pgs_cons (pg_name (i := 4) nd rfl (Or.inl rfl)) pgs_nil)))) (fun _ _ _ _ _ => pts_nil) (fun _ _ _ _ _ => (pv 3))) pa_nil))))))), ?_⟩
  obtain ⟨ws, hTS, hTA, lw⟩ := hT.parts
  have l8 := hT.l8
  refine ⟨.ref tp, rfl, tp, rfl, ⟨_, hTS⟩, fun D nD => ?_⟩
  refine lc_it (walk_tup (xs := ws)) (fun i H' => (∃ pcs : List (Addr × Addr), H' D = some (.lst (pcs.map fun x => V.ref x.1)) ∧ pcs.length = i ∧ ∀ (j : Nat) (x : Addr × Addr) (t : Tab), pcs[j]? = some x → ts[j]? = some t → NamedAt H' D x.1 x.2 t) ∧ Kept [D] H H') ⟨⟨[], upd_same, rfl, fun j x t h => (nomatch h)⟩, Kept.upd_new nD⟩ (fun i H' _ hP => sameT (keptS0 hP.2 nD) hTS) (fun i x H' H'' hi hP hY => ?_) (fun H2 hP => ?_)
  · obtain ⟨rfl, hx⟩ := hY
    obtain ⟨⟨pcs, eD, lp, hn⟩, kk⟩ := hP
    obtain ⟨tb, qq, pc, ys, htb, rfl, h1, h2, h3⟩ := tab_at hTA hx
    have s0 := keptS0 kk nD
    have lys : ys.length = tb.2.length := by rw [dpAll_len h3, List.length_map]
    have l5 : tb.2.length ≤ 5 := (hT.ok.cs tb (List.mem_of_getElem? htb)).1.top
    refine ⟨qq, _, rfl, sameT s0 h1, rfl, .str tb.1, _, rfl, .ref pc, _, rfl, rfl, rfl, yesI ?_⟩
    refine iteT ?_
    refine ⟨.str tb.1, rfl, .ref pc, rfl, pc, rfl, ⟨_, sameT s0 h2⟩, fun D2 nD2 => ?_⟩
    have nDD : D ≠ D2 := ne_of_none eD nD2
    refine lc_it (walk_tup (xs := ys)) (PvM H'' D2 fun k => .str (tb.2.getD k (Str.empty, none)).1) (pvm_start ..) (fun k H3 _ hP3 => sameT (s0.trans (pvm_same hP3 nD2)) h2) (fun k y H3 H4 hk hP3 hY3 => ?_) (fun H3 hP3 => ?_)
    · obtain ⟨rfl, hy⟩ := hY3
      obtain ⟨dc, y1, y2⟩ := dpAll_get k h3 hy
      rw [List.getElem?_map] at y1
      obtain ⟨c, hc, rfl⟩ := Option.map_eq_some_iff.mp y1
      cases y2 with
      | tup a1 a2 =>
      cases a2 with
      | cons b1 b2 =>
      cases b2 with
      | cons c1 c2 =>
      cases c2; cases b1
      rename_i cp vw
      have s3 := s0.trans (pvm_same hP3 nD2)
      refine ⟨cp, _, rfl, sameT s3 a1, rfl, .str c.1, _, rfl, vw, _, rfl, rfl, rfl, yesI ?_⟩
      refine iteT ?_
      refine ⟨_, rfl, pvm_step hP3 (Same.refl _) ?_ (by omega)⟩
      rw [getD_of hc]
    · have s3 := pvm_same hP3 nD2
      have e2 : H3 D2 = some (.lst ((tb.2.map (·.1)).map V.str)) := by
        rw [hP3.1, lys]
        have e := range_map (fun c : Col => V.str c.1) (Str.empty, none) tb.2
        rw [e, List.map_map]; rfl
      refine ⟨(by show 2 ≤ sizeLine; decide), fun t nt => ?_⟩
      have st := same_upd (o := .tup [.str tb.1, .ref D2]) nt
      have s4 := s3.trans st
      have eD3 := s4 _ _ eD
      have nDt : D ≠ t := ne_of_none (s3 _ _ eD) nt
      refine ⟨_, eD3, small1000 (by rw [List.length_map, lp]; omega), ⟨pcs ++ [(t, D2)], ?_, by rw [List.length_append, lp]; rfl, fun j x t' hj ht' => ?_⟩, kk.trans ((Kept.of_same s4).trans (Kept.upd_in (List.mem_cons_self ..)))⟩
      · rw [upd_same, List.map_append]; rfl
      · have kf : Kept [D] H'' (upd (upd H3 t (.tup [.str tb.1, .ref D2])) D (.lst ((pcs.map fun x => V.ref x.1) ++ [.ref t]))) := (Kept.of_same s4).trans (Kept.upd_in (List.mem_cons_self ..))
        by_cases z : j < pcs.length
        · rw [List.getElem?_append_left z] at hj
          exact (hn j x t' hj ht').kept kf
        · have hj2 : j = pcs.length := by
            have := (List.getElem?_eq_some_iff.mp hj).1
            rw [List.length_append] at this
            have : j < pcs.length + 1 := this
            omega
          subst hj2
          rw [List.getElem?_append_right (Nat.le_refl _), Nat.sub_self] at hj
          cases hj
          rw [lp, htb] at ht'
          cases ht'
          refine ⟨?_, ?_, nDt.symm, nDD.symm⟩
          · rw [upd_ne nDt.symm, upd_same]
          · rw [upd_ne nDD.symm]; exact st _ _ e2
  · obtain ⟨⟨pcs, eD, lp, hn⟩, kk⟩ := hP
    exact q D pcs H2 (keptS0 kk nD) eD (by rw [lp, lw]) hn
end
end TT

set_option Elab.async false
set_option linter.all false
set_option maxRecDepth 100000
namespace TT
open PySem PySem.Spec PyProof.Rows L2
/-! ### the law's own places -/
theorem eqvAll_strs : ∀ {a : List Str} {ds : List PyData}, PyData.eqvAll (a.map PyData.str) ds = true → ds = a.map PyData.str
  | [], [], _ => rfl
  | [], _ :: _, h => by cases h
  | _ :: _, [], h => by cases h
  | z :: a, d :: ds, h => by
    have h1 : (PyData.eqv (.str z) d && PyData.eqvAll (a.map PyData.str) ds) = true := h
    rw [Bool.and_eq_true] at h1
    obtain ⟨h2, h3⟩ := h1
    rw [eqvAll_strs h3]
    cases d with
    | str y =>
      have h4 : (z == y) = true := h2
      rw [eq_of_beq h4]; rfl
    | _ => cases h2
theorem eqvAll_self : ∀ a : List Str, PyData.eqvAll (a.map PyData.str) (a.map PyData.str) = true
  | [] => rfl
  | z :: a => by
    show ((z == z) && PyData.eqvAll (a.map PyData.str) (a.map PyData.str)) = true
    rw [eqvAll_self a]; simp
def tupS (a : List Str) : PyData := .tuple (a.map PyData.str)
theorem eqv_tupS {a : List Str} {d : PyData} : PyData.eqv (tupS a) d = true ↔ d = tupS a := by
  constructor
  · intro h
    cases d with
    | tuple ds =>
      have h1 : PyData.eqvAll (a.map PyData.str) ds = true := h
      rw [eqvAll_strs h1]; rfl
    | _ => cases h
  · rintro rfl
    exact eqvAll_self a
theorem tupS_inj {a b : List Str} (h : tupS a = tupS b) : a = b := by
  have h1 : a.map PyData.str = b.map PyData.str := PyData.tuple.inj h
  have h2 := congrArg (List.map strOf) h1
  rw [List.map_map, List.map_map] at h2
  have e : (strOf ∘ PyData.str) = id := rfl
  rw [e, List.map_id, List.map_id] at h2
  exact h2
/-- what may be read from, by its texts -/
def readS (side kind : Str) (zs : List Str) : List (List Str) :=
  if side = "deed" then [["many"]] else ((zs.filter fun _ => decide (kind ≠ "put")).map fun c => (["old", c] : List Str)) ++ ((zs.filter fun _ => decide (kind ≠ "drop")).map fun c => (["new", c] : List Str))
theorem read_S (side kind : Str) (zs : List Str) : readP side kind zs = (readS side kind zs).map tupS := by
  unfold readP readS
  by_cases z : side = "deed"
  · rw [if_pos z, if_pos z]; rfl
  · rw [if_neg z, if_neg z, List.map_append, List.map_map, List.map_map]; rfl
theorem any_read {side kind : Str} {zs : List Str} {d : PyData} : ((readP side kind zs).any fun z => PyData.eqv z d) = true ↔ ∃ a ∈ readS side kind zs, d = tupS a := by
  rw [read_S, List.any_map, List.any_eq_true]
  exact ⟨fun ⟨a, ha, e⟩ => ⟨a, ha, eqv_tupS.mp e⟩, fun ⟨a, ha, e⟩ => ⟨a, ha, eqv_tupS.mpr e⟩⟩
theorem read_deed {kind : Str} {zs : List Str} {d : PyData} : (∃ a ∈ readS "deed" kind zs, d = tupS a) ↔ d = tupS ["many"] := by
  unfold readS
  rw [if_pos rfl]
  exact ⟨fun ⟨a, ha, e⟩ => by rw [List.mem_singleton.mp ha] at e; exact e, fun e => ⟨_, List.mem_singleton.mpr rfl, e⟩⟩
theorem read_else {side kind : Str} {zs : List Str} {b : List Str} (hs : side ≠ "deed") : (∃ a ∈ readS side kind zs, tupS b = tupS a) ↔ ∃ t c, b = [t, c] ∧ c ∈ zs ∧ ((t = "old" ∧ kind ≠ "put") ∨ (t = "new" ∧ kind ≠ "drop")) := by
  unfold readS
  rw [if_neg hs]
  constructor
  · rintro ⟨a, ha, e⟩
    rw [tupS_inj e]
    rcases List.mem_append.mp ha with h | h
    · obtain ⟨c, hc, rfl⟩ := List.mem_map.mp h
      obtain ⟨h1, h2⟩ := List.mem_filter.mp hc
      exact ⟨_, c, rfl, h1, .inl ⟨rfl, of_decide_eq_true h2⟩⟩
    · obtain ⟨c, hc, rfl⟩ := List.mem_map.mp h
      obtain ⟨h1, h2⟩ := List.mem_filter.mp hc
      exact ⟨_, c, rfl, h1, .inr ⟨rfl, of_decide_eq_true h2⟩⟩
  · rintro ⟨t, c, rfl, hc, h⟩
    refine ⟨_, ?_, rfl⟩
    rcases h with ⟨rfl, hk⟩ | ⟨rfl, hk⟩
    · exact List.mem_append_left _ (List.mem_map.mpr ⟨c, List.mem_filter.mpr ⟨hc, by exact decide_eq_true hk⟩, rfl⟩)
    · exact List.mem_append_right _ (List.mem_map.mpr ⟨c, List.mem_filter.mpr ⟨hc, by exact decide_eq_true hk⟩, rfl⟩)
theorem strs_of : ∀ {ds : List PyData}, ds.all isSB = true → ∃ b : List Str, ds = b.map PyData.str
  | [], _ => ⟨[], rfl⟩
  | d :: ds, h => by
    rw [List.all_cons, Bool.and_eq_true] at h
    obtain ⟨b, rfl⟩ := strs_of h.2
    cases d with
    | str z => exact ⟨z :: b, rfl⟩
    | _ => cases h.1
theorem all_strs (b : List Str) : (b.map PyData.str).all isSB = true := List.all_eq_true.mpr fun d hd => by
  obtain ⟨z, _, rfl⟩ := List.mem_map.mp hd
  rfl
def telB (kind : Str) : List Str := if kind = "put" then ["new"] else if kind = "drop" then ["old"] else ["old", "new"]
theorem tel_ok {kind t : Str} (hk : kind ∈ kinds3) : t ∈ telB kind ↔ ((t = "old" ∧ kind ≠ "put") ∨ (t = "new" ∧ kind ≠ "drop")) := by
  unfold kinds3 at hk
  simp only [List.mem_cons, List.not_mem_nil, or_false] at hk
  unfold telB
  rcases hk with rfl | rfl | rfl
  · rw [if_pos rfl, List.mem_singleton]
    exact ⟨fun h => .inr ⟨h, by decide⟩, fun h => h.elim (fun h => absurd rfl h.2) fun h => h.1⟩
  · rw [if_neg (by decide), if_pos rfl, List.mem_singleton]
    exact ⟨fun h => .inl ⟨h, by decide⟩, fun h => h.elim (fun h => h.1) fun h => absurd rfl h.2⟩
  · rw [if_neg (by decide), if_neg (by decide)]
    simp only [List.mem_cons, List.not_mem_nil, or_false]
    exact ⟨fun h => h.imp (fun h => ⟨h, by decide⟩) fun h => ⟨h, by decide⟩, fun h => h.imp (fun h => h.1) fun h => h.1⟩
end TT

set_option Elab.async false
set_option linter.all false
set_option maxRecDepth 100000
namespace TT
open PySem PySem.Spec PyProof.Rows L2
structure ND (mg : Str → Option Value) : Prop where
  b_dict : mg "dict" = none
def namedKV (ts : List Tab) (pcs : List (Addr × Addr)) : List (Key × V) := (ts.zip pcs).map fun y => ((Sum.inr y.1.1 : Key), V.ref y.2.2)
theorem named_pairs {K : PySem.W.Frag} {H : Hp} {D : Addr} : ∀ {ts : List Tab} {pcs : List (Addr × Addr)}, pcs.length = ts.length → (∀ (j : Nat) (x : Addr × Addr) (t : Tab), pcs[j]? = some x → ts[j]? = some t → NamedAt H D x.1 x.2 t) →
    Paired (fun (p : Addr) (kv : Key × V) => SqT K H p [kV kv.1, kv.2]) (pcs.map (·.1)) (namedKV ts pcs)
  | [], [], _, _ => .nil
  | t :: ts, x :: pcs, l, h => .cons (.inl (.inl (h 0 x t rfl rfl).tp)) (named_pairs (by simpa using l) fun j y u hj hu => h (j + 1) y u hj hu)
  | [], _ :: _, l, _ => by cases l
  | _ :: _, [], l, _ => by cases l
theorem named_keys : ∀ {ts : List Tab} {pcs : List (Addr × Addr)}, pcs.length = ts.length → (namedKV ts pcs).map (·.1) = (tns ts).map Sum.inr
  | [], [], _ => rfl
  | t :: ts, x :: pcs, l => by
    show Sum.inr t.1 :: (namedKV ts pcs).map (·.1) = Sum.inr t.1 :: (tns ts).map Sum.inr
    rw [named_keys (by simpa using l)]
  | [], _ :: _, l => by cases l
  | _ :: _, [], l => by cases l
/-- names of tables, their columns', as they lie in a dict -/
structure NamedD (H : Hp) (Dd : Addr) (ts : List Tab) : Prop where
  ex : ∃ kvs : List (Key × V), H Dd = some (.dK kvs) ∧ (∀ t ∈ tns ts, ∃ c, valV kvs (Sum.inr t) = some (.ref c) ∧ H c = some (.lst ((cns ts t).map V.str))) ∧ ∀ t, t ∉ tns ts → valV kvs (Sum.inr t) = none
theorem NamedD.same {H H' : Hp} {Dd : Addr} {ts : List Tab} (h : NamedD H Dd ts) (s : Same H H') : NamedD H' Dd ts := by
  obtain ⟨kvs, h1, h2, h3⟩ := h.ex
  exact ⟨kvs, s _ _ h1, fun t ht => let ⟨c, a, b⟩ := h2 t ht; ⟨c, a, s _ _ b⟩, h3⟩
theorem named_d {H : Hp} {D Dd : Addr} {ts : List Tab} {pcs : List (Addr × Addr)} (nd : (tns ts).Nodup) (l : pcs.length = ts.length) (h : ∀ (j : Nat) (x : Addr × Addr) (t : Tab), pcs[j]? = some x → ts[j]? = some t → NamedAt H D x.1 x.2 t) (nD : H Dd = none) :
    NamedD (upd H Dd (.dK (mergeK [] (namedKV ts pcs)))) Dd ts := by
  have ek := named_keys l
  have em : mergeK [] (namedKV ts pcs) = namedKV ts pcs := mergeK_new (by
    rw [List.nil_append, ek]
    exact nd.map _ fun a b h e => h (Sum.inr.inj e))
  rw [em]
  refine ⟨namedKV ts pcs, upd_same, fun t ht => ?_, fun t ht => ?_⟩
  · have hs : ((namedKV ts pcs).find? fun kv => decide (kv.1 = Sum.inr t)).isSome = true := by
      rw [List.find?_isSome]
      have h1 : (Sum.inr t : Key) ∈ (namedKV ts pcs).map (·.1) := by rw [ek]; exact List.mem_map.mpr ⟨t, ht, rfl⟩
      obtain ⟨kv, h2, h3⟩ := List.mem_map.mp h1
      exact ⟨kv, h2, decide_eq_true h3⟩
    obtain ⟨kv, hkv⟩ := Option.isSome_iff_exists.mp hs
    have k1 : kv.1 = Sum.inr t := by
      have h9 := List.find?_some hkv
      exact of_decide_eq_true h9
    obtain ⟨y, hy, ey⟩ := List.mem_map.mp (List.mem_of_find?_eq_some hkv)
    obtain ⟨j, hj⟩ := List.getElem?_of_mem hy
    rw [List.getElem?_zip_eq_some] at hj
    have na := h j y.2 y.1 hj.2 hj.1
    refine ⟨y.2.2, ?_, ?_⟩
    · unfold valV
      rw [hkv, ← ey]; rfl
    · have e1 : y.1.1 = t := by
        rw [← ey] at k1
        exact Sum.inr.inj k1
      rw [upd_ne (fun z => by rw [← z] at nD; rw [na.lc] at nD; cases nD), na.lc]
      congr 2
      show _ = ((colsOf ts t).map _).map _
      rw [← e1, colsOf_mem nd (List.mem_of_getElem? hj.1)]
  · unfold valV
    have : ((namedKV ts pcs).find? fun kv => decide (kv.1 = Sum.inr t)) = none := List.find?_eq_none.mpr fun kv hkv e => ht (by
      have h1 : (Sum.inr t : Key) ∈ (namedKV ts pcs).map (·.1) := List.mem_map.mpr ⟨kv, hkv, of_decide_eq_true e⟩
      rw [ek] at h1
      obtain ⟨t', ht', e'⟩ := List.mem_map.mp h1
      rw [← Sum.inr.inj e']; exact ht')
    rw [this]; rfl
end TT

set_option Elab.async false
set_option linter.all false
set_option maxRecDepth 100000
namespace TT
open PySem PySem.Spec PyProof.Rows L2
/-- the rule's tuple, as the law reads its head -/
structure LHead (K : PySem.W.Frag) (H : Hp) (hp : Addr) (ts : List Tab) (side t kind : Str) : Prop where
  ex : ∃ xs : List V, SqT K H hp xs ∧ xs[1]? = some (.str side) ∧ xs[2]? = some (.str t) ∧ xs[3]? = some (.str kind)
  t : t ∈ tns ts
  k3 : kind ∈ kinds3
theorem LHead.same {K : PySem.W.Frag} {H H' : Hp} {hp : Addr} {ts : List Tab} {side t kind : Str} (h : LHead K H hp ts side t kind) (s : Same H H') : LHead K H' hp ts side t kind := ⟨let ⟨xs, a, b, c, d⟩ := h.ex; ⟨xs, sameT s a, b, c, d⟩, h.t, h.k3⟩
theorem tel_names (kind : Str) : ∀ z ∈ telB kind, NameOk z := by
  have h : (["old", "new"] : List Str).all (fun z => decide (0 < (cl z).length) && decide ((cl z).length ≤ 8) && (cl z).all fun c => decide (97 ≤ c) && decide (c ≤ 122)) = true := by decide +kernel
  intro z hz
  have hz2 : z ∈ (["old", "new"] : List Str) := by
    unfold telB at hz
    by_cases a : kind = "put"
    · rw [if_pos a] at hz; rw [List.mem_singleton.mp hz]; simp
    · rw [if_neg a] at hz
      by_cases b : kind = "drop"
      · rw [if_pos b] at hz; rw [List.mem_singleton.mp hz]; simp
      · rw [if_neg b] at hz; exact hz
  have h1 := List.all_eq_true.mp h z hz2
  simp only [Bool.and_eq_true, decide_eq_true_eq, List.all_eq_true] at h1
  exact ⟨h1.1.1, h1.1.2, h1.2⟩
section
variable {P : Program} {w : World} {K : PySem.W.Frag} {mg : Str → Option Value} {base : Heap}
def spLPlace (K : PySem.W.Frag) : Sp := fun vs H Q _ => ∃ (tp hp : Addr) (ts : List Tab) (side t kind : Str) (v : V) (d : PyData), vs = [.ref tp, .ref hp, v] ∧ Tabs K H tp ts ∧ LHead K H hp ts side t kind ∧ Dp K H v d ∧ Fit d ∧ SeqAt.shaped d = true ∧ ∀ H', Same H H' → Q (.bl (placeB (readP side kind (cns ts t)) d)) H'
abbrev s_law_is_place : Stmt := topS 45
abbrev N_law_is_place : List Str := ["tables", "head", "thing", "tellers", "one"]
theorem sc_law_is_place : FnScope N_law_is_place ["tables", "head", "thing"] (defScope s_law_is_place) := ⟨rfl, rfl, rfl, by decide +kernel, rfl, by decide +kernel, by decide +kernel⟩

set_option maxHeartbeats 8000000 in
theorem ok_law_is_place {f : Addr} {fd : FuncData} (F : Fun K "_law_is_place" "_law_is_place" s_law_is_place f fd) (nb : NB mg) (nx : ND mg) (D_law_is_worth : Def P w K mg base 2 "_law_is_worth" ["thing"] (spB worthB K)) (D_law_named : Def P w K mg base 1 "_law_named" ["tables"] (spNamed K)) : FnOk P w K mg base CX0 3 f fd ["tables", "head", "thing"] (spLPlace K) := by
  refine F.ok sc_law_is_place (fun vs H Q E h => ?_) (fun cdv A outer sh H vs Q E hr h => ?_)
  · obtain ⟨tp, hp, ts, side, t, kind, v, d, rfl, _⟩ := h
    rfl
  obtain ⟨tp, hp, ts, side, t, kind, v, d, rfl, hT, hH, hd, hf, hs, q⟩ := h
  have nd := sc_law_is_place.nd
  have hu := hu_of hr
  have q' : ∀ H', Same H H' → ∀ b, b = placeB (readP side kind (cns ts t)) d → Q (.bl b) H' := fun H' s b e => by rw [e]; exact q H' s
  refine ⟨_, (pss_cons (ps_if (pt_val (pe_own D_law_is_worth hr (pa_cons (pv 2) pa_nil)))
        (pss_one (ps_ret pe_bl))
        pss_nil)
      (pss_cons (ps_if (PW.pt (pw_or (pt_not (pt_val (pe_callB call_isi (by rfl) nb.b_isinstance (by decide +kernel) (pa_cons (pv 2) (pa_cons (pe_bltn (v := .ty "tuple") (by rfl) nb.b_tuple (by decide +kernel) rfl) pa_nil))))) (pw_or1 (pt_not (pt_val (pe_callB (cr_all rfl) (by rfl) nb.b_all (by decide +kernel) (pa_cons (pe_lc (own := [("one", 4)]) (g := (gName 4)) (tt := tYes) rfl nd (pi_tup (pv 2)) (blkOk_by (N := N_law_is_place) (sc := defScope s_law_is_place) (by decide +kernel)) (fun _ _ _ _ _ => (pg_name (i := 4) nd rfl (Or.inl rfl))) (fun _ _ _ _ _ => pts_nil) (fun _ _ _ _ _ => (pe_callB (id := "isinstance") (r := rIsi K) call_isi (by rfl) nb.b_isinstance (by decide +kernel) (pa_cons (pv 4) (pa_cons (pe_bltn (v := .ty "str") (by rfl) nb.b_str (by decide +kernel) rfl) pa_nil))))) pa_nil)))))))
        (pss_one (ps_ret pe_bl))
        pss_nil)
      (pss_cons (ps_if (pt_cmpR op_eq (pe_ix ix_tup (pv 1) pe_int (fun _ _ => rfl)) pe_str (nomark _))
        (pss_one (ps_ret (pe_cmpR (op_eqD hr.units) (pv 2) (pe_tup (pa_cons pe_str pa_nil)) (nomark _))))
        pss_nil)
      (pss_cons (ps_set (i := 3) nd rfl (Or.inl rfl) (pe_dget hu (pe_disp (pps_cons pe_str (pe_lst (pa_cons pe_str pa_nil)) (pps_cons pe_str (pe_lst (pa_cons pe_str pa_nil)) (pps_cons pe_str (pe_lst (pa_cons pe_str (pa_cons pe_str pa_nil))) pps_nil))) (by rfl) (by rfl) (fun z => by cases z) (by decide)) (pe_ix ix_tup (pv 1) pe_int (fun _ _ => rfl)) (fun _ _ => rfl)))
      (pss_one (ps_ret (pe_and (pe_cmpR op_eq (pe_callB call_len_seq (by rfl) nb.b_len (by decide +kernel) (pa_cons (pv 2) pa_nil)) pe_int (nomark _)) (pe_and (pe_cmpR (op_inN (u65 hr)) (pe_ix ix_tup (pv 2) pe_int (fun _ _ => rfl)) (pv 3) (by rfl)) (pe_one (pe_cmpR (op_inN (u65 hr)) (pe_ix ix_tup (pv 2) pe_int (fun _ _ => rfl)) (pe_dget hu (pe_callTy (call_dictP rfl) (by rfl) nx.b_dict (by decide +kernel) (pa_cons (pe_own D_law_named hr (pa_cons (pv 0) pa_nil)) pa_nil)) (pe_ix ix_tup (pv 1) pe_int (fun _ _ => rfl)) (fun _ _ => rfl)) (by rfl))))))))))), ?_⟩
  refine ⟨v, rfl, v, d, rfl, hd, hf, fun H1 s1 => ⟨_, rfl, ite2 (fun hw => ?_) (fun hw => ?_)⟩⟩
  · refine q' H1 s1 _ ?_
    unfold placeB; rw [hw]; rfl
  have hw := Bool.eq_false_iff.mpr hw
  have eP : placeB (readP side kind (cns ts t)) d = (readP side kind (cns ts t)).any fun z => PyData.eqv z d := by unfold placeB; rw [hw]; rfl
  have none : (∀ a ∈ readS side kind (cns ts t), d ≠ tupS a) → placeB (readP side kind (cns ts t)) d = false := fun h => by
    rw [eP]
    exact Bool.eq_false_iff.mpr fun z => let ⟨a, ha, e⟩ := any_read.mp z; h a ha e
  -- a tuple of texts
  refine ⟨v, rfl, v, .ty "tuple", _, _, _, rfl, .ty "tuple", dp_ty (dp_same s1 hd), kit_t d, _, rfl, ?_⟩
  cases ht : isTB d with
  | false =>
    refine iteT (iteT (q' H1 s1 _ (none fun a _ e => ?_).symm))
    rw [e] at ht; cases ht
  | true =>
  refine iteF ?_
  obtain ⟨p, xs, ds, rfl, rfl, hS, hA⟩ := isT_of hd ht
  have l := dpAll_len hA
  have l9 := hf.1
  refine ⟨.ref p, rfl, p, rfl, ⟨_, sameT s1 hS⟩, fun D nD => ?_⟩
  refine lc_it walk_tup (PvM H1 D fun i => .bl (isSB (ds.getD i .none))) (pvm_start ..) (fun i H2 _ hP => sameT (s1.trans (pvm_same hP nD)) hS) (fun i x H2 H3 hi hP hY => ?_) (fun H2 hP => ?_)
  · obtain ⟨rfl, hx⟩ := hY
    obtain ⟨d1, h1, h2⟩ := dpAll_get i hA hx
    refine ⟨rfl, yesI ?_⟩
    refine iteT ?_
    refine ⟨x, rfl, x, .ty "str", _, _, _, rfl, .ty "str", dp_ty (dp_same (s1.trans (pvm_same hP nD)) h2), kit_s d1, pvm_step hP (Same.refl _) ?_ (by omega)⟩
    rw [getD_of h1]
  have s2 := s1.trans (pvm_same hP nD)
  refine ⟨D, (List.range xs.length).map fun i => isSB (ds.getD i .none), rfl, .inl (.inl ?_), _, rfl, ?_⟩
  · rw [hP.1, List.map_map]; rfl
  rw [l, range_all]
  cases ha : ds.all isSB with
  | false =>
    refine iteT (q' H2 s2 _ (none fun a _ e => ?_).symm)
    have e2 : ds = a.map PyData.str := PyData.tuple.inj e
    rw [e2, all_strs] at ha; cases ha
  | true =>
  refine iteF ?_
  obtain ⟨b, rfl⟩ := strs_of ha
  have eb : xs = b.map V.str := by
    have go : ∀ {b : List Str} {xs : List V}, DpAll K H xs (b.map PyData.str) → xs = b.map V.str := by
      intro b
      induction b with
      | nil => intro xs h; cases h; rfl
      | cons z b ih => intro xs h; cases h with | cons h1 h2 => cases h1; rw [ih h2]; rfl
    exact go hA
  subst eb
  obtain ⟨hxs, hx, x1, x2, x3⟩ := (hH.same s2).ex
  refine ⟨.ref hp, rfl, hp, hxs, 1, .str side, rfl, rfl, hx, atI_nat (j := 1) x1, rfl, _, rfl, ite2 (fun e => ?_) (fun e => ?_)⟩
  · have e : side = "deed" := V.str.inj (of_decide_eq_true e)
    refine ⟨.ref p, rfl, (by show 1 ≤ sizeLine; decide), fun t1 nt1 => ?_⟩
    have st := same_upd (o := .tup [.str "many"]) nt1
    have s3 := s2.trans st
    have sm : SeqAt.shaped (.tuple [PyData.str "many"]) = true := by decide +kernel
    refine ⟨.tuple (b.map PyData.str), .tuple [.str "many"], dp_same s3 hd, .tup (.inl (.inl upd_same)) (.cons (.str _) .nil), hs, sm, q' _ s3 _ ?_⟩
    rw [eP, Bool.eq_iff_iff, any_read, e, read_deed]
    constructor
    · intro h
      have h1 : PyData.eqv (tupS b) (tupS ["many"]) = true := h
      rw [eqv_tupS] at h1
      exact h1.symm
    · intro h
      have h1 : tupS b = tupS ["many"] := h
      show PyData.eqv (tupS b) (tupS ["many"]) = true
      rw [h1]
      exact eqv_tupS.mpr rfl
  have e : side ≠ "deed" := fun z => e (decide_eq_true (by rw [z]))
  refine fun dp ndp => ⟨(by show 1 ≤ sizeLine; decide), fun L1 n1 => ⟨(by show 1 ≤ sizeLine; decide), fun L2 n2 => ⟨(by show 2 ≤ sizeLine; decide), fun L3 n3 => ?_⟩⟩⟩
  have e0 : (upd H2 dp (.dK [])) dp = some (.dK []) := upd_same
  have v0 := same_upd (o := .dK []) ndp
  have v1 := same_upd (o := .lst [.str "new"]) n1
  have v2 := same_upd (o := .lst [.str "old"]) n2
  have v3 := same_upd (o := .lst [.str "old", .str "new"]) n3
  have f1 := (v2.trans v3) _ _ (upd_same (H := upd H2 dp (.dK [])) (a := L1) (o := .lst [.str "new"]))
  have f2 := v3 _ _ (upd_same (H := upd (upd H2 dp (.dK [])) L1 (.lst [.str "new"])) (a := L2) (o := .lst [.str "old"]))
  have f3 : (upd (upd (upd (upd H2 dp (.dK [])) L1 (.lst [.str "new"])) L2 (.lst [.str "old"])) L3 (.lst [.str "old", .str "new"])) L3 = some (.lst [.str "old", .str "new"]) := upd_same
  have fd := (v1.trans (v2.trans v3)) _ _ e0
  have vk : Kept [dp] H2 (upd (upd (upd (upd H2 dp (.dK [])) L1 (.lst [.str "new"])) L2 (.lst [.str "old"])) L3 (.lst [.str "old", .str "new"])) := Kept.of_same (v0.trans (v1.trans (v2.trans v3)))
  generalize upd (upd (upd (upd H2 dp (.dK [])) L1 (.lst [.str "new"])) L2 (.lst [.str "old"])) L3 (.lst [.str "old", .str "new"]) = H3 at f1 f2 f3 fd vk ⊢
  refine ⟨fd, [((Sum.inr "put" : Key), V.ref L1), (Sum.inr "drop", .ref L2), (Sum.inr "set", .ref L3)], rfl, (by show 3 ≤ 15; decide), ?_⟩
  have nd1 : L1 ≠ dp := fun z => by rw [z, fd] at f1; cases f1
  have nd2 : L2 ≠ dp := fun z => by rw [z, fd] at f2; cases f2
  have nd3 : L3 ≠ dp := fun z => by rw [z, fd] at f3; cases f3
  have s4 : Same H2 (upd H3 dp (.dK (mergeK [] [((Sum.inr "put" : Key), V.ref L1), (Sum.inr "drop", .ref L2), (Sum.inr "set", .ref L3)]))) := fun a o ea => by
    have na : a ≠ dp := fun z => by rw [z, ndp] at ea; cases ea
    rw [upd_ne na]
    exact vk a o ea (by simp [na])
  have g1 : (upd H3 dp (.dK (mergeK [] [((Sum.inr "put" : Key), V.ref L1), (Sum.inr "drop", .ref L2), (Sum.inr "set", .ref L3)]))) L1 = some (.lst [.str "new"]) := by rw [upd_ne nd1]; exact f1
  have g2 : (upd H3 dp (.dK (mergeK [] [((Sum.inr "put" : Key), V.ref L1), (Sum.inr "drop", .ref L2), (Sum.inr "set", .ref L3)]))) L2 = some (.lst [.str "old"]) := by rw [upd_ne nd2]; exact f2
  have g3 : (upd H3 dp (.dK (mergeK [] [((Sum.inr "put" : Key), V.ref L1), (Sum.inr "drop", .ref L2), (Sum.inr "set", .ref L3)]))) L3 = some (.lst [.str "old", .str "new"]) := by rw [upd_ne nd3]; exact f3
  have gd : (upd H3 dp (.dK (mergeK [] [((Sum.inr "put" : Key), V.ref L1), (Sum.inr "drop", .ref L2), (Sum.inr "set", .ref L3)]))) dp = some (.dK (mergeK [] [((Sum.inr "put" : Key), V.ref L1), (Sum.inr "drop", .ref L2), (Sum.inr "set", .ref L3)])) := upd_same
  generalize upd H3 dp (.dK (mergeK [] [((Sum.inr "put" : Key), V.ref L1), (Sum.inr "drop", .ref L2), (Sum.inr "set", .ref L3)])) = H4 at s4 g1 g2 g3 gd ⊢
  obtain ⟨Lx, hv, hLx⟩ : ∃ Lx, valV (mergeK [] [((Sum.inr "put" : Key), V.ref L1), (Sum.inr "drop", .ref L2), (Sum.inr "set", .ref L3)]) (Sum.inr kind) = some (.ref Lx) ∧ H4 Lx = some (.lst ((telB kind).map V.str)) := by
    have k3 := hH.k3
    unfold kinds3 at k3
    simp only [List.mem_cons, List.not_mem_nil, or_false] at k3
    rcases k3 with rfl | rfl | rfl
    · exact ⟨L1, rfl, g1⟩
    · exact ⟨L2, rfl, g2⟩
    · exact ⟨L3, rfl, g3⟩
  have s24 := s2.trans s4
  have hdg := DGet.k (k := Sum.inr kind) gd
  rw [hv] at hdg
  refine ⟨.ref hp, rfl, hp, hxs, 3, .str kind, rfl, rfl, sameT s4 hx, atI_nat (j := 3) x3, dp, .ref Lx, rfl, hdg, ?_⟩
  have hSp := sameT s24 hS
  -- the three questions
  refine ⟨.ref p, rfl, p, _, rfl, .inr hSp, rfl, _, rfl, ?_⟩
  have key : ∀ (r : Bool), (r = true ↔ ∃ a c, b = [a, c] ∧ c ∈ cns ts t ∧ ((a = "old" ∧ kind ≠ "put") ∨ (a = "new" ∧ kind ≠ "drop"))) → r = placeB (readP side kind (cns ts t)) (.tuple (b.map PyData.str)) := fun r h => by
    rw [eP, Bool.eq_iff_iff, any_read]
    exact h.trans (read_else e).symm
  cases h2 : decide (V.int ((b.map V.str).length : Int) = V.int 2) with
  | false =>
    refine iteF (q' H4 s24 _ (key false ⟨fun z => (nomatch z), fun ⟨a, c, eb, _⟩ => ?_⟩))
    subst eb
    exact absurd (of_decide_eq_false h2) (fun z => z rfl)
  | true =>
  refine iteT ?_
  have lb : b.length = 2 := by
    have := V.int.inj (of_decide_eq_true h2)
    rw [List.length_map] at this
    omega
  obtain ⟨a, c, rfl⟩ : ∃ a c, b = [a, c] := by
    match b, lb with
    | [a, c], _ => exact ⟨a, c, rfl⟩
  have sha := shaped_mem hs (show PyData.str a ∈ [a, c].map PyData.str by simp)
  have shc := shaped_mem hs (show PyData.str c ∈ [a, c].map PyData.str by simp)
  refine ⟨.ref p, rfl, p, _, 0, .str a, rfl, rfl, hSp, atI_nat (j := 0) rfl, .ref Lx, rfl, .str a, telB kind, Lx, rfl, .str _, sha, .inl (.inl (.inl hLx)), shaped_strs (tel_names kind), _, rfl, ?_⟩
  have ei : inS (telB kind) (.str a) = decide (a ∈ telB kind) := rfl
  cases h3 : inS (telB kind) (.str a) with
  | false =>
    refine iteF (q' H4 s24 _ (key false ⟨fun z => (nomatch z), fun ⟨a', c', eb, _, h⟩ => ?_⟩))
    cases eb
    rw [ei] at h3
    exact absurd ((tel_ok hH.k3).mpr h) (of_decide_eq_false h3)
  | true =>
  refine iteT ?_
  rw [ei] at h3
  have ha2 := (tel_ok hH.k3).mp (of_decide_eq_true h3)
  refine ⟨.ref p, rfl, p, _, 1, .str c, rfl, rfl, hSp, atI_nat (j := 1) rfl, .ref tp, rfl, tp, ts, rfl, hT.same s24, fun Dn pcs H5 s5 eDn lp hn => ?_⟩
  have s25 := s24.trans s5
  have eDn2 : H5 Dn = some (.lst ((pcs.map (·.1)).map V.ref)) := by rw [eDn, List.map_map]; rfl
  refine ⟨Dn, pcs.map (·.1), namedKV ts pcs, rfl, .inl (.inl eDn2), named_pairs lp hn, fun Dd nDd => ?_⟩
  obtain ⟨kvs, k1, k2, _⟩ := (named_d hT.ok.nd lp hn nDd).ex
  obtain ⟨cc, c1, c2⟩ := k2 t hH.t
  have s6' := same_upd (o := .dK (mergeK [] (namedKV ts pcs))) nDd
  have s6 := s25.trans s6'
  have hdg2 := DGet.k (k := Sum.inr t) k1
  rw [c1] at hdg2
  obtain ⟨hcn, _, _, _⟩ := cns_ok hT.ok hH.t
  refine ⟨.ref hp, rfl, hp, hxs, 2, .str t, rfl, rfl, sameT (s4.trans (s5.trans s6')) hx, atI_nat (j := 2) x2, Dd, .ref cc, rfl, hdg2, .str c, cns ts t, cc, rfl, .str _, shc, .inl (.inl (.inl c2)), shaped_strs hcn, q' _ s6 _ (key _ ?_)⟩
  show decide (c ∈ cns ts t) = true ↔ _
  rw [decide_eq_true_iff]
  exact ⟨fun h => ⟨a, c, rfl, h, ha2⟩, fun ⟨a', c', eb, h, _⟩ => by cases eb; exact h⟩
end
end TT

set_option Elab.async false
set_option linter.all false
set_option maxRecDepth 100000
namespace TT
open PySem PySem.Spec PyProof.Rows L2
section
variable {P : Program} {w : World} {K : PySem.W.Frag} {mg : Str → Option Value} {base : Heap}
def spLPlaces (K : PySem.W.Frag) : Sp := fun vs H Q _ => ∃ (tp hp : Addr) (ts : List Tab) (side t kind : Str) (p : Addr) (xs : List V) (ds : List PyData), vs = [.ref tp, .ref hp, .ref p] ∧ Tabs K H tp ts ∧ LHead K H hp ts side t kind ∧ SqT K H p xs ∧ DpAll K H xs ds ∧ ds.length ≤ 900 ∧ (∀ d ∈ ds, Fit d ∧ SeqAt.shaped d = true) ∧
  ∀ H', Same H H' → Q (.bl (ds.all (placeB (readP side kind (cns ts t))))) H'
abbrev s_law_are_places : Stmt := topS 46
abbrev N_law_are_places : List Str := ["tables", "head", "some", "place"]
theorem sc_law_are_places : FnScope N_law_are_places ["tables", "head", "some"] (defScope s_law_are_places) := ⟨rfl, rfl, rfl, by decide +kernel, rfl, by decide +kernel, by decide +kernel⟩

set_option maxHeartbeats 4000000 in
theorem ok_law_are_places {f : Addr} {fd : FuncData} (F : Fun K "_law_are_places" "_law_are_places" s_law_are_places f fd) (nb : NB mg) (D_law_is_place : Def P w K mg base 3 "_law_is_place" ["tables", "head", "thing"] (spLPlace K)) : FnOk P w K mg base CX0 4 f fd ["tables", "head", "some"] (spLPlaces K) := by
  refine F.ok sc_law_are_places (fun vs H Q E h => ?_) (fun cdv A outer sh H vs Q E hr h => ?_)
  · obtain ⟨tp, hp, ts, side, t, kind, p, xs, ds, rfl, _⟩ := h
    rfl
  obtain ⟨tp, hp, ts, side, t, kind, p, xs, ds, rfl, hT, hH, hS, hA, few, hfs, q⟩ := h
  have nd := sc_law_are_places.nd
  refine ⟨_, (pss_one (ps_ret (pe_callB (cr_all rfl) (by rfl) nb.b_all (by decide +kernel) (pa_cons (pe_lc (own := [("place", 3)]) (g := (gName 3)) (tt := tYes) rfl nd (pi_tup (pv 2)) (blkOk_by (N := N_law_are_places) (sc := defScope s_law_are_places) (by decide +kernel)) (fun _ _ _ _ _ => (pg_name (i := 3) nd rfl (Or.inl rfl))) (fun _ _ _ _ _ => pts_nil) (fun _ _ _ _ _ => (pe_own D_law_is_place hr (pa_cons (pv 0) (pa_cons (pv 1) (pa_cons (pv 3) pa_nil)))))) pa_nil)))), ?_⟩
  have l := dpAll_len hA
  refine ⟨.ref p, rfl, p, rfl, ⟨_, hS⟩, fun D nD => ?_⟩
  refine lc_it walk_tup (PvM H D fun i => .bl (placeB (readP side kind (cns ts t)) (ds.getD i .none))) (pvm_start ..) (fun i H2 _ hP => sameT (pvm_same hP nD) hS) (fun i x H2 H3 hi hP hY => ?_) (fun H2 hP => ?_)
  · obtain ⟨rfl, hx⟩ := hY
    obtain ⟨d1, h1, h2⟩ := dpAll_get i hA hx
    have hm := List.mem_of_getElem? h1
    have sk := pvm_same hP nD
    refine ⟨rfl, yesI ?_⟩
    refine iteT ?_
    refine ⟨.ref tp, rfl, .ref hp, rfl, x, rfl, tp, hp, ts, side, t, kind, x, d1, rfl, hT.same sk, hH.same sk, dp_same sk h2, (hfs d1 hm).1, (hfs d1 hm).2, fun H4 s4 => pvm_step hP s4 ?_ (by omega)⟩
    rw [getD_of h1]
  · have s2 := pvm_same hP nD
    refine ⟨D, (List.range xs.length).map fun i => placeB (readP side kind (cns ts t)) (ds.getD i .none), rfl, .inl (.inl ?_), ?_⟩
    · rw [hP.1, List.map_map]; rfl
    rw [l, range_all]
    exact q H2 s2
end
end TT

set_option Elab.async false
set_option linter.all false
set_option maxRecDepth 100000
namespace TT
open PySem PySem.Spec PyProof.Rows L2
section
variable {P : Program} {w : World} {K : PySem.W.Frag} {mg : Str → Option Value} {base : Heap}
def spLAct (K : PySem.W.Frag) : Sp := fun vs H Q _ => ∃ (tp hp : Addr) (ts : List Tab) (side t kind : Str) (v : V) (d : PyData), vs = [.ref tp, .ref hp, v] ∧ Tabs K H tp ts ∧ LHead K H hp ts side t kind ∧ Dp K H v d ∧ Fit d ∧ SeqAt.shaped d = true ∧ ∀ H', Same H H' → Q (.bl (actB ts (readP side kind (cns ts t)) d)) H'
abbrev s_law_is_act : Stmt := topS 47
abbrev N_law_is_act : List Str := ["tables", "head", "act", "named", "fine", "one"]
theorem sc_law_is_act : FnScope N_law_is_act ["tables", "head", "act"] (defScope s_law_is_act) := ⟨rfl, rfl, rfl, by decide +kernel, rfl, by decide +kernel, by decide +kernel⟩

set_option maxHeartbeats 8000000 in
theorem ok_law_is_act {f : Addr} {fd : FuncData} (F : Fun K "_law_is_act" "_law_is_act" s_law_is_act f fd) (nb : NB mg) (nx : ND mg) (D_law_named : Def P w K mg base 1 "_law_named" ["tables"] (spNamed K)) (D_law_is_place : Def P w K mg base 3 "_law_is_place" ["tables", "head", "thing"] (spLPlace K)) (D_law_are_places : Def P w K mg base 4 "_law_are_places" ["tables", "head", "some"] (spLPlaces K)) : FnOk P w K mg base CX0 5 f fd ["tables", "head", "act"] (spLAct K) := by
  refine F.ok sc_law_is_act (fun vs H Q E h => ?_) (fun cdv A outer sh H vs Q E hr h => ?_)
  · obtain ⟨tp, hp, ts, side, t, kind, v, d, rfl, _⟩ := h
    rfl
  obtain ⟨tp, hp, ts, side, t, kind, v, d, rfl, hT, hH, hd, hf, hs, q⟩ := h
  have nd := sc_law_is_act.nd
  have hu := hu_of hr
  obtain ⟨rd, hrd⟩ : ∃ rd, rd = readP side kind (cns ts t) := ⟨_, rfl⟩
  rw [← hrd] at q
  have q' : ∀ H', Same H H' → ∀ b, b = actB ts rd d → Q (.bl b) H' := fun H' s b e => by rw [e]; exact q H' s
  refine ⟨_, (pss_cons (ps_set (i := 3) nd rfl (Or.inl rfl) (pe_callTy (call_dictP rfl) (by rfl) nx.b_dict (by decide +kernel) (pa_cons (pe_own D_law_named hr (pa_cons (pv 0) pa_nil)) pa_nil)))
      (pss_cons (ps_if (PW.pt (pw_or (pt_not (pt_val (pe_callB call_isi (by rfl) nb.b_isinstance (by decide +kernel) (pa_cons (pv 2) (pa_cons (pe_bltn (v := .ty "tuple") (by rfl) nb.b_tuple (by decide +kernel) rfl) pa_nil))))) (pw_or (pt_cmpR op_lt (pe_callB call_len_seq (by rfl) nb.b_len (by decide +kernel) (pa_cons (pv 2) pa_nil)) pe_int (nomark _)) (pw_or1 (pt_not (pt_val (pe_callB (cr_all rfl) (by rfl) nb.b_all (by decide +kernel) (pa_cons (pe_lc (own := [("one", 5)]) (g := (gName 5)) (tt := tYes) rfl nd (pi_tup (pe_slice sl_tup (pv 2) po_none (po_some pe_int))) (blkOk_by (N := N_law_is_act) (sc := defScope s_law_is_act) (by decide +kernel)) (fun _ _ _ _ _ => (pg_name (i := 5) nd rfl (Or.inl rfl))) (fun _ _ _ _ _ => pts_nil) (fun _ _ _ _ _ => (pe_callB (id := "isinstance") (r := rIsi K) call_isi (by rfl) nb.b_isinstance (by decide +kernel) (pa_cons (pv 5) (pa_cons (pe_bltn (v := .ty "str") (by rfl) nb.b_str (by decide +kernel) rfl) pa_nil))))) pa_nil))))))))
        (pss_one (ps_ret pe_bl))
        pss_nil)
      (pss_cons (ps_if (pt_cmp (pc_dnotin hu (pe_ix ix_tup (pv 2) pe_int (fun _ _ => rfl)) (pv 3)) (by rfl))
        (pss_one (ps_ret pe_bl))
        pss_nil)
      (pss_cons (ps_if (pt_cmpR op_eq (pe_ix ix_tup (pv 2) pe_int (fun _ _ => rfl)) pe_str (nomark _))
        (pss_cons (ps_set (i := 4) nd rfl (Or.inl rfl) (pe_and (pe_cmpR op_eq (pe_callB call_len_seq (by rfl) nb.b_len (by decide +kernel) (pa_cons (pv 2) pa_nil)) pe_int (nomark _)) (pe_and (pe_callB call_isi (by rfl) nb.b_isinstance (by decide +kernel) (pa_cons (pe_ix ix_tup (pv 2) pe_int (fun _ _ => rfl)) (pa_cons (pe_bltn (v := .ty "tuple") (by rfl) nb.b_tuple (by decide +kernel) rfl) pa_nil))) (pe_one (pe_cmpR op_eq (pe_callB call_len (by rfl) nb.b_len (by decide +kernel) (pa_cons (pe_ix ix_tup (pv 2) pe_int (fun _ _ => rfl)) pa_nil)) (pe_callB call_len (by rfl) nb.b_len (by decide +kernel) (pa_cons (pe_dget hu (pv 3) (pe_ix ix_tup (pv 2) pe_int (fun _ _ => rfl)) (fun _ _ => rfl)) pa_nil)) (nomark _))))))
        (pss_one (ps_ret (pe_and (pv 4) (pe_one (pe_own D_law_are_places hr (pa_cons (pv 0) (pa_cons (pv 1) (pa_cons (pe_ix ix_tup (pv 2) pe_int (fun _ _ => rfl)) pa_nil)))))))))
        pss_nil)
      (pss_cons (ps_if (pt_cmpR op_eq (pe_ix ix_tup (pv 2) pe_int (fun _ _ => rfl)) pe_str (nomark _))
        (pss_one (ps_ret (pe_and (pe_cmpR op_eq (pe_callB call_len_seq (by rfl) nb.b_len (by decide +kernel) (pa_cons (pv 2) pa_nil)) pe_int (nomark _)) (pe_one (pe_own D_law_is_place hr (pa_cons (pv 0) (pa_cons (pv 1) (pa_cons (pe_ix ix_tup (pv 2) pe_int (fun _ _ => rfl)) pa_nil))))))))
        pss_nil)
      (pss_cons (ps_if (PW.pt (pw_or (pt_cmpR (op_ninN (u65 hr)) (pe_ix ix_tup (pv 2) pe_int (fun _ _ => rfl)) (pe_tup (pa_cons pe_str (pa_cons pe_str pa_nil))) (by rfl)) (pw_or (pt_cmpR op_ne (pe_callB call_len_seq (by rfl) nb.b_len (by decide +kernel) (pa_cons (pv 2) pa_nil)) pe_int (nomark _)) (pw_or1 (pt_not (pt_val (pe_callB call_isi (by rfl) nb.b_isinstance (by decide +kernel) (pa_cons (pe_ix ix_tup (pv 2) pe_int (fun _ _ => rfl)) (pa_cons (pe_bltn (v := .ty "str") (by rfl) nb.b_str (by decide +kernel) rfl) pa_nil)))))))))
        (pss_one (ps_ret pe_bl))
        pss_nil)
      (pss_one (ps_ret (pe_and (pe_cmpR (op_inN (u65 hr)) (pe_ix ix_tup (pv 2) pe_int (fun _ _ => rfl)) (pe_dget hu (pv 3) (pe_ix ix_tup (pv 2) pe_int (fun _ _ => rfl)) (fun _ _ => rfl)) (by rfl)) (pe_one (pe_own D_law_are_places hr (pa_cons (pv 0) (pa_cons (pv 1) (pa_cons (pe_tup (pa_cons (pe_ix ix_tup (pv 2) pe_int (fun _ _ => rfl)) (pa_cons (pe_ix ix_tup (pv 2) pe_int (fun _ _ => rfl)) pa_nil))) pa_nil)))))))))))))), ?_⟩
  -- named
  refine ⟨.ref tp, rfl, tp, ts, rfl, hT, fun Dn pcs H1 s1 eDn lp hn => ?_⟩
  have eDn2 : H1 Dn = some (.lst ((pcs.map (·.1)).map V.ref)) := by rw [eDn, List.map_map]; rfl
  refine ⟨Dn, pcs.map (·.1), namedKV ts pcs, rfl, .inl (.inl eDn2), named_pairs lp hn, fun Dd nDd => ?_⟩
  have ND2 := named_d hT.ok.nd lp hn nDd
  have s2 := s1.trans (same_upd (o := .dK (mergeK [] (namedKV ts pcs))) nDd)
  refine gN0 ?_
  dsimp only [List.set]
  show tSeq (tIfS _ _ _) (tSeq _ _) _ [some (.ref tp), some (.ref hp), some v, some (.ref Dd), none, none] (upd H1 Dd (.dK (mergeK [] (namedKV ts pcs))))
  generalize upd H1 Dd (.dK (mergeK [] (namedKV ts pcs))) = H2 at ND2 s2 ⊢
  refine ⟨v, rfl, v, .ty "tuple", _, _, _, rfl, .ty "tuple", dp_ty (dp_same s2 hd), kit_t d, _, rfl, ?_⟩
  cases ht : isTB d with
  | false =>
    refine iteT (iteT (q' H2 s2 _ ?_))
    cases d <;> first | rfl | cases ht
  | true =>
  refine iteF ?_
  obtain ⟨p, xs, ds, rfl, rfl, hS, hA⟩ := isT_of hd ht
  have l := dpAll_len hA
  have l9 := hf.1
  have hS2 := sameT s2 hS
  refine ⟨.ref p, rfl, p, xs, rfl, .inr hS2, _, _, rfl, rfl, _, rfl, ?_⟩
  cases h3 : decide ((xs.length : Int) < 3) with
  | true =>
    refine iteT (iteT (q' H2 s2 _ ?_))
    have h3 := of_decide_eq_true h3
    show false = (tupB 3 5 (.tuple ds) && _)
    have : tupB 3 5 (.tuple ds) = false := by
      show (decide ((3 : Int) ≤ (ds.length : Int)) && decide ((ds.length : Int) ≤ 5)) = false
      rw [decide_eq_false (show ¬ (3 : Int) ≤ (ds.length : Int) by omega)]; rfl
    rw [this]; rfl
  | false =>
  refine iteF ?_
  have h3 := of_decide_eq_false h3
  have l3 : 3 ≤ ds.length := by omega
  have at' : ∀ i, i < ds.length → ∃ u e, xs[i]? = some u ∧ ds[i]? = some e ∧ ds.getD i .none = e ∧ Dp K H u e ∧ Fit e ∧ SeqAt.shaped e = true := fun i hi => by
    have h1 : ds[i]? = some ds[i] := List.getElem?_eq_getElem hi
    obtain ⟨u, h2, h3⟩ := dpAll_at hA h1
    have hm := List.mem_of_getElem? h1
    exact ⟨u, _, h2, h1, getD_of h1, h3, fit_mem hf.2 hm, shaped_mem hs hm⟩
  obtain ⟨u0, e0, x0, y0, g0, d0, f0, sh0⟩ := at' 0 (by omega)
  obtain ⟨u1, e1, x1, y1, g1, d1, f1, sh1⟩ := at' 1 (by omega)
  obtain ⟨u2, e2, x2, y2, g2, d2, f2, sh2⟩ := at' 2 (by omega)
  refine ⟨.ref p, rfl, 2, rfl, p, xs, rfl, hS2, (fun z => ?_), fun p2 n2 => ?_⟩
  · have z2 := z.2
    rw [show ((2 : Int)) = ((2 : Nat) : Int) from rfl, HT.sIx_nat] at z2
    omega
  rw [show cutV xs none (some 2) = xs.take 2 from cut_hi xs 2]
  have et : xs.take 2 = [u0, u1] := by
    have h0 : xs[0]? = some u0 := x0
    have h1 : xs[1]? = some u1 := x1
    match xs, h0, h1 with
    | a :: b :: r, h0, h1 => rw [show a = u0 from Option.some.inj h0, show b = u1 from Option.some.inj h1]; rfl
  rw [et]
  have sp2 := same_upd (o := .tup [u0, u1]) n2
  have s3 := s2.trans sp2
  have ep2 : (upd H2 p2 (.tup [u0, u1])) p2 = some (.tup [u0, u1]) := upd_same
  generalize upd H2 p2 (.tup [u0, u1]) = H3 at sp2 s3 ep2 ⊢
  have dA2 : DpAll K H3 [u0, u1] [e0, e1] := .cons (dp_same s3 d0) (.cons (dp_same s3 d1) .nil)
  refine ⟨p2, rfl, ⟨_, .inl (.inl ep2)⟩, fun D nD => ?_⟩
  refine lc_it walk_tup (PvM H3 D fun i => .bl (isSB ([e0, e1].getD i .none))) (pvm_start ..) (fun i H4 _ hP => sameT (pvm_same hP nD) (.inl (.inl ep2))) (fun i x H4 H5 hi hP hY => ?_) (fun H4 hP => ?_)
  · obtain ⟨rfl, hx⟩ := hY
    obtain ⟨d3, h1, h2⟩ := dpAll_get i dA2 hx
    refine ⟨rfl, yesI ?_⟩
    refine iteT ?_
    have hi2 : i < 2 := hi
    refine ⟨x, rfl, x, .ty "str", _, _, _, rfl, .ty "str", dp_ty (dp_same (pvm_same hP nD) h2), kit_s d3, pvm_step hP (Same.refl _) ?_ (by omega)⟩
    rw [getD_of h1]
  have s4 := s3.trans (pvm_same hP nD)
  have ND4 := (ND2.same sp2).same (pvm_same hP nD)
  refine ⟨D, [isSB e0, isSB e1], rfl, .inl (.inl (by rw [hP.1]; rfl)), _, rfl, ?_⟩
  have eA : actB ts rd (.tuple ds) = (tupB 3 5 (.tuple ds) && (inS (tns ts) e1 && actP ts rd ds)) := by
    show (tupB 3 5 (.tuple ds) && (inS (tns ts) (ds.getD 1 .none) && actP ts rd ds)) = _
    rw [g1]
  cases ha : [isSB e0, isSB e1].all id with
  | false =>
    refine iteT (q' H4 s4 _ ?_)
    rw [eA]
    cases e1 with
    | str t1 =>
      cases e0 with
      | str z => cases ha
      | _ =>
        have : actP ts rd ds = false := by unfold actP; rw [g0]; rfl
        rw [this, Bool.and_false, Bool.and_false]
    | _ =>
      show false = (_ && (false && _))
      rw [Bool.false_and, Bool.and_false]
  | true =>
  refine iteF ?_
  obtain ⟨w0, rfl⟩ : ∃ w0, e0 = .str w0 := by cases e0 <;> first | exact ⟨_, rfl⟩ | cases ha
  obtain ⟨t1, rfl⟩ : ∃ t1, e1 = .str t1 := by cases e1 <;> first | exact ⟨_, rfl⟩ | cases ha
  cases d0; cases d1
  have hS4 := sameT s4 hS
  obtain ⟨kvs, k1, k2, k3⟩ := ND4.ex
  refine ⟨.ref p, rfl, p, xs, 1, .str t1, rfl, rfl, hS4, atI_nat x1, .ref Dd, rfl, Dd, valV kvs (Sum.inr t1), rfl, DGet.k (k := Sum.inr t1) k1, _, rfl, ?_⟩
  by_cases ht1 : t1 ∈ tns ts
  case neg =>
    rw [k3 t1 ht1]
    refine iteT (q' H4 s4 _ ?_)
    rw [eA]
    have : inS (tns ts) (.str t1) = false := decide_eq_false ht1
    rw [this, Bool.false_and, Bool.and_false]
  obtain ⟨cc, c1, c2⟩ := k2 t1 ht1
  rw [c1]
  refine iteF ?_
  have eB : actB ts rd (.tuple ds) = (tupB 3 5 (.tuple ds) && actP ts rd ds) := by
    rw [eA]
    have : inS (tns ts) (.str t1) = true := decide_eq_true ht1
    rw [this, Bool.true_and]
  have t3 : ds.length = 3 → tupB 3 5 (.tuple ds) = true := fun h => by
    show (decide ((3 : Int) ≤ (ds.length : Int)) && decide ((ds.length : Int) ≤ 5)) = true
    rw [h]; rfl
  have t5 : ds.length = 5 → tupB 3 5 (.tuple ds) = true := fun h => by
    show (decide ((3 : Int) ≤ (ds.length : Int)) && decide ((ds.length : Int) ≤ 5)) = true
    rw [h]; rfl
  have hlen : ∀ n : Nat, decide (V.int (xs.length : Int) = V.int (n : Int)) = decide (ds.length = n) := fun n => by
    rw [l]
    exact decide_eq_decide.mpr ⟨fun h => by have := V.int.inj h; omega, fun h => by rw [h]⟩
  have wB : ∀ k : Str, wordB k (.str w0) = decide (w0 = k) := fun k => by
    show (w0 == k) = decide (w0 = k)
    by_cases z : w0 = k
    · rw [decide_eq_true z, z]; simp
    · rw [decide_eq_false z]; exact beq_eq_false_iff_ne.mpr z
  have eP : actP ts rd ds = (if (decide (w0 = "put") && decide (ds.length = 3)) = true then placesB rd (cns ts t1).length e2
      else if (decide (w0 = "drop") && decide (ds.length = 3)) = true then placeB rd e2
      else if (decide (w0 ∈ (["set", "add"] : List Str)) && decide (ds.length = 5)) = true then inS (cns ts t1) (ds.getD 3 .none) && (placeB rd e2 && placeB rd (ds.getD 4 .none)) else false) := by
    unfold actP
    rw [g0, g1, g2, wB, wB]; rfl
  have hdg := DGet.k (k := Sum.inr t1) k1
  rw [c1] at hdg
  refine ⟨.ref p, rfl, p, xs, 0, .str w0, rfl, rfl, hS4, atI_nat (j := 0) x0, rfl, _, rfl, ite2 (fun e => ?_) (fun e => ?_)⟩
  · have e : w0 = "put" := V.str.inj (of_decide_eq_true e)
    have no : ds.length ≠ 3 → actB ts rd (.tuple ds) = false := fun h => by
      rw [eB, eP, e, decide_eq_false h]
      have : ¬ (("put" : Str) ∈ (["set", "add"] : List Str)) := by decide +kernel
      rw [decide_eq_false (show ¬ ("put" : Str) = "drop" by decide), decide_eq_false this]
      simp
    have yes : ds.length = 3 → actB ts rd (.tuple ds) = placesB rd (cns ts t1).length e2 := fun h => by
      rw [eB, t3 h, eP, e, decide_eq_true h]; rfl
    refine ⟨.ref p, rfl, p, xs, rfl, .inr hS4, rfl, _, rfl, ?_⟩
    rw [show decide (V.int (xs.length : Int) = V.int 3) = decide (ds.length = 3) from hlen 3]
    cases h5 : decide (ds.length = 3) with
    | false =>
      refine iteF ⟨.bl false, rfl, _, rfl, iteF (q' H4 s4 _ (no (of_decide_eq_false h5)).symm)⟩
    | true =>
    have l33 := of_decide_eq_true h5
    refine iteT ⟨.ref p, rfl, p, xs, 2, u2, rfl, rfl, hS4, atI_nat x2, u2, .ty "tuple", _, _, _, rfl, .ty "tuple", dp_ty (dp_same s4 d2), kit_t e2, _, rfl, ?_⟩
    cases h6 : isTB e2 with
    | false =>
      refine iteF ⟨.bl false, rfl, _, rfl, iteF (q' H4 s4 _ ?_)⟩
      rw [yes l33]
      cases e2 <;> first | rfl | cases h6
    | true =>
    obtain ⟨q2, xs2, ds2, rfl, rfl, hq2, hA2⟩ := isT_of d2 h6
    have l2 := dpAll_len hA2
    refine iteT ⟨.ref p, rfl, p, xs, 2, .ref q2, rfl, rfl, hS4, atI_nat x2, .ref q2, xs2.length, rfl, .inr ⟨xs2, sameT s4 hq2, rfl⟩, .ref Dd, rfl, .ref p, rfl, p, xs, 1, .str t1, rfl, rfl, hS4, atI_nat x1, Dd, .ref cc, rfl, hdg, .ref cc, (cns ts t1).length, rfl, .inl ⟨_, .inl (.inl c2), by exact (List.length_map ..).symm⟩, rfl, ?_⟩
    have eY : actB ts rd (.tuple ds) = (decide (ds2.length = (cns ts t1).length) && ds2.all (placeB rd)) := yes l33
    refine ⟨.bl _, rfl, _, rfl, ?_⟩
    have el : decide (V.int (xs2.length : Int) = V.int ((cns ts t1).length : Int)) = decide (ds2.length = (cns ts t1).length) := by
      rw [l2]
      exact decide_eq_decide.mpr ⟨fun h => by have := V.int.inj h; omega, fun h => by rw [h]⟩
    rw [el]
    cases h7 : decide (ds2.length = (cns ts t1).length) with
    | false => exact iteF (q' H4 s4 _ (by rw [eY, h7]; rfl))
    | true =>
      refine iteT ⟨.ref tp, rfl, .ref hp, rfl, .ref p, rfl, p, xs, 2, .ref q2, rfl, rfl, hS4, atI_nat x2, tp, hp, ts, side, t, kind, q2, xs2, ds2, rfl, hT.same s4, hH.same s4, sameT s4 hq2, dpAll_same s4 hA2, f2.1, fun d hd => ⟨fit_mem f2.2 hd, shaped_mem sh2 hd⟩, fun H5 s5 => q' H5 (s4.trans s5) _ ?_⟩
      rw [eY, h7, hrd]; rfl
  have e1 : w0 ≠ "put" := fun z => e (decide_eq_true (by rw [z]))
  have n3 : decide (w0 = "put") = false := decide_eq_false e1
  rw [n3, Bool.false_and, if_neg Bool.false_ne_true] at eP
  refine ⟨.ref p, rfl, p, xs, 0, .str w0, rfl, rfl, hS4, atI_nat (j := 0) x0, rfl, _, rfl, ite2 (fun e => ?_) (fun e => ?_)⟩
  · have e : w0 = "drop" := V.str.inj (of_decide_eq_true e)
    refine ⟨.ref p, rfl, p, xs, rfl, .inr hS4, rfl, _, rfl, ?_⟩
    rw [show decide (V.int (xs.length : Int) = V.int 3) = decide (ds.length = 3) from hlen 3]
    cases h5 : decide (ds.length = 3) with
    | false =>
      refine iteF (q' H4 s4 _ ?_)
      have : ¬ (("drop" : Str) ∈ (["set", "add"] : List Str)) := by decide +kernel
      rw [eB, eP, e, h5, decide_eq_false this]; simp
    | true =>
      have l33 := of_decide_eq_true h5
      refine iteT ⟨.ref tp, rfl, .ref hp, rfl, .ref p, rfl, p, xs, 2, u2, rfl, rfl, hS4, atI_nat x2, tp, hp, ts, side, t, kind, u2, e2, rfl, hT.same s4, hH.same s4, dp_same s4 d2, f2, sh2, fun H5 s5 => q' H5 (s4.trans s5) _ ?_⟩
      rw [eB, t3 l33, eP, e, h5, hrd]; rfl
  have e2' : w0 ≠ "drop" := fun z => e (decide_eq_true (by rw [z]))
  rw [decide_eq_false e2', Bool.false_and, if_neg Bool.false_ne_true] at eP
  refine ⟨.ref p, rfl, p, xs, 0, .str w0, rfl, rfl, hS4, atI_nat (j := 0) x0, (by show 2 ≤ sizeLine; decide), fun pt nt => ?_⟩
  have st := same_upd (o := .tup [.str "set", .str "add"]) nt
  have s5 := s4.trans st
  refine ⟨.str w0, ["set", "add"], pt, rfl, .str _, sh0, .inr (.inl (.inl upd_same)), shaped_strs (fun z hz => signs_ok z (List.mem_append_right _ (List.mem_append_right _ (List.mem_append_right _ hz)))), _, rfl, ?_⟩
  have k1' := st _ _ k1
  have c2' := st _ _ c2
  generalize upd H4 pt (.tup [.str "set", .str "add"]) = H5 at st s5 k1' c2' ⊢
  have hS5 := sameT s5 hS
  have hdg' := DGet.k (k := Sum.inr t1) k1'
  rw [c1] at hdg'
  have ei : inS ["set", "add"] (.str w0) = decide (w0 ∈ (["set", "add"] : List Str)) := rfl
  cases h5 : inS ["set", "add"] (.str w0) with
  | false =>
    refine iteT (iteT (q' H5 s5 _ ?_))
    rw [ei] at h5
    rw [eB, eP, h5]; simp
  | true =>
  rw [ei] at h5
  rw [h5, Bool.true_and] at eP
  refine iteF ⟨.ref p, rfl, p, xs, rfl, .inr hS5, rfl, _, rfl, ?_⟩
  rw [show decide (V.int (xs.length : Int) = V.int 5) = decide (ds.length = 5) from hlen 5]
  cases h6 : decide (ds.length = 5) with
  | false =>
    refine iteT (iteT (q' H5 s5 _ ?_))
    rw [eB, eP, h6]; simp
  | true =>
  have l55 := of_decide_eq_true h6
  rw [h6, if_pos rfl] at eP
  obtain ⟨u3, e3, x3, y3, g3, d3, f3, sh3⟩ := at' 3 (by omega)
  obtain ⟨u4, e4, x4, y4, g4, d4, f4, sh4⟩ := at' 4 (by omega)
  rw [g3, g4] at eP
  have eZ : actB ts rd (.tuple ds) = (inS (cns ts t1) e3 && (placeB rd e2 && placeB rd e4)) := by rw [eB, t5 l55, eP]; rfl
  refine iteF ⟨.ref p, rfl, p, xs, 3, u3, rfl, rfl, hS5, atI_nat x3, u3, .ty "str", _, _, _, rfl, .ty "str", dp_ty (dp_same s5 d3), kit_s e3, _, rfl, ?_⟩
  cases h7 : isSB e3 with
  | false =>
    refine iteT (q' H5 s5 _ ?_)
    rw [eZ]
    cases e3 <;> first | rfl | cases h7
  | true =>
  obtain ⟨c3, rfl⟩ : ∃ c3, e3 = .str c3 := by cases e3 <;> first | exact ⟨_, rfl⟩ | cases h7
  cases d3
  refine iteF ?_
  obtain ⟨hcn, _, _, _⟩ := cns_ok hT.ok ht1
  refine ⟨.ref p, rfl, p, xs, 3, .str c3, rfl, rfl, hS5, atI_nat x3, .ref Dd, rfl, .ref p, rfl, p, xs, 1, .str t1, rfl, rfl, hS5, atI_nat x1, Dd, .ref cc, rfl, hdg', .str c3, cns ts t1, cc, rfl, .str _, sh3, .inl (.inl (.inl c2')), shaped_strs hcn, _, rfl, ?_⟩
  cases h8 : inS (cns ts t1) (.str c3) with
  | false => exact iteF (q' H5 s5 _ (by rw [eZ, h8]; rfl))
  | true =>
    refine iteT ⟨.ref tp, rfl, .ref hp, rfl, .ref p, rfl, p, xs, 2, u2, rfl, rfl, hS5, atI_nat x2, .ref p, rfl, p, xs, 4, u4, rfl, rfl, hS5, atI_nat x4, (by show 2 ≤ sizeLine; decide), fun p5 n5 => ?_⟩
    have s6' := same_upd (o := .tup [u2, u4]) n5
    have s6 := s5.trans s6'
    refine ⟨tp, hp, ts, side, t, kind, p5, [u2, u4], [e2, e4], rfl, hT.same s6, hH.same s6, .inl (.inl upd_same), .cons (dp_same s6 d2) (.cons (dp_same s6 d4) .nil), (by show 2 ≤ 900; decide), fun d hd => ?_, fun H7 s7 => q' H7 (s6.trans s7) _ ?_⟩
    · simp only [List.mem_cons, List.not_mem_nil, or_false] at hd
      rcases hd with rfl | rfl
      · exact ⟨f2, sh2⟩
      · exact ⟨f4, sh4⟩
    · rw [eZ, h8, hrd]
      show (placeB _ e2 && (placeB _ e4 && true)) = (true && (placeB _ e2 && placeB _ e4))
      rw [Bool.and_true, Bool.true_and]
end
end TT

set_option Elab.async false
set_option linter.all false
set_option maxRecDepth 100000
namespace TT
open PySem PySem.Spec PyProof.Rows L2
theorem words3_ok : ∀ z ∈ (["ahead", "row", "deed", "put", "drop", "set", "less", "like", "unlike"] : List Str), NameOk z := fun z hz => by
  have h : (["ahead", "row", "deed", "put", "drop", "set", "less", "like", "unlike"] : List Str).all (fun z => decide (0 < (cl z).length) && decide ((cl z).length ≤ 8) && (cl z).all fun c => decide (97 ≤ c) && decide (c ≤ 122)) = true := by decide +kernel
  have h1 := List.all_eq_true.mp h z hz
  simp only [Bool.and_eq_true, decide_eq_true_eq, List.all_eq_true] at h1
  exact ⟨h1.1.1, h1.1.2, h1.2⟩
theorem splitT0 {A B R : TS} {D : Ends} {σ0 : L2.St} {H0 : Hp} (Pp : Hp → Prop) (σ : L2.St) (rest : ∀ H, Pp H → R D σ H) (main : (∀ H, Pp H → R D σ H) → tSeq A (tSeq B R) D σ0 H0) : tSeq A (tSeq B R) D σ0 H0 := main rest
section
variable {P : Program} {w : World} {K : PySem.W.Frag} {mg : Str → Option Value} {base : Heap}
abbrev s_law_is_rule : Stmt := topS 48
abbrev N_law_is_rule : List Str := ["tables", "rule", "named", "column", "test", "acts", "one", "act"]
theorem sc_law_is_rule : FnScope N_law_is_rule ["tables", "rule"] (defScope s_law_is_rule) := ⟨rfl, rfl, rfl, by decide +kernel, rfl, by decide +kernel, by decide +kernel⟩

set_option maxHeartbeats 8000000 in
theorem ok_law_is_rule {f : Addr} {fd : FuncData} (F : Fun K "_law_is_rule" "_law_is_rule" s_law_is_rule f fd) (nb : NB mg) (nx : ND mg) (D_law_named : Def P w K mg base 1 "_law_named" ["tables"] (spNamed K)) (D_law_is_name : Def P w K mg base 1 "_law_is_name" ["thing"] (spB nameB K)) (D_law_is_place : Def P w K mg base 3 "_law_is_place" ["tables", "head", "thing"] (spLPlace K)) (D_law_is_act : Def P w K mg base 5 "_law_is_act" ["tables", "head", "act"] (spLAct K)) : FnOk P w K mg base CX0 6 f fd ["tables", "rule"] (spTs ruleB K) := by
  refine F.ok sc_law_is_rule (fun vs H Q E h => ?_) (fun cdv A outer sh H vs Q E hr h => ?_)
  · obtain ⟨tp, ts, v, d, rfl, _⟩ := h
    rfl
  obtain ⟨tp, ts, v, d, rfl, hT, hd, hf, hs, q⟩ := h
  have nd := sc_law_is_rule.nd
  have hu := hu_of hr
  have q' : ∀ H', Same H H' → ∀ b, b = ruleB ts d → Q (.bl b) H' := fun H' s b e => by rw [e]; exact q H' s
  refine ⟨_, (pss_cons (ps_set (i := 2) nd rfl (Or.inl rfl) (pe_callTy (call_dictP rfl) (by rfl) nx.b_dict (by decide +kernel) (pa_cons (pe_own D_law_named hr (pa_cons (pv 0) pa_nil)) pa_nil)))
      (pss_cons (ps_if (PW.pt (pw_or (pt_not (pt_val (pe_callB call_isi (by rfl) nb.b_isinstance (by decide +kernel) (pa_cons (pv 1) (pa_cons (pe_bltn (v := .ty "tuple") (by rfl) nb.b_tuple (by decide +kernel) rfl) pa_nil))))) (pw_or (pt_cmpR op_ne (pe_callB call_len_seq (by rfl) nb.b_len (by decide +kernel) (pa_cons (pv 1) pa_nil)) pe_int (nomark _)) (pw_or1 (pt_not (pt_val (pe_callB (cr_all rfl) (by rfl) nb.b_all (by decide +kernel) (pa_cons (pe_lc (own := [("one", 6)]) (g := (gName 6)) (tt := tYes) rfl nd (pi_tup (pe_slice sl_tup (pv 1) po_none (po_some pe_int))) (blkOk_by (N := N_law_is_rule) (sc := defScope s_law_is_rule) (by decide +kernel)) (fun _ _ _ _ _ => (pg_name (i := 6) nd rfl (Or.inl rfl))) (fun _ _ _ _ _ => pts_nil) (fun _ _ _ _ _ => (pe_callB (id := "isinstance") (r := rIsi K) call_isi (by rfl) nb.b_isinstance (by decide +kernel) (pa_cons (pv 6) (pa_cons (pe_bltn (v := .ty "str") (by rfl) nb.b_str (by decide +kernel) rfl) pa_nil))))) pa_nil))))))))
        (pss_one (ps_ret pe_bl))
        pss_nil)
      (pss_cons (ps_if (PW.pt (pw_or (pt_not (pt_val (pe_own D_law_is_name hr (pa_cons (pe_ix ix_tup (pv 1) pe_int (fun _ _ => rfl)) pa_nil)))) (pw_or (pt_cmpR (op_ninN (u65 hr)) (pe_ix ix_tup (pv 1) pe_int (fun _ _ => rfl)) (pe_tup (pa_cons pe_str (pa_cons pe_str (pa_cons pe_str pa_nil)))) (by rfl)) (pw_or1 (pt_cmp (pc_dnotin hu (pe_ix ix_tup (pv 1) pe_int (fun _ _ => rfl)) (pv 2)) (by rfl))))))
        (pss_one (ps_ret pe_bl))
        pss_nil)
      (pss_cons (ps_asg (pe_slice sl_tup (pv 1) (po_some pe_int) po_none) (pg_tup rfl (pgs_cons (pg_name (i := 3) nd rfl (Or.inl rfl)) (pgs_cons (pg_name (i := 4) nd rfl (Or.inl rfl)) (pgs_cons (pg_name (i := 5) nd rfl (Or.inl rfl)) pgs_nil)))))
      (pss_cons (ps_if (PW.pt (pw_or (pt_cmpR (op_ninN (u65 hr)) (pe_ix ix_tup (pv 1) pe_int (fun _ _ => rfl)) (pe_tup (pa_cons pe_str (pa_cons pe_str (pa_cons pe_str pa_nil)))) (by rfl)) (pw_or1 (PW.pt (pw_and (pt_cmpR op_notN (pv 3) pe_non (nomark _)) (pw_and1 (pt_not (pt_val (pe_callB call_isi (by rfl) nb.b_isinstance (by decide +kernel) (pa_cons (pv 3) (pa_cons (pe_bltn (v := .ty "str") (by rfl) nb.b_str (by decide +kernel) rfl) pa_nil)))))))))))
        (pss_one (ps_ret pe_bl))
        pss_nil)
      (pss_cons (ps_if (PW.pt (pw_and (pt_cmpR op_notN (pv 3) pe_non (nomark _)) (pw_and1 (PW.pt (pw_or (pt_cmpR op_ne (pe_ix ix_tup (pv 1) pe_int (fun _ _ => rfl)) pe_str (nomark _)) (pw_or1 (pt_cmpR (op_ninN (u65 hr)) (pv 3) (pe_dget hu (pv 2) (pe_ix ix_tup (pv 1) pe_int (fun _ _ => rfl)) (fun _ _ => rfl)) (by rfl))))))))
        (pss_one (ps_ret pe_bl))
        pss_nil)
      (pss_cons (ps_if (pt_cmpR op_notN (pv 4) pe_non (nomark _))
        (pss_cons (ps_if (PW.pt (pw_or (pt_not (pt_val (pe_callB call_isi (by rfl) nb.b_isinstance (by decide +kernel) (pa_cons (pv 4) (pa_cons (pe_bltn (v := .ty "tuple") (by rfl) nb.b_tuple (by decide +kernel) rfl) pa_nil))))) (pw_or (pt_cmpR op_ne (pe_callB call_len_seq (by rfl) nb.b_len (by decide +kernel) (pa_cons (pv 4) pa_nil)) pe_int (nomark _)) (pw_or1 (pt_not (pt_val (pe_callB call_isi (by rfl) nb.b_isinstance (by decide +kernel) (pa_cons (pe_ix ix_tup (pv 4) pe_int (fun _ _ => rfl)) (pa_cons (pe_bltn (v := .ty "str") (by rfl) nb.b_str (by decide +kernel) rfl) pa_nil)))))))))
          (pss_one (ps_ret pe_bl))
          pss_nil)
        (pss_cons (ps_if (PW.pt (pw_or (pt_cmpR (op_ninN (u65 hr)) (pe_ix ix_tup (pv 4) pe_int (fun _ _ => rfl)) (pe_tup (pa_cons pe_str (pa_cons pe_str (pa_cons pe_str pa_nil)))) (by rfl)) (pw_or1 (pt_not (pt_val (pe_own D_law_is_place hr (pa_cons (pv 0) (pa_cons (pv 1) (pa_cons (pe_ix ix_tup (pv 4) pe_int (fun _ _ => rfl)) pa_nil)))))))))
          (pss_one (ps_ret pe_bl))
          pss_nil)
        (pss_one (ps_if (pt_not (pt_val (pe_own D_law_is_place hr (pa_cons (pv 0) (pa_cons (pv 1) (pa_cons (pe_ix ix_tup (pv 4) pe_int (fun _ _ => rfl)) pa_nil))))))
          (pss_one (ps_ret pe_bl))
          pss_nil))))
        pss_nil)
      (pss_cons (ps_if (PW.pt (pw_or (pt_not (pt_val (pe_callB call_isi (by rfl) nb.b_isinstance (by decide +kernel) (pa_cons (pv 5) (pa_cons (pe_bltn (v := .ty "tuple") (by rfl) nb.b_tuple (by decide +kernel) rfl) pa_nil))))) (pw_or1 (pt_cmpR op_eq (pe_ix ix_tup (pv 1) pe_int (fun _ _ => rfl)) pe_str (nomark _)))))
        (pss_one (ps_ret (pe_and (pe_callB call_isi (by rfl) nb.b_isinstance (by decide +kernel) (pa_cons (pv 5) (pa_cons (pe_bltn (v := .ty "tuple") (by rfl) nb.b_tuple (by decide +kernel) rfl) pa_nil))) (pe_and (pe_cmpR (op_eqD hr.units) (pv 5) (pe_tup pa_nil) (nomark _)) (pe_one (pe_cmpR op_notN (pv 4) pe_non (nomark _)))))))
        pss_nil)
      (pss_one (ps_ret (pe_and (pe_chain op_lt op_lt pe_int (pe_callB call_len_seq (by rfl) nb.b_len (by decide +kernel) (pa_cons (pv 5) pa_nil)) pe_int) (pe_one (pe_callB (cr_all rfl) (by rfl) nb.b_all (by decide +kernel) (pa_cons (pe_lc (own := [("act", 7)]) (g := (gName 7)) (tt := tYes) rfl nd (pi_tup (pv 5)) (blkOk_by (N := N_law_is_rule) (sc := defScope s_law_is_rule) (by decide +kernel)) (fun _ _ _ _ _ => (pg_name (i := 7) nd rfl (Or.inl rfl))) (fun _ _ _ _ _ => pts_nil) (fun _ _ _ _ _ => (pe_own D_law_is_act hr (pa_cons (pv 0) (pa_cons (pv 1) (pa_cons (pv 7) pa_nil)))))) pa_nil)))))))))))))), ?_⟩
  -- named
  refine ⟨.ref tp, rfl, tp, ts, rfl, hT, fun Dn pcs H1 s1 eDn lp hn => ?_⟩
  have eDn2 : H1 Dn = some (.lst ((pcs.map (·.1)).map V.ref)) := by rw [eDn, List.map_map]; rfl
  refine ⟨Dn, pcs.map (·.1), namedKV ts pcs, rfl, .inl (.inl eDn2), named_pairs lp hn, fun Dd nDd => ?_⟩
  have ND2 := named_d hT.ok.nd lp hn nDd
  have s2 := s1.trans (same_upd (o := .dK (mergeK [] (namedKV ts pcs))) nDd)
  refine gN0 ?_
  dsimp only [List.set]
  show tSeq (tIfS _ _ _) (tSeq _ _) _ [some (.ref tp), some v, some (.ref Dd), none, none, none, none, none] (upd H1 Dd (.dK (mergeK [] (namedKV ts pcs))))
  generalize upd H1 Dd (.dK (mergeK [] (namedKV ts pcs))) = H2 at ND2 s2 ⊢
  refine ⟨v, rfl, v, .ty "tuple", _, _, _, rfl, .ty "tuple", dp_ty (dp_same s2 hd), kit_t d, _, rfl, ?_⟩
  cases ht : isTB d with
  | false =>
    refine iteT (iteT (q' H2 s2 _ ?_))
    cases d <;> first | rfl | cases ht
  | true =>
  refine iteF ?_
  obtain ⟨p, xs, ds, rfl, rfl, hS, hA⟩ := isT_of hd ht
  have l := dpAll_len hA
  have l9 := hf.1
  have hS2 := sameT s2 hS
  refine ⟨.ref p, rfl, p, xs, rfl, .inr hS2, rfl, _, rfl, ?_⟩
  have hlen : decide (V.int (xs.length : Int) = V.int 7) = decide (ds.length = 7) := by
    rw [l]
    exact decide_eq_decide.mpr ⟨fun h => by have := V.int.inj h; omega, fun h => by rw [h]; rfl⟩
  rw [hlen]
  cases h7 : decide (ds.length = 7) with
  | false =>
    have h7 := of_decide_eq_false h7
    refine iteT (iteT (q' H2 s2 _ ?_))
    match ds, h7 with
    | [], _ => rfl
    | [_], _ => rfl
    | [_, _], _ => rfl
    | [_, _, _], _ => rfl
    | [_, _, _, _], _ => rfl
    | [_, _, _, _, _], _ => rfl
    | [_, _, _, _, _, _], _ => rfl
    | [_, _, _, _, _, _, _], h => exact absurd rfl h
    | _ :: _ :: _ :: _ :: _ :: _ :: _ :: _ :: _, _ => rfl
  | true =>
  have h7 := of_decide_eq_true h7
  refine iteF ?_
  obtain ⟨r, sd, tb, kd, co, te, ac, rfl⟩ : ∃ r sd tb kd co te ac, ds = [r, sd, tb, kd, co, te, ac] := by
    match ds, h7 with
    | [a, b, c, d, e, f, g], _ => exact ⟨a, b, c, d, e, f, g, rfl⟩
  have hm : ∀ e ∈ [r, sd, tb, kd, co, te, ac], Fit e ∧ SeqAt.shaped e = true := fun e h => ⟨fit_mem hf.2 h, shaped_mem hs h⟩
  cases hA with
  | cons dr hA =>
  cases hA with
  | cons dsd hA =>
  cases hA with
  | cons dtb hA =>
  cases hA with
  | cons dkd hA =>
  cases hA with
  | cons dco hA =>
  cases hA with
  | cons dte hA =>
  cases hA with
  | cons dac hA =>
  cases hA
  rename_i x0 x1 x2 x3 x4 x5 x6
  obtain ⟨fr, sr⟩ := hm r (by simp)
  obtain ⟨_, ssd⟩ := hm sd (by simp)
  obtain ⟨_, stb⟩ := hm tb (by simp)
  obtain ⟨_, skd⟩ := hm kd (by simp)
  obtain ⟨_, sco⟩ := hm co (by simp)
  obtain ⟨fte, ste⟩ := hm te (by simp)
  obtain ⟨fac, sac⟩ := hm ac (by simp)
  have eR : ruleB ts (.tuple [r, sd, tb, kd, co, te, ac]) = (nameB r && (inS sides3 sd && (inS (tns ts) tb && (inS kinds3 kd && (rcolB (strOf kd) (cns ts (strOf tb)) co &&
      (testB (readP (strOf sd) (strOf kd) (cns ts (strOf tb))) (strOf sd) te && actsB ts (readP (strOf sd) (strOf kd) (cns ts (strOf tb))) (strOf sd) ac)))))) := rfl
  -- rule[:4]
  refine ⟨.ref p, rfl, 4, rfl, p, _, rfl, hS2, (fun z => absurd (show HT.sIx 7 7 (some 4) = 7 from z.2) (by decide)), fun p2 n2 => ?_⟩
  rw [show cutV [x0, x1, x2, x3, x4, x5, x6] none (some 4) = [x0, x1, x2, x3] from cut_hi [x0, x1, x2, x3, x4, x5, x6] 4]
  have sp2 := same_upd (o := .tup [x0, x1, x2, x3]) n2
  have s3 := s2.trans sp2
  have ep2 : (upd H2 p2 (.tup [x0, x1, x2, x3])) p2 = some (.tup [x0, x1, x2, x3]) := upd_same
  generalize upd H2 p2 (.tup [x0, x1, x2, x3]) = H3 at sp2 s3 ep2 ⊢
  have dA2 : DpAll K H3 [x0, x1, x2, x3] [r, sd, tb, kd] := .cons (dp_same s3 dr) (.cons (dp_same s3 dsd) (.cons (dp_same s3 dtb) (.cons (dp_same s3 dkd) .nil)))
  refine ⟨p2, rfl, ⟨_, .inl (.inl ep2)⟩, fun D nD => ?_⟩
  refine lc_it walk_tup (PvM H3 D fun i => .bl (isSB ([r, sd, tb, kd].getD i .none))) (pvm_start ..) (fun i H4 _ hP => sameT (pvm_same hP nD) (.inl (.inl ep2))) (fun i x H4 H5 hi hP hY => ?_) (fun H4 hP => ?_)
  · obtain ⟨rfl, hx⟩ := hY
    obtain ⟨d3, h1, h2⟩ := dpAll_get i dA2 hx
    refine ⟨rfl, yesI ?_⟩
    refine iteT ?_
    have hi2 : i < 4 := hi
    refine ⟨x, rfl, x, .ty "str", _, _, _, rfl, .ty "str", dp_ty (dp_same (pvm_same hP nD) h2), kit_s d3, pvm_step hP (Same.refl _) ?_ (by omega)⟩
    rw [getD_of h1]
  have s4 := s3.trans (pvm_same hP nD)
  have ND4 := (ND2.same sp2).same (pvm_same hP nD)
  refine ⟨D, [isSB r, isSB sd, isSB tb, isSB kd], rfl, .inl (.inl (by rw [hP.1]; rfl)), _, rfl, ?_⟩
  have nm0 : isSB r = false → nameB r = false := fun h => by cases r <;> first | rfl | cases h
  have in0 : ∀ (zs : List Str) (e : PyData), isSB e = false → inS zs e = false := fun zs e h => by cases e <;> first | rfl | cases h
  cases ha : [isSB r, isSB sd, isSB tb, isSB kd].all id with
  | false =>
    refine iteT (q' H4 s4 _ ?_)
    rw [eR]
    cases g1 : isSB r with
    | false => rw [nm0 g1]; rfl
    | true =>
    cases g2 : isSB sd with
    | false => rw [in0 _ _ g2]; simp
    | true =>
    cases g3 : isSB tb with
    | false => rw [in0 _ _ g3]; simp
    | true =>
    cases g4 : isSB kd with
    | false => rw [in0 _ _ g4]; simp
    | true => rw [g1, g2, g3, g4] at ha; cases ha
  | true =>
  refine iteF ?_
  obtain ⟨z0, rfl⟩ : ∃ z, r = .str z := by cases r <;> first | exact ⟨_, rfl⟩ | cases ha
  obtain ⟨side, rfl⟩ : ∃ z, sd = .str z := by cases sd <;> first | exact ⟨_, rfl⟩ | cases ha
  obtain ⟨t, rfl⟩ : ∃ z, tb = .str z := by cases tb <;> first | exact ⟨_, rfl⟩ | cases ha
  obtain ⟨kind, rfl⟩ : ∃ z, kd = .str z := by cases kd <;> first | exact ⟨_, rfl⟩ | cases ha
  cases dr; cases dsd; cases dtb; cases dkd
  have hS4 := sameT s4 hS
  -- name, side, table
  refine ⟨.ref p, rfl, p, _, 0, .str z0, rfl, rfl, hS4, atI_nat (j := 0) rfl, .str z0, .str z0, rfl, .str _, fr, fun H5 s5' => ⟨_, rfl, ?_⟩⟩
  have s5 := s4.trans s5'
  cases g1 : nameB (.str z0) with
  | false => exact iteT (iteT (q' H5 s5 _ (by rw [eR, g1]; rfl)))
  | true =>
  refine iteF ?_
  refine ⟨.ref p, rfl, p, _, 1, .str side, rfl, rfl, sameT s5 hS, atI_nat (j := 1) rfl, (by show 3 ≤ sizeLine; decide), fun pt nt => ?_⟩
  have s6' := same_upd (o := .tup [.str "ahead", .str "row", .str "deed"]) nt
  have s6 := s5.trans s6'
  refine ⟨.str side, sides3, pt, rfl, .str _, ssd, .inr (.inl (.inl upd_same)), shaped_strs (fun z hz => signs_ok z (List.mem_append_right _ (List.mem_append_left _ hz))), _, rfl, ?_⟩
  generalize upd H5 pt (.tup [.str "ahead", .str "row", .str "deed"]) = H6 at s6' s6 ⊢
  cases g2 : inS sides3 (.str side) with
  | false => exact iteT (iteT (q' H6 s6 _ (by rw [eR, g1, g2]; rfl)))
  | true =>
  refine iteF ?_
  have ND6 := (ND4.same s5').same s6'
  obtain ⟨kvs, k1, k2, k3⟩ := ND6.ex
  refine ⟨.ref p, rfl, p, _, 2, .str t, rfl, rfl, sameT s6 hS, atI_nat (j := 2) rfl, .ref Dd, rfl, Dd, valV kvs (Sum.inr t), rfl, DGet.k (k := Sum.inr t) k1, _, rfl, ?_⟩
  by_cases htm : t ∈ tns ts
  case neg =>
    rw [k3 t htm]
    exact iteT (q' H6 s6 _ (by
      rw [eR, g1, g2]
      have : inS (tns ts) (.str t) = false := decide_eq_false htm
      rw [this]; rfl))
  have g3 : inS (tns ts) (.str t) = true := decide_eq_true htm
  obtain ⟨cc, c1, c2⟩ := k2 t htm
  rw [c1]
  refine iteF ?_
  -- rule[4:]
  refine ⟨.ref p, rfl, 4, rfl, p, _, rfl, sameT s6 hS, (fun z => absurd (show HT.sIx 7 0 (some 4) = 0 from z.1) (by decide)), fun p3 n3 => ?_⟩
  rw [show cutV [V.str z0, .str side, .str t, .str kind, x4, x5, x6] (some 4) none = [x4, x5, x6] from cut_lo [V.str z0, .str side, .str t, .str kind, x4, x5, x6] 4]
  have s7' := same_upd (o := .tup [x4, x5, x6]) n3
  have s7 := s6.trans s7'
  refine ⟨p3, _, rfl, .inl (.inl upd_same), rfl, x4, _, rfl, x5, _, rfl, x6, _, rfl, rfl, ?_⟩
  have k1' := s7' _ _ k1
  have c2' := s7' _ _ c2
  generalize upd H6 p3 (.tup [x4, x5, x6]) = H7 at s7' s7 k1' c2' ⊢
  obtain ⟨zs, hzs⟩ : ∃ zs, zs = cns ts t := ⟨_, rfl⟩
  obtain ⟨hcn, _, _, _⟩ := cns_ok hT.ok htm
  rw [← hzs] at hcn c2'
  dsimp only [List.set]
  show tSeq (tIfS _ _ _) (tSeq _ (tSeq _ _)) _ [some (.ref tp), some (.ref p), some (.ref Dd), some x4, some x5, some x6, none, none] H7
  refine splitT0 (fun H' => Same H7 H' ∧ rcolB kind zs co = true ∧ inS kinds3 (.str kind) = true) [some (.ref tp), some (.ref p), some (.ref Dd), some x4, some x5, some x6, none, none] (fun H8 hP => ?_) (fun rest => ?_)
  rotate_left
  · -- kind, column
    refine ⟨.ref p, rfl, p, _, 3, .str kind, rfl, rfl, sameT s7 hS, atI_nat (j := 3) rfl, (by show 3 ≤ sizeLine; decide), fun pt2 nt2 => ?_⟩
    have s8' := same_upd (o := .tup [.str "put", .str "drop", .str "set"]) nt2
    have s8 := s7.trans s8'
    refine ⟨.str kind, kinds3, pt2, rfl, .str _, skd, .inr (.inl (.inl upd_same)), shaped_strs (fun z hz => signs_ok z (List.mem_append_right _ (List.mem_append_right _ (List.mem_append_left _ hz)))), _, rfl, ?_⟩
    have k1'' := s8' _ _ k1'
    have c2'' := s8' _ _ c2'
    generalize upd H7 pt2 (.tup [.str "put", .str "drop", .str "set"]) = H8 at s8' s8 k1'' c2'' ⊢
    cases g4 : inS kinds3 (.str kind) with
    | false => exact iteT (iteT (q' H8 s8 _ (by rw [eR, g1, g2, g3, g4]; rfl)))
    | true =>
    refine iteF ?_
    have eR2 : ruleB ts (.tuple [.str z0, .str side, .str t, .str kind, co, te, ac]) = (rcolB kind zs co && (testB (readP side kind zs) side te && actsB ts (readP side kind zs) side ac)) := by
      rw [eR, g1, g2, g3, g4, hzs]; rfl
    have hdg := DGet.k (k := Sum.inr t) k1''
    rw [c1] at hdg
    refine ⟨x4, rfl, rfl, _, rfl, ?_⟩
    rw [isN_v (dp_same s8 dco)]
    cases hn : isN co with
    | true =>
      refine iteF (iteF ?_)
      refine ⟨x4, rfl, rfl, _, rfl, ?_⟩
      rw [isN_v (dp_same s8 dco), hn]
      exact iteF (iteF (rest H8 ⟨s8', by unfold rcolB; rw [hn]; rfl, g4⟩))
    | false =>
    refine iteT ⟨x4, rfl, x4, .ty "str", _, _, _, rfl, .ty "str", dp_ty (dp_same s8 dco), kit_s co, _, rfl, ?_⟩
    cases hsb : isSB co with
    | false =>
      refine iteT (q' H8 s8 _ ?_)
      rw [eR2]
      unfold rcolB
      rw [hn, in0 _ _ hsb, Bool.and_false]; rfl
    | true =>
    obtain ⟨c, rfl⟩ : ∃ c, co = .str c := by cases co <;> first | exact ⟨_, rfl⟩ | cases hsb
    refine iteF ?_
    refine ⟨x4, rfl, rfl, _, rfl, ?_⟩
    rw [isN_v (dp_same s8 dco), hn]
    refine iteT ⟨.ref p, rfl, p, _, 3, .str kind, rfl, rfl, sameT s8 hS, atI_nat (j := 3) rfl, rfl, _, rfl, ?_⟩
    by_cases z : kind = "set"
    · rw [decide_eq_true (show V.str kind = V.str "set" by rw [z])]
      refine iteF ⟨x4, rfl, .ref Dd, rfl, .ref p, rfl, p, _, 2, .str t, rfl, rfl, sameT s8 hS, atI_nat (j := 2) rfl, Dd, .ref cc, rfl, hdg, .str c, zs, cc, rfl, dp_same s8 dco, sco, .inl (.inl (.inl c2'')), shaped_strs hcn, _, rfl, ?_⟩
      cases h5 : inS zs (.str c) with
      | false => exact iteT (q' H8 s8 _ (by rw [eR2]; unfold rcolB; rw [hn, h5, Bool.and_false]; rfl))
      | true => exact iteF (rest H8 ⟨s8', by unfold rcolB; rw [hn, h5, decide_eq_true z]; rfl, g4⟩)
    · rw [decide_eq_false (show ¬ V.str kind = V.str "set" from fun h => z (V.str.inj h))]
      exact iteT (iteT (q' H8 s8 _ (by rw [eR2]; unfold rcolB; rw [hn, decide_eq_false z]; rfl)))
  obtain ⟨s8', hcol, g4⟩ := hP
  have s8 := s7.trans s8'
  have eR2 : ruleB ts (.tuple [.str z0, .str side, .str t, .str kind, co, te, ac]) = (testB (readP side kind zs) side te && actsB ts (readP side kind zs) side ac) := by
    have hcol2 := hcol
    rw [hzs] at hcol2
    rw [eR, g1, g2, g3, g4, hzs]
    show (rcolB kind (cns ts t) co && _) = _
    rw [hcol2]; rfl
  have hkind : kind ∈ kinds3 := of_decide_eq_true g4
  have LH : LHead K H8 p ts side t kind := ⟨⟨_, sameT s8 hS, rfl, rfl, rfl⟩, htm, hkind⟩
  obtain ⟨rd, hrd⟩ : ∃ rd, rd = readP side kind (cns ts t) := ⟨_, rfl⟩
  rw [hzs, ← hrd] at eR2
  refine splitS0 (fun v H' => v = .non ∧ Same H8 H' ∧ (isN te = true ∨ testB rd side te = true)) (fun _ => [some (.ref tp), some (.ref p), some (.ref Dd), some x4, some x5, some x6, none, none]) (fun v H9 hP => ?_) (fun rest => ?_)
  rotate_left
  · refine ⟨x5, rfl, rfl, _, rfl, ?_⟩
    rw [isN_v (dp_same s8 dte)]
    cases hn : isN te with
    | true => exact iteF (rest .non H8 ⟨rfl, Same.refl _, .inl hn⟩)
    | false =>
    refine iteT ?_
    refine ⟨x5, rfl, x5, .ty "tuple", _, _, _, rfl, .ty "tuple", dp_ty (dp_same s8 dte), kit_t te, _, rfl, ?_⟩
    cases h1 : isTB te with
    | false =>
      refine iteT (iteT (q' H8 s8 _ ?_))
      rw [eR2]
      cases te <;> first | rfl | exact absurd (show true = false from hn) (by decide) | cases h1
    | true =>
    refine iteF ?_
    obtain ⟨p5, xs5, ds5, rfl, rfl, hS5, hA5⟩ := isT_of dte h1
    have l5 := dpAll_len hA5
    have hS58 := sameT s8 hS5
    refine ⟨.ref p5, rfl, p5, xs5, rfl, .inr hS58, rfl, _, rfl, ?_⟩
    have hl3 : decide (V.int (xs5.length : Int) = V.int 3) = decide (ds5.length = 3) := by
      rw [l5]
      exact decide_eq_decide.mpr ⟨fun h => by have := V.int.inj h; omega, fun h => by rw [h]; rfl⟩
    rw [hl3]
    cases h2 : decide (ds5.length = 3) with
    | false =>
      have h2 := of_decide_eq_false h2
      refine iteT (iteT (q' H8 s8 _ ?_))
      rw [eR2]
      match ds5, h2 with
      | [], _ => rfl
      | [_], _ => rfl
      | [_, _], _ => rfl
      | [_, _, _], h => exact absurd rfl h
      | _ :: _ :: _ :: _ :: _, _ => rfl
    | true =>
    refine iteF ?_
    obtain ⟨a, sg, c, rfl⟩ := three (of_decide_eq_true h2)
    obtain ⟨y0, y1, y2, rfl, da, dsg, dc⟩ := dp3 hA5
    have fa := fit_mem fte.2 (show a ∈ [a, sg, c] by simp)
    have fc := fit_mem fte.2 (show c ∈ [a, sg, c] by simp)
    have sha := shaped_mem ste (show a ∈ [a, sg, c] by simp)
    have shg := shaped_mem ste (show sg ∈ [a, sg, c] by simp)
    have shc := shaped_mem ste (show c ∈ [a, sg, c] by simp)
    have eT : testB rd side (.tuple [a, sg, c]) = (inS signs3 sg && (placeB rd a && placeB rd c)) := rfl
    refine ⟨.ref p5, rfl, p5, _, 1, y1, rfl, rfl, hS58, atI_nat (j := 1) rfl, y1, .ty "str", _, _, _, rfl, .ty "str", dp_ty (dp_same s8 dsg), kit_s sg, _, rfl, ?_⟩
    cases h3 : isSB sg with
    | false => exact iteT (q' H8 s8 _ (by rw [eR2, eT, in0 _ _ h3]; rfl))
    | true =>
    obtain ⟨sgz, rfl⟩ : ∃ z, sg = .str z := by cases sg <;> first | exact ⟨_, rfl⟩ | cases h3
    cases dsg
    refine iteF ?_
    refine ⟨.ref p5, rfl, p5, _, 1, .str sgz, rfl, rfl, hS58, atI_nat (j := 1) rfl, (by show 3 ≤ sizeLine; decide), fun pt nt => ?_⟩
    have s9' := same_upd (o := .tup [.str "less", .str "like", .str "unlike"]) nt
    have s9 := s8.trans s9'
    refine ⟨.str sgz, signs3, pt, rfl, .str _, shg, .inr (.inl (.inl upd_same)), shaped_strs (fun z hz => signs_ok z (List.mem_append_left _ hz)), _, rfl, ?_⟩
    generalize upd H8 pt (.tup [.str "less", .str "like", .str "unlike"]) = H9 at s9' s9 ⊢
    cases h4 : inS signs3 (.str sgz) with
    | false => exact iteT (iteT (q' H9 s9 _ (by rw [eR2, eT, h4]; rfl)))
    | true =>
    refine iteF ?_
    refine ⟨.ref tp, rfl, .ref p, rfl, .ref p5, rfl, p5, _, 0, y0, rfl, rfl, sameT s9 hS5, atI_nat (j := 0) rfl, tp, p, ts, side, t, kind, y0, a, rfl, hT.same s9, LH.same s9', dp_same s9 da, fa, sha, fun H10 s10' => ⟨_, rfl, ?_⟩⟩
    rw [← hrd]
    have s10 := s9.trans s10'
    cases h5 : placeB rd a with
    | false => exact iteT (q' H10 s10 _ (by rw [eR2, eT, h4, h5]; rfl))
    | true =>
    refine iteF ?_
    refine ⟨.ref tp, rfl, .ref p, rfl, .ref p5, rfl, p5, _, 2, y2, rfl, rfl, sameT s10 hS5, atI_nat (j := 2) rfl, tp, p, ts, side, t, kind, y2, c, rfl, hT.same s10, LH.same (s9'.trans s10'), dp_same s10 dc, fc, shc, fun H11 s11' => ⟨_, rfl, ?_⟩⟩
    rw [← hrd]
    have s11 := s10.trans s11'
    cases h6 : placeB rd c with
    | false => exact iteT (q' H11 s11 _ (by rw [eR2, eT, h4, h5, h6]; rfl))
    | true => exact iteF (rest .non H11 ⟨rfl, s9'.trans (s10'.trans s11'), .inr (by rw [eT, h4, h5, h6]; rfl)⟩)
  obtain ⟨rfl, s9', hte⟩ := hP
  have s9 := s8.trans s9'
  have eN : isN te = true → testB rd side te = decide (side ≠ "ahead") := fun h => by cases te <;> first | rfl | cases h
  refine ⟨x6, rfl, x6, .ty "tuple", _, _, _, rfl, .ty "tuple", dp_ty (dp_same s9 dac), kit_t ac, _, rfl, ?_⟩
  cases h1 : isTB ac with
  | false =>
    refine iteT (iteT ⟨x6, rfl, x6, .ty "tuple", _, _, _, rfl, .ty "tuple", dp_ty (dp_same s9 dac), kit_t ac, _, rfl, ?_⟩)
    rw [h1]
    refine iteF (q' H9 s9 _ ?_)
    rw [eR2]
    have : actsB ts rd side ac = false := by cases ac <;> first | rfl | cases h1
    rw [this, Bool.and_false]
  | true =>
  refine iteF ?_
  obtain ⟨p6, xs6, ds6, rfl, rfl, hS6, hA6⟩ := isT_of dac h1
  have l6 := dpAll_len hA6
  have l69 := fac.1
  have hS69 := sameT s9 hS6
  refine ⟨.ref p, rfl, p, _, 1, .str side, rfl, rfl, sameT s9 hS, atI_nat (j := 1) rfl, rfl, _, rfl, ite2 (fun e => ?_) (fun e => ?_)⟩
  · have e : side = "ahead" := V.str.inj (of_decide_eq_true e)
    refine ⟨.ref p6, rfl, .ref p6, .ty "tuple", _, _, _, rfl, .ty "tuple", dp_ty (dp_same s9 dac), kit_t (.tuple ds6), _, rfl, iteT ?_⟩
    refine ⟨.ref p6, rfl, (by show 0 ≤ sizeLine; decide), fun pt nt => ?_⟩
    have s10' := same_upd (o := .tup []) nt
    have s10 := s9.trans s10'
    refine ⟨.tuple ds6, .tuple [], dp_same s10 dac, .tup (.inl (.inl upd_same)) .nil, sac, rfl, _, rfl, ?_⟩
    have eA : actsB ts rd side (.tuple ds6) = PyData.eqv (.tuple ds6) (.tuple []) := by
      show (if side = "ahead" then tupB 0 0 (.tuple ds6) else _) = _
      rw [if_pos e]
      cases ds6 with
      | nil => rfl
      | cons a r =>
        show (decide ((0 : Int) ≤ ((a :: r).length : Int)) && decide (((a :: r).length : Int) ≤ 0)) = false
        rw [decide_eq_false (show ¬ ((a :: r).length : Int) ≤ 0 by rw [List.length_cons]; omega), Bool.and_false]
    cases h2 : PyData.eqv (.tuple ds6) (.tuple []) with
    | false => exact iteF (q' _ s10 _ (by rw [eR2, eA, h2, Bool.and_false]))
    | true =>
      refine iteT ⟨x5, rfl, rfl, ?_⟩
      rw [isN_v (dp_same s10 dte)]
      refine q' _ s10 _ ?_
      rw [eR2, eA, h2, Bool.and_true]
      cases h3 : isN te with
      | true =>
        rw [eN h3, decide_eq_false (fun h => h e)]; rfl
      | false =>
        rw [h3] at hte
        rw [hte.resolve_left (fun z => by cases z)]; rfl
  have e : side ≠ "ahead" := fun z => e (decide_eq_true (by rw [z]))
  have eT : testB rd side te = true := by
    rcases hte with h | h
    · rw [eN h]; exact decide_eq_true e
    · exact h
  rw [eT, Bool.true_and] at eR2
  have eA : actsB ts rd side (.tuple ds6) = (tupB 1 3 (.tuple ds6) && ds6.all (actB ts rd)) := by
    show (if side = "ahead" then _ else _) = _
    rw [if_neg e]
  refine ⟨.ref p6, rfl, p6, xs6, rfl, .inr hS69, _, _, rfl, rfl, _, rfl, ite2 (fun h2 => ?_) (fun h2 => ?_)⟩
  · have h2 : (0 : Int) < (xs6.length : Int) := of_decide_eq_true h2
    refine ⟨_, _, rfl, rfl, _, rfl, ite2 (fun h3 => ?_) (fun h3 => ?_)⟩
    · have h3 : (xs6.length : Int) < 4 := of_decide_eq_true h3
      have t13 : tupB 1 3 (.tuple ds6) = true := by
        show (decide ((1 : Int) ≤ (ds6.length : Int)) && decide ((ds6.length : Int) ≤ 3)) = true
        rw [decide_eq_true (by omega), decide_eq_true (by omega)]; rfl
      refine ⟨.ref p6, rfl, p6, rfl, ⟨_, hS69⟩, fun D nD => ?_⟩
      refine lc_it walk_tup (PvM H9 D fun i => .bl (actB ts rd (ds6.getD i .none))) (pvm_start ..) (fun i H2 _ hP => sameT (s9.trans (pvm_same hP nD)) hS6) (fun i x H2 H3 hi hP hY => ?_) (fun H2 hP => ?_)
      · obtain ⟨rfl, hx⟩ := hY
        obtain ⟨d1, h1, h2⟩ := dpAll_get i hA6 hx
        have hm1 := List.mem_of_getElem? h1
        have sk := s9.trans (pvm_same hP nD)
        refine ⟨rfl, yesI ?_⟩
        refine iteT ?_
        refine ⟨.ref tp, rfl, .ref p, rfl, x, rfl, tp, p, ts, side, t, kind, x, d1, rfl, hT.same sk, LH.same (s9'.trans (pvm_same hP nD)), dp_same sk h2, fit_mem fac.2 hm1, shaped_mem sac hm1, fun H4 s4 => pvm_step hP s4 ?_ (by omega)⟩
        rw [getD_of h1, ← hrd]
      · have s10 := s9.trans (pvm_same hP nD)
        refine ⟨D, (List.range xs6.length).map fun i => actB ts rd (ds6.getD i .none), rfl, .inl (.inl ?_), ?_⟩
        · rw [hP.1, List.map_map]; rfl
        rw [l6, range_all]
        exact q' H2 s10 _ (by rw [eR2, eA, t13]; rfl)
    · refine q' H9 s9 _ ?_
      have h3 : ¬ (xs6.length : Int) < 4 := fun z => h3 (decide_eq_true z)
      rw [eR2, eA]
      show false = ((decide ((1 : Int) ≤ (ds6.length : Int)) && decide ((ds6.length : Int) ≤ 3)) && _)
      rw [decide_eq_false (show ¬ (ds6.length : Int) ≤ 3 by omega), Bool.and_false]; rfl
  · refine ⟨_, rfl, iteF (q' H9 s9 _ ?_)⟩
    have h2 : ¬ (0 : Int) < (xs6.length : Int) := fun z => h2 (decide_eq_true z)
    rw [eR2, eA]
    show false = ((decide ((1 : Int) ≤ (ds6.length : Int)) && decide ((ds6.length : Int) ≤ 3)) && _)
    rw [decide_eq_false (show ¬ (1 : Int) ≤ (ds6.length : Int) by omega)]; rfl
end
end TT

set_option Elab.async false
set_option linter.all false
set_option maxRecDepth 100000
namespace TT
open PySem PySem.Spec PyProof.Rows L2
section
variable {P : Program} {w : World} {K : PySem.W.Frag} {mg : Str → Option Value} {base : Heap}
abbrev s_law_is_rules : Stmt := topS 49
abbrev N_law_is_rules : List Str := ["tables", "thing", "rule"]
theorem sc_law_is_rules : FnScope N_law_is_rules ["tables", "thing"] (defScope s_law_is_rules) := ⟨rfl, rfl, rfl, by decide +kernel, rfl, by decide +kernel, by decide +kernel⟩

set_option maxHeartbeats 4000000 in
theorem ok_law_is_rules {f : Addr} {fd : FuncData} (F : Fun K "_law_is_rules" "_law_is_rules" s_law_is_rules f fd) (nb : NB mg) (D_law_is_rule : Def P w K mg base 6 "_law_is_rule" ["tables", "rule"] (spTs ruleB K)) : FnOk P w K mg base CX0 7 f fd ["tables", "thing"] (spTs rulesB K) := by
  refine F.ok sc_law_is_rules (fun vs H Q E h => ?_) (fun cdv A outer sh H vs Q E hr h => ?_)
  · obtain ⟨tp, ts, v, d, rfl, _⟩ := h
    rfl
  obtain ⟨tp, ts, v, d, rfl, hT, hd, hf, hs, q⟩ := h
  have nd := sc_law_is_rules.nd
  have q' : ∀ H', Same H H' → ∀ b, b = rulesB ts d → Q (.bl b) H' := fun H' s b e => by rw [e]; exact q H' s
  refine ⟨_, (pss_cons (ps_if (PW.pt (pw_or (pt_not (pt_val (pe_callB call_isi (by rfl) nb.b_isinstance (by decide +kernel) (pa_cons (pv 1) (pa_cons (pe_bltn (v := .ty "tuple") (by rfl) nb.b_tuple (by decide +kernel) rfl) pa_nil))))) (pw_or (pt_cmpR op_gt (pe_callB call_len_seq (by rfl) nb.b_len (by decide +kernel) (pa_cons (pv 1) pa_nil)) pe_int (nomark _)) (pw_or1 (pt_not (pt_val (pe_callB (cr_all rfl) (by rfl) nb.b_all (by decide +kernel) (pa_cons (pe_lc (own := [("rule", 2)]) (g := (gName 2)) (tt := tYes) rfl nd (pi_tup (pv 1)) (blkOk_by (N := N_law_is_rules) (sc := defScope s_law_is_rules) (by decide +kernel)) (fun _ _ _ _ _ => (pg_name (i := 2) nd rfl (Or.inl rfl))) (fun _ _ _ _ _ => pts_nil) (fun _ _ _ _ _ => (pe_own D_law_is_rule hr (pa_cons (pv 0) (pa_cons (pv 2) pa_nil))))) pa_nil))))))))
        (pss_one (ps_ret pe_bl))
        pss_nil)
      (pss_one (ps_ret (pe_cmpR op_eq (pe_lenUnlike nb.b_len nb.b_set (pe_lc (own := [("rule", 2)]) (g := (gName 2)) (tt := tYes) rfl nd (pi_tup (pv 1)) (blkOk_by (N := N_law_is_rules) (sc := defScope s_law_is_rules) (by decide +kernel)) (fun _ _ _ _ _ => (pg_name (i := 2) nd rfl (Or.inl rfl))) (fun _ _ _ _ _ => pts_nil) (fun _ _ _ _ _ => (pe_ix (r := rIx K) ix_seq (pv 2) pe_int (fun _ _ => rfl))))) (pe_callB call_len_seq (by rfl) nb.b_len (by decide +kernel) (pa_cons (pv 1) pa_nil)) (nomark _))))), ?_⟩
  refine ⟨v, rfl, v, .ty "tuple", _, _, _, rfl, .ty "tuple", dp_ty hd, kit_t d, _, rfl, ?_⟩
  cases ht : isTB d with
  | false =>
    refine iteT (iteT (q' H (Same.refl H) _ ?_))
    cases d <;> first | rfl | cases ht
  | true =>
  refine iteF ?_
  obtain ⟨p, xs, ds, rfl, rfl, hS, hA⟩ := isT_of hd ht
  have l := dpAll_len hA
  have l9 := hf.1
  refine ⟨.ref p, rfl, p, xs, rfl, .inr hS, _, _, rfl, rfl, _, rfl, ite2 (fun h8 => ?_) (fun h8 => ?_)⟩
  · have h8 : (xs.length : Int) > 8 := of_decide_eq_true h8
    refine iteT (q' H (Same.refl H) _ ?_)
    show false = ((decide ((0 : Int) ≤ (ds.length : Int)) && decide ((ds.length : Int) ≤ 8)) && _)
    rw [decide_eq_false (show ¬ (ds.length : Int) ≤ 8 by omega), Bool.and_false]; rfl
  have h8 : ¬ (xs.length : Int) > 8 := fun z => h8 (decide_eq_true z)
  have t8 : tupB 0 8 (.tuple ds) = true := by
    show (decide ((0 : Int) ≤ (ds.length : Int)) && decide ((ds.length : Int) ≤ 8)) = true
    rw [decide_eq_true (by omega), decide_eq_true (by omega)]; rfl
  have eR : rulesB ts (.tuple ds) = (ds.all (ruleB ts) && decide ((ds.map ruleNm).Nodup)) := by
    show (tupB 0 8 (.tuple ds) && _) = _
    rw [t8]; rfl
  refine ⟨.ref p, rfl, p, rfl, ⟨_, hS⟩, fun D nD => ?_⟩
  refine lc_it walk_tup (PvM H D fun i => .bl (ruleB ts (ds.getD i .none))) (pvm_start ..) (fun i H2 _ hP => sameT (pvm_same hP nD) hS) (fun i x H2 H3 hi hP hY => ?_) (fun H2 hP => ?_)
  · obtain ⟨rfl, hx⟩ := hY
    obtain ⟨d1, h1, h2⟩ := dpAll_get i hA hx
    have hm := List.mem_of_getElem? h1
    have sk := pvm_same hP nD
    refine ⟨rfl, yesI ?_⟩
    refine iteT ?_
    refine ⟨.ref tp, rfl, x, rfl, tp, ts, x, d1, rfl, hT.same sk, dp_same sk h2, fit_mem hf.2 hm, shaped_mem hs hm, fun H4 s4 => pvm_step hP s4 ?_ (by omega)⟩
    rw [getD_of h1]
  have s2 := pvm_same hP nD
  refine ⟨D, (List.range xs.length).map fun i => ruleB ts (ds.getD i .none), rfl, .inl (.inl ?_), _, rfl, ?_⟩
  · rw [hP.1, List.map_map]; rfl
  rw [l, range_all]
  cases ha : ds.all (ruleB ts) with
  | false => exact iteT (q' H2 s2 _ (by rw [eR, ha]; rfl))
  | true =>
  refine iteF ?_
  have hall := List.all_eq_true.mp ha
  refine ⟨.ref p, rfl, p, rfl, ⟨_, sameT s2 hS⟩, fun D2 nD2 => ?_⟩
  refine lc_it walk_tup (PvM H2 D2 fun i => .str (ruleNm (ds.getD i .none))) (pvm_start ..) (fun i H3 _ hP3 => sameT (s2.trans (pvm_same hP3 nD2)) hS) (fun i x H3 H4 hi hP3 hY => ?_) (fun H3 hP3 => ?_)
  · obtain ⟨rfl, hx⟩ := hY
    obtain ⟨d1, h1, h2⟩ := dpAll_get i hA hx
    have hm := List.mem_of_getElem? h1
    have sk := s2.trans (pvm_same hP3 nD2)
    obtain ⟨z, dr, rfl, hz⟩ := rule_nm (hall d1 hm)
    cases h2 with
    | tup a1 a2 =>
    cases a2 with
    | cons b1 b2 =>
    cases b1
    rename_i q1 vs1
    refine ⟨rfl, yesI ?_⟩
    refine iteT ?_
    refine ⟨.ref q1, rfl, .inr (.inl ⟨q1, _, 0, .str z, rfl, rfl, sameT sk a1, atI_nat (j := 0) rfl, pvm_step hP3 (Same.refl _) ?_ (by omega)⟩)⟩
    rw [getD_of h1, hz]
  have s3 := s2.trans (pvm_same hP3 nD2)
  have eD2 : H3 D2 = some (.lst ((ds.map ruleNm).map V.str)) := by
    rw [hP3.1, l]
    have e := range_map (fun d => V.str (ruleNm d)) PyData.none ds
    rw [e, List.map_map]; rfl
  refine ⟨D2, ds.map ruleNm, rfl, .inl (.inl eD2), by rw [List.length_map]; omega, .ref p, rfl, p, xs, rfl, .inr (sameT s3 hS), rfl, ?_⟩
  refine q' H3 s3 _ ?_
  rw [eR, ha, Bool.true_and, ← unlike_nodup, List.length_map, l]
  exact decide_eq_decide.mpr ⟨fun z => V.int.inj z, fun z => by rw [z]⟩
end
end TT

set_option Elab.async false
set_option linter.all false
set_option maxRecDepth 100000
namespace TT
open PySem PySem.Spec PyProof.Rows L2
section
variable {P : Program} {w : World} {K : PySem.W.Frag} {mg : Str → Option Value} {base : Heap}
def spToldR (K : PySem.W.Frag) : Sp := fun vs H Q _ => ∃ (tp : Addr) (ts : List Tab) (v : V) (d : PyData), vs = [.ref tp, v] ∧ Tabs K H tp ts ∧ Dp K H v d ∧ Fit d ∧ SeqAt.shaped d = true ∧ Shows (.list [.tuple (ts.map tabD), d]) ∧ ∀ H', Same H H' → Q (.bl true) H'
abbrev s_law_told_right : Stmt := topS 51
abbrev N_law_told_right : List Str := ["tables", "thing", "kept", "found"]
theorem sc_law_told_right : FnScope N_law_told_right ["tables", "thing"] (defScope s_law_told_right) := ⟨rfl, rfl, rfl, by decide +kernel, rfl, by decide +kernel, by decide +kernel⟩

set_option maxHeartbeats 4000000 in
theorem ok_law_told_right {f : Addr} {fd : FuncData} (F : Fun K "_law_told_right" "_law_told_right" s_law_told_right f fd) (nb : NB mg) (D_is_rules : Def P w K mg base 9 "is_rules" ["tables", "thing"] (spTs rulesB K)) (D_law_is_rules : Def P w K mg base 7 "_law_is_rules" ["tables", "thing"] (spTs rulesB K)) : FnG P w K mg base CX0 10 f fd ["tables", "thing"] (spToldR K) := by
  refine okG F sc_law_told_right (fun vs H Q E h => ?_) (fun cdv A outer sh H vs Q E hr hg h => ?_)
  · obtain ⟨tp, ts, v, d, rfl, _⟩ := h
    rfl
  obtain ⟨tp, ts, v, d, rfl, hT, hd, hf, hs, hw, q⟩ := h
  have nd := sc_law_told_right.nd
  refine ⟨_, (pss_cons (ps_par (i := 2) (j := 3) (by rfl) nd rfl rfl (by decide) rfl rfl (pa_cons (pe_callB (call_repr_d hg hr) (by rfl) nb.b_repr (by decide +kernel) (pa_cons (pe_lst (pa_cons (pv 0) (pa_cons (pv 1) pa_nil))) pa_nil)) (pa_cons (pe_own D_is_rules hr (pa_cons (pv 0) (pa_cons (pv 1) pa_nil))) pa_nil)) (by rfl))
      (pss_one (ps_ret (pe_and (pe_callB call_isi (by rfl) nb.b_isinstance (by decide +kernel) (pa_cons (pv 3) (pa_cons (pe_bltn (v := .ty "bool") (by rfl) nb.b_bool (by decide +kernel) rfl) pa_nil))) (pe_and (pe_cmpR op_eq (pv 3) (pe_own D_law_is_rules hr (pa_cons (pv 0) (pa_cons (pv 1) pa_nil))) (nomark _)) (pe_one (pe_cmpR op_eq (pe_callB (call_repr_d hg hr) (by rfl) nb.b_repr (by decide +kernel) (pa_cons (pe_lst (pa_cons (pv 0) (pa_cons (pv 1) pa_nil))) pa_nil)) (pv 2) (nomark _)))))))), ?_⟩
  refine ⟨.ref tp, rfl, v, rfl, (by show 2 ≤ sizeLine; decide), fun L nL => ?_⟩
  have s1 := same_upd (o := .lst [.ref tp, v]) nL
  have eL : (upd H L (.lst [.ref tp, v])) L = some (.lst [.ref tp, v]) := upd_same
  generalize upd H L (.lst [.ref tp, v]) = H1 at s1 eL ⊢
  refine ⟨.ref L, _, rfl, .lst (.inl (.inl eL)) (.cons (dp_same s1 hT.dp) (.cons (dp_same s1 hd) .nil)), hw.sh, hw.nd, hw.dp, hw.sz, ?_⟩
  refine ⟨.ref tp, rfl, v, rfl, tp, ts, v, d, rfl, hT.same s1, dp_same s1 hd, hf, hs, fun H2 s2' => ⟨_, _, rfl, ?_⟩⟩
  have s2 := s1.trans s2'
  refine ⟨.bl (rulesB ts d), rfl, .bl (rulesB ts d), .ty "bool", _, _, _, rfl, .ty "bool", dp_ty (.bl _ : Dp K H2 (.bl (rulesB ts d)) (.bool (rulesB ts d))), kit_b (.bool (rulesB ts d)), _, rfl, iteT ?_⟩
  refine ⟨.bl (rulesB ts d), rfl, .ref tp, rfl, v, rfl, tp, ts, v, d, rfl, hT.same s2, dp_same s2 hd, hf, hs, fun H3 s3' => ⟨rfl, _, rfl, ?_⟩⟩
  have s3 := s2.trans s3'
  rw [decide_eq_true rfl]
  refine iteT ⟨.ref tp, rfl, v, rfl, (by show 2 ≤ sizeLine; decide), fun L2 nL2 => ?_⟩
  have s4 := s3.trans (same_upd (o := .lst [.ref tp, v]) nL2)
  refine ⟨.ref L2, .list [.tuple (ts.map tabD), d], rfl, .lst (.inl (.inl upd_same)) (.cons (dp_same s4 hT.dp) (.cons (dp_same s4 hd) .nil)), hw.sh, hw.nd, hw.dp, hw.sz, .str _, rfl, rfl, ?_⟩
  rw [decide_eq_true rfl]
  exact q _ s4
end
end TT

set_option Elab.async false
set_option linter.all false
set_option maxRecDepth 100000
namespace TT
open PySem PySem.Spec PyProof.Rows L2
/-! ### sizes of drawn rules -/
mutual
/-- within bounds that grow by one with each bend -/
def Nc (N : Nat) : PyData → Prop
  | .none | .bool _ => True
  | .int i => i.natAbs ≤ 1000000001 + N
  | .str z => z.length ≤ 22 + N ∧ ∀ c ∈ cl z, c < 128
  | .list ds | .tuple ds => ds.length ≤ 16 + N ∧ NcAll N ds
  | .dict _ => False
def NcAll (N : Nat) : List PyData → Prop
  | [] => True
  | d :: ds => Nc N d ∧ NcAll N ds
end
theorem ncAll_iff {N : Nat} : ∀ {ds : List PyData}, NcAll N ds ↔ ∀ d ∈ ds, Nc N d
  | [] => ⟨fun _ _ h => absurd h List.not_mem_nil, fun _ => trivial⟩
  | d :: ds => by
    constructor
    · intro h e he
      rcases List.mem_cons.mp he with rfl | he
      · exact h.1
      · exact ncAll_iff.mp h.2 e he
    · intro h
      exact ⟨h d (List.mem_cons_self ..), ncAll_iff.mpr fun e he => h e (List.mem_cons_of_mem _ he)⟩
mutual
theorem Nc.mono {N N' : Nat} (hN : N ≤ N') : ∀ {d : PyData}, Nc N d → Nc N' d
  | .none, _ => trivial
  | .bool _, _ => trivial
  | .int i, h => Nat.le_trans (show i.natAbs ≤ 1000000001 + N from h) (Nat.add_le_add_left hN _)
  | .str _, h => ⟨Nat.le_trans h.1 (Nat.add_le_add_left hN _), h.2⟩
  | .list ds, h => ⟨Nat.le_trans h.1 (Nat.add_le_add_left hN _), NcAll.mono hN h.2⟩
  | .tuple ds, h => ⟨Nat.le_trans h.1 (Nat.add_le_add_left hN _), NcAll.mono hN h.2⟩
  | .dict _, h => h
theorem NcAll.mono {N N' : Nat} (hN : N ≤ N') : ∀ {ds : List PyData}, NcAll N ds → NcAll N' ds
  | [], _ => trivial
  | d :: ds, h => ⟨Nc.mono hN h.1, NcAll.mono hN h.2⟩
end
mutual
theorem Nc.nice {N : Nat} : ∀ {d : PyData}, Nc N d → Nice (1000000001 + N) (16 + N) d
  | .none, _ => trivial
  | .bool _, _ => trivial
  | .int i, h => h
  | .str _, h => h.2
  | .list ds, h => ⟨h.1, NcAll.nice h.2⟩
  | .tuple ds, h => ⟨h.1, NcAll.nice h.2⟩
  | .dict _, h => h
theorem NcAll.nice {N : Nat} : ∀ {ds : List PyData}, NcAll N ds → NiceAll (1000000001 + N) (16 + N) ds
  | [], _ => trivial
  | d :: ds, h => ⟨Nc.nice h.1, NcAll.nice h.2⟩
end
mutual
theorem Nc.fit {N : Nat} (hN : N ≤ 800) : ∀ {d : PyData}, Nc N d → Fit d
  | .none, _ => trivial
  | .bool _, _ => trivial
  | .int _, _ => trivial
  | .str z, h => by
    have h1 := h.1
    show z.length ≤ 10000
    omega
  | .list ds, h => ⟨by have := h.1; omega, NcAll.fit hN h.2⟩
  | .tuple ds, h => ⟨by have := h.1; omega, NcAll.fit hN h.2⟩
  | .dict _, h => h.elim
theorem NcAll.fit {N : Nat} (hN : N ≤ 800) : ∀ {ds : List PyData}, NcAll N ds → FitAll ds
  | [], _ => trivial
  | d :: ds, h => ⟨Nc.fit hN h.1, NcAll.fit hN h.2⟩
end
theorem Nc.shows {N : Nat} {d : PyData} (hN : N ≤ 800) (h : Nc N d) (hd : d.depth ≤ 60) (hw : wt d ≤ 10000000) : Shows d := by
  have n := h.nice
  have hB : 1000000001 + N ≤ 10 ^ 20 := Nat.le_trans (Nat.add_le_add_left hN _) (by decide)
  exact ⟨(showable_nice hB n).1, (showable_nice hB n).2, hd, Nat.le_trans (shown_len hB n) (Nat.le_trans hw (by decide))⟩
theorem Nc.shaped {N : Nat} {d : PyData} (h : Nc N d) (hd : d.depth ≤ 60) : SeqAt.shaped d = true := shaped_nice h.nice hd
structure Sz (W D : Nat) (d : PyData) : Prop where
  nc : Nc 0 d
  wt : wt d ≤ W
  dep : d.depth ≤ D
theorem Sz.mono {W D W' D' : Nat} {d : PyData} (h : Sz W D d) (h1 : W ≤ W') (h2 : D ≤ D') : Sz W' D' d := ⟨h.nc, Nat.le_trans h.wt h1, Nat.le_trans h.dep h2⟩
theorem sz_tup {W D : Nat} (N : Nat) {ds : List PyData} (h : ∀ d ∈ ds, Sz W D d) (l : ds.length ≤ N) (hL : N ≤ 16) : Sz (6 + N * (W + 3)) (D + 1) (.tuple ds) := by
  have h1 : NcAll 0 ds := ncAll_iff.mpr fun d hd => (h d hd).nc
  have h2 : wtAll ds ≤ N * (W + 3) := Nat.le_trans (wtAll_le fun d hd => (h d hd).wt) (Nat.mul_le_mul_right _ l)
  have h3 : PyData.depthAll ds ≤ D := depthAll_le fun d hd => (h d hd).dep
  exact ⟨⟨Nat.le_trans l hL, h1⟩, Nat.add_le_add_left h2 6, Nat.succ_le_succ h3⟩
theorem nc_name {N : Nat} {z : Str} (h : NameOk z) : Nc N (.str z) := by
  have l : z.length ≤ 8 := h.top
  exact ⟨by omega, fun c hc => by have := h.low c hc; unfold low at this; omega⟩
theorem sz_str {z : Str} (h : NameOk z) : Sz 92 0 (.str z) := ⟨nc_name h, (name_nice h 1 1).2, Nat.le_refl 0⟩
theorem sz_wo {o : Option Int} (h : WOk o) : Sz 25 0 (wD o) := by
  cases o with
  | none => exact ⟨trivial, by show 4 ≤ 25; decide, Nat.le_refl 0⟩
  | some i =>
    have h' : -1000000000 ≤ i ∧ i ≤ 1000000000 := h
    exact ⟨by show i.natAbs ≤ 1000000001 + 0; omega, Nat.le_refl _, Nat.le_refl 0⟩
theorem words_ok9 : ∀ z ∈ (["old", "new", "many", "put", "drop", "set", "add"] : List Str), NameOk z := fun z hz => by
  have h : (["old", "new", "many", "put", "drop", "set", "add"] : List Str).all (fun z => decide (0 < (cl z).length) && decide ((cl z).length ≤ 8) && (cl z).all fun c => decide (97 ≤ c) && decide (c ≤ 122)) = true := by decide +kernel
  have h1 := List.all_eq_true.mp h z hz
  simp only [Bool.and_eq_true, decide_eq_true_eq, List.all_eq_true] at h1
  exact ⟨h1.1.1, h1.1.2, h1.2⟩
theorem sz_pl {side kind : Str} {zs : List Str} {pl : Pl} (hz : ∀ z ∈ zs, NameOk z) (h : PlOk side kind zs pl) : Sz 196 1 (plD pl) := by
  cases pl with
  | w o => exact (sz_wo h).mono (by decide) (by decide)
  | many => exact (sz_tup (W := 92) (D := 0) 2 (fun d hd => by rw [List.mem_singleton.mp hd]; exact sz_str (words_ok9 _ (by simp))) (by show 1 ≤ 2; decide) (by decide)).mono (by decide) (by decide)
  | tell t c =>
    refine (sz_tup (W := 92) (D := 0) 2 (fun d hd => ?_) (by show 2 ≤ 2; decide) (by decide)).mono (by decide) (by decide)
    simp only [List.mem_cons, List.not_mem_nil, or_false] at hd
    rcases hd with rfl | rfl
    · rcases h.2.2 with ⟨rfl, _⟩ | ⟨rfl, _⟩
      · exact sz_str (words_ok9 _ (by simp))
      · exact sz_str (words_ok9 _ (by simp))
    · exact sz_str (hz _ h.2.1)
theorem sz_list : ∀ {ds : List PyData} {ws : List Nat} {D : Nat}, ds.length = ws.length → (∀ (i : Nat) (d : PyData) (W : Nat), ds[i]? = some d → ws[i]? = some W → Sz W D d) → NcAll 0 ds ∧ wtAll ds ≤ (ws.map (· + 3)).sum ∧ PyData.depthAll ds ≤ D
  | [], [], _, _, _ => ⟨trivial, Nat.le_refl 0, Nat.zero_le _⟩
  | d :: ds, W :: ws, D, l, h => by
    have h0 := h 0 d W rfl rfl
    obtain ⟨h1, h2, h3⟩ := sz_list (ds := ds) (ws := ws) (D := D) (by simpa using l) fun i e V he hV => h (i + 1) e V he hV
    refine ⟨⟨h0.nc, h1⟩, ?_, ?_⟩
    · show wt d + 3 + wtAll ds ≤ (W + 3) + (ws.map (· + 3)).sum
      have := h0.wt
      omega
    · show max d.depth (PyData.depthAll ds) ≤ D
      exact Nat.max_le.mpr ⟨h0.dep, h3⟩
  | [], _ :: _, _, l, _ => by cases l
  | _ :: _, [], _, l, _ => by cases l
theorem sz_act {ts : List Tab} {side kind : Str} {zs : List Str} {a : Act} (hT : ∀ x ∈ ts, NameOk x.1 ∧ (∀ c ∈ x.2.map (·.1), NameOk c) ∧ x.2.length ≤ 5) (hz : ∀ z ∈ zs, NameOk z) (h : ActOk ts side kind zs a) : Sz 1200 3 (actD a) := by
  cases a with
  | put t ps =>
    obtain ⟨⟨x, hx, rfl, hl⟩, hp⟩ := h
    have h1 : Sz 1001 2 (.tuple (ps.map plD)) := sz_tup 5 (fun d hd => by
      obtain ⟨p, hpm, rfl⟩ := List.mem_map.mp hd
      exact sz_pl hz (hp p hpm)) (by rw [List.length_map, hl]; exact (hT x hx).2.2) (by decide)
    obtain ⟨g1, g2, g3⟩ := sz_list (ds := [.str "put", .str x.1, .tuple (ps.map plD)]) (ws := [92, 92, 1001]) (D := 2) rfl fun i d W hi hW => by
      match i, hi, hW with
      | 0, hi, hW => cases hi; cases hW; exact (sz_str (words_ok9 _ (by simp))).mono (Nat.le_refl _) (by decide)
      | 1, hi, hW => cases hi; cases hW; exact (sz_str (hT x hx).1).mono (Nat.le_refl _) (by decide)
      | 2, hi, hW => cases hi; cases hW; exact h1
      | n + 3, hi, _ => cases hi
    exact ⟨⟨by show 3 ≤ 16 + 0; decide, g1⟩, Nat.le_trans (Nat.add_le_add_left g2 6) (by decide), Nat.succ_le_succ g3⟩
  | drop t p =>
    obtain ⟨⟨x, hx, rfl⟩, hp⟩ := h
    refine (sz_tup (W := 196) (D := 1) 3 (fun d hd => ?_) (by show 3 ≤ 3; decide) (by decide)).mono (by decide) (by decide)
    simp only [List.mem_cons, List.not_mem_nil, or_false] at hd
    rcases hd with rfl | rfl | rfl
    · exact (sz_str (words_ok9 _ (by simp))).mono (by decide) (by decide)
    · exact (sz_str (hT x hx).1).mono (by decide) (by decide)
    · exact sz_pl hz hp
  | cell w t k c p =>
    obtain ⟨hw, ⟨x, hx, rfl, hc⟩, hk, hp⟩ := h
    refine (sz_tup (W := 196) (D := 1) 5 (fun d hd => ?_) (by show 5 ≤ 5; decide) (by decide)).mono (by decide) (by decide)
    simp only [List.mem_cons, List.not_mem_nil, or_false] at hd
    rcases hd with rfl | rfl | rfl | rfl | rfl
    · rcases hw with rfl | rfl
      · exact (sz_str (words_ok9 _ (by simp))).mono (by decide) (by decide)
      · exact (sz_str (words_ok9 _ (by simp))).mono (by decide) (by decide)
    · exact (sz_str (hT x hx).1).mono (by decide) (by decide)
    · exact sz_pl hz hk
    · exact (sz_str ((hT x hx).2.1 c hc)).mono (by decide) (by decide)
    · exact sz_pl hz hp
theorem sz_test {side kind : Str} {zs : List Str} {o : Option (Pl × Str × Pl)} (hz : ∀ z ∈ zs, NameOk z) (h : ∀ a s b, o = some (a, s, b) → s ∈ signs3 ∧ PlOk side kind zs a ∧ PlOk side kind zs b) : Sz 603 2 (testD o) := by
  match o, h with
  | none, _ => exact ⟨trivial, by show 4 ≤ 603; decide, Nat.zero_le _⟩
  | some (a, s, b), h =>
    obtain ⟨hs, ha, hb⟩ := h a s b rfl
    refine (sz_tup (W := 196) (D := 1) 3 (fun d hd => ?_) (by show 3 ≤ 3; decide) (by decide)).mono (by decide) (by decide)
    simp only [List.mem_cons, List.not_mem_nil, or_false] at hd
    rcases hd with rfl | rfl | rfl
    · exact sz_pl hz ha
    · exact (sz_str (signs_ok _ (List.mem_append_left _ hs))).mono (by decide) (by decide)
    · exact sz_pl hz hb
theorem sz_rule {ts : List Tab} {r : Rul} (hT : ∀ x ∈ ts, NameOk x.1 ∧ (∀ c ∈ x.2.map (·.1), NameOk c) ∧ x.2.length ≤ 5) (h : RuleOk ts r) : Sz 4705 5 (ruleD r) := by
  obtain ⟨x, hx, et, hcol, htest, hacts⟩ := h.ex
  have hz := (hT x hx).2.1
  have la : r.acts.length ≤ 3 := by
    by_cases z : r.side = "ahead"
    · rw [(h.ahead z).2]; decide
    · exact (h.other z).2
  have s6 : Sz 3615 4 (.tuple (r.acts.map actD)) := sz_tup (W := 1200) (D := 3) 3 (fun d hd => by
    obtain ⟨a, ha, rfl⟩ := List.mem_map.mp hd
    exact sz_act hT hz (hacts a ha)) (by rw [List.length_map]; exact la) (by decide)
  have s4 : Sz 92 0 (colO r.col) := by
    cases hc : r.col with
    | none => exact ⟨trivial, by show 4 ≤ 92; decide, Nat.le_refl 0⟩
    | some c => exact sz_str (hz c (hcol c hc).2)
  have sd : NameOk r.side := signs_ok _ (List.mem_append_right _ (List.mem_append_left _ h.side))
  have kd : NameOk r.kind := signs_ok _ (List.mem_append_right _ (List.mem_append_right _ (List.mem_append_left _ h.kind)))
  obtain ⟨g1, g2, g3⟩ := sz_list (ds := [.str r.nm, .str r.side, .str r.tab, .str r.kind, colO r.col, testD r.test, .tuple (r.acts.map actD)]) (ws := [92, 92, 92, 92, 92, 603, 3615]) (D := 4) rfl fun i d W hi hW => by
    match i, hi, hW with
    | 0, hi, hW => cases hi; cases hW; exact (sz_str h.nm).mono (Nat.le_refl _) (by decide)
    | 1, hi, hW => cases hi; cases hW; exact (sz_str sd).mono (Nat.le_refl _) (by decide)
    | 2, hi, hW => cases hi; cases hW; exact (sz_str (by rw [← et]; exact (hT x hx).1)).mono (Nat.le_refl _) (by decide)
    | 3, hi, hW => cases hi; cases hW; exact (sz_str kd).mono (Nat.le_refl _) (by decide)
    | 4, hi, hW => cases hi; cases hW; exact s4.mono (Nat.le_refl _) (by decide)
    | 5, hi, hW => cases hi; cases hW; exact (sz_test hz htest).mono (Nat.le_refl _) (by decide)
    | 6, hi, hW => cases hi; cases hW; exact s6
    | n + 7, hi, _ => cases hi
  exact ⟨⟨by show 7 ≤ 16 + 0; decide, g1⟩, Nat.le_trans (Nat.add_le_add_left g2 6) (by decide), Nat.succ_le_succ g3⟩
theorem sz_rules {ts : List Tab} {rs : List Rul} (hT : ∀ x ∈ ts, NameOk x.1 ∧ (∀ c ∈ x.2.map (·.1), NameOk c) ∧ x.2.length ≤ 5) (h : ∀ r ∈ rs, RuleOk ts r) (l : rs.length ≤ 8) : Sz 37670 6 (.tuple (rs.map ruleD)) :=
  sz_tup (W := 4705) (D := 5) 8 (fun d hd => by
    obtain ⟨r, hr, rfl⟩ := List.mem_map.mp hd
    exact sz_rule hT (h r hr)) (by rw [List.length_map]; exact l) (by decide)
/-! ### the tables' sizes -/
theorem sz_tab {x : Tab} (h : NameOk x.1) (hc : ColsOk 5 x.2) : Sz 2014 3 (tabD x) := by
  have s1 : Sz 1001 2 (.tuple (x.2.map colD)) := sz_tup (W := 196) (D := 1) 5 (fun d hd => by
    obtain ⟨c, hcm, rfl⟩ := List.mem_map.mp hd
    refine sz_tup (W := 92) (D := 0) 2 (fun e he => ?_) (by show 2 ≤ 2; decide) (by decide)
    simp only [List.mem_cons, List.not_mem_nil, or_false] at he
    rcases he with rfl | rfl
    · exact sz_str (hc.nm c hcm)
    · exact (sz_wo (hc.w c hcm)).mono (by decide) (Nat.le_refl _)) (by rw [List.length_map]; exact hc.top) (by decide)
  refine sz_tup (W := 1001) (D := 2) 2 (fun e he => ?_) (by show 2 ≤ 2; decide) (by decide)
  simp only [List.mem_cons, List.not_mem_nil, or_false] at he
  rcases he with rfl | rfl
  · exact (sz_str h).mono (by decide) (by decide)
  · exact s1
theorem sz_tabs {ts : List Tab} (h : TabsOk 5 ts) (l : ts.length ≤ 8) : Sz 16142 4 (.tuple (ts.map tabD)) :=
  sz_tup (W := 2014) (D := 3) 8 (fun d hd => by
    obtain ⟨x, hx, rfl⟩ := List.mem_map.mp hd
    exact sz_tab (h.nm x hx) (h.cs x hx).1) (by rw [List.length_map]; exact l) (by decide)
/-- the tables and a thing, shown together -/
theorem shows_pair {ts : List Tab} {d : PyData} {N : Nat} (h : TabsOk 5 ts) (l : ts.length ≤ 8) (hN : N ≤ 800) (n : Nc N d) (hd : d.depth ≤ 50) (hw : wt d ≤ 1000000) : Shows (.list [.tuple (ts.map tabD), d]) := by
  have z := sz_tabs h l
  have hz := z.wt
  have hq := z.dep
  refine Nc.shows (N := N) hN ⟨by show 2 ≤ 16 + N; omega, z.nc.mono (Nat.zero_le _), n, trivial⟩ ?_ ?_
  · show max (PyData.tuple (ts.map tabD)).depth (max d.depth 0) + 1 ≤ 60
    omega
  · show 6 + (wt (.tuple (ts.map tabD)) + 3 + (wt d + 3 + 0)) ≤ 10000000
    omega
end TT

set_option Elab.async false
set_option linter.all false
set_option maxRecDepth 100000
namespace TT
open PySem PySem.Spec PyProof.Rows L2
/-! ### drawn rules are rules -/
theorem worth_ok {o : Option Int} (h : WOk o) : worthB (wD o) = true := by
  cases o with
  | none => rfl
  | some i =>
    have h' : -1000000000 ≤ i ∧ i ≤ 1000000000 := h
    show (decide (-1000000000 ≤ i) && decide (i ≤ 1000000000)) = true
    rw [decide_eq_true h'.1, decide_eq_true h'.2]; rfl
theorem pl_ok {side kind : Str} {zs : List Str} {pl : Pl} (h : PlOk side kind zs pl) : placeB (readP side kind zs) (plD pl) = true := by
  unfold placeB
  cases pl with
  | w o =>
    show (worthB (wD o) || _) = true
    rw [worth_ok h]; rfl
  | many =>
    have hs : side = "deed" := h
    have : ((readP side kind zs).any fun z => PyData.eqv z (plD .many)) = true := any_read.mpr (by rw [hs]; exact read_deed.mpr rfl)
    rw [this, Bool.or_true]
  | tell t c =>
    obtain ⟨h1, h2, h3⟩ := h
    have : ((readP side kind zs).any fun z => PyData.eqv z (plD (.tell t c))) = true := any_read.mpr ((read_else (b := [t, c]) h1).mpr ⟨t, c, rfl, h2, h3⟩)
    rw [this, Bool.or_true]
theorem cns_of {ts : List Tab} (nd : (tns ts).Nodup) {x : Tab} (h : x ∈ ts) : cns ts x.1 = x.2.map (·.1) := by
  show (colsOf ts x.1).map _ = _
  rw [colsOf_mem nd h]
theorem word_self (k : Str) : wordB k (.str k) = true := by
  show (k == k) = true
  simp
theorem word_else {k z : Str} (h : z ≠ k) : wordB k (.str z) = false := by
  show (z == k) = false
  exact beq_eq_false_iff_ne.mpr h
theorem act_ok {ts : List Tab} (nd : (tns ts).Nodup) {side kind : Str} {zs : List Str} {a : Act} (h : ActOk ts side kind zs a) : actB ts (readP side kind zs) (actD a) = true := by
  cases a with
  | put t ps =>
    obtain ⟨⟨x, hx, rfl, hl⟩, hp⟩ := h
    have ht : inS (tns ts) (.str x.1) = true := decide_eq_true (List.mem_map.mpr ⟨x, hx, rfl⟩)
    have e1 : placesB (readP side kind zs) (cns ts x.1).length (.tuple (ps.map plD)) = true := by
      show (decide ((ps.map plD).length = (cns ts x.1).length) && (ps.map plD).all (placeB (readP side kind zs))) = true
      rw [decide_eq_true (by rw [List.length_map, hl, cns_of nd hx, List.length_map]), Bool.true_and, List.all_eq_true]
      intro d hd
      obtain ⟨p, hpm, rfl⟩ := List.mem_map.mp hd
      exact pl_ok (hp p hpm)
    have hP : actP ts (readP side kind zs) [.str "put", .str x.1, .tuple (ps.map plD)] = placesB (readP side kind zs) (cns ts x.1).length (.tuple (ps.map plD)) := if_pos (by show (wordB "put" (.str "put") && true) = true; rw [word_self]; rfl)
    show (true && (inS (tns ts) (.str x.1) && actP ts (readP side kind zs) [.str "put", .str x.1, .tuple (ps.map plD)])) = true
    rw [ht, hP, e1]; rfl
  | drop t p =>
    obtain ⟨⟨x, hx, rfl⟩, hp⟩ := h
    have ht : inS (tns ts) (.str x.1) = true := decide_eq_true (List.mem_map.mpr ⟨x, hx, rfl⟩)
    have hP : actP ts (readP side kind zs) [.str "drop", .str x.1, plD p] = placeB (readP side kind zs) (plD p) := (if_neg (by show ¬ (wordB "put" (.str "drop") && true) = true; rw [word_else (by decide)]; decide)).trans (if_pos (by show (wordB "drop" (.str "drop") && true) = true; rw [word_self]; rfl))
    show (true && (inS (tns ts) (.str x.1) && actP ts (readP side kind zs) [.str "drop", .str x.1, plD p])) = true
    rw [ht, hP, pl_ok hp]; rfl
  | cell w t k c p =>
    obtain ⟨hw, ⟨x, hx, rfl, hc⟩, hk, hp⟩ := h
    have ht : inS (tns ts) (.str x.1) = true := decide_eq_true (List.mem_map.mpr ⟨x, hx, rfl⟩)
    have hc2 : inS (cns ts x.1) (.str c) = true := decide_eq_true (by rw [cns_of nd hx]; exact hc)
    show (true && (inS (tns ts) (.str x.1) && actP ts _ _)) = true
    rw [ht]
    unfold actP
    have n1 : w ≠ "put" := by rcases hw with rfl | rfl <;> decide
    have n2 : w ≠ "drop" := by rcases hw with rfl | rfl <;> decide
    have n3 : inS ["set", "add"] (.str w) = true := decide_eq_true (by rcases hw with rfl | rfl <;> simp)
    show (if (wordB "put" (.str w) && false) = true then _ else if (wordB "drop" (.str w) && false) = true then _ else if (inS ["set", "add"] (.str w) && true) = true then inS (cns ts x.1) (.str c) && (placeB _ (plD k) && placeB _ (plD p)) else false) = true
    rw [word_else n1, word_else n2, n3, if_neg (by decide), if_neg (by decide), if_pos (show (true && true) = true from rfl), hc2, pl_ok hk, pl_ok hp]; rfl
theorem name_okB {z : Str} (h : NameOk z) : nameB (.str z) = true := by
  show ((decide (1 ≤ z.length) && decide (z.length ≤ 8)) && (cl z).all lowB) = true
  have h1 : 1 ≤ z.length := h.pos
  have h2 : z.length ≤ 8 := h.top
  rw [decide_eq_true h1, decide_eq_true h2]
  show (cl z).all lowB = true
  rw [List.all_eq_true]
  intro c hc
  have := h.low c hc
  unfold low at this
  unfold lowB
  rw [decide_eq_true this.1, decide_eq_true this.2]; rfl
theorem rule_ok {ts : List Tab} (nd : (tns ts).Nodup) {r : Rul} (h : RuleOk ts r) : ruleB ts (ruleD r) = true := by
  obtain ⟨x, hx, et, hcol, htest, hacts⟩ := h.ex
  have ez : cns ts r.tab = x.2.map (·.1) := by rw [← et]; exact cns_of nd hx
  have ht : inS (tns ts) (.str r.tab) = true := decide_eq_true (by rw [← et]; exact List.mem_map.mpr ⟨x, hx, rfl⟩)
  have h1 : inS sides3 (.str r.side) = true := decide_eq_true h.side
  have h2 : inS kinds3 (.str r.kind) = true := decide_eq_true h.kind
  show (nameB (.str r.nm) && (inS sides3 (.str r.side) && (inS (tns ts) (.str r.tab) && (inS kinds3 (.str r.kind) && (rcolB r.kind (cns ts r.tab) (colO r.col) && (testB (readP r.side r.kind (cns ts r.tab)) r.side (testD r.test) && actsB ts (readP r.side r.kind (cns ts r.tab)) r.side (.tuple (r.acts.map actD)))))))) = true
  rw [name_okB h.nm, h1, ht, h2, ez]
  have hc : rcolB r.kind (x.2.map (·.1)) (colO r.col) = true := by
    cases e : r.col with
    | none => rfl
    | some c =>
      obtain ⟨g1, g2⟩ := hcol c e
      show (isN (.str c) || (decide (r.kind = "set") && inS (x.2.map (·.1)) (.str c))) = true
      have : inS (x.2.map (·.1)) (.str c) = true := decide_eq_true g2
      rw [decide_eq_true g1, this]; rfl
  have hte : testB (readP r.side r.kind (x.2.map (·.1))) r.side (testD r.test) = true := by
    cases e : r.test with
    | none =>
      show decide (r.side ≠ "ahead") = true
      exact decide_eq_true fun z => (h.ahead z).1 e
    | some o =>
      obtain ⟨a, s, b⟩ := o
      obtain ⟨g1, g2, g3⟩ := htest a s b e
      show (inS signs3 (.str s) && (placeB _ (plD a) && placeB _ (plD b))) = true
      have : inS signs3 (.str s) = true := decide_eq_true g1
      rw [this, pl_ok g2, pl_ok g3]; rfl
  have hac : actsB ts (readP r.side r.kind (x.2.map (·.1))) r.side (.tuple (r.acts.map actD)) = true := by
    show (if r.side = "ahead" then tupB 0 0 (.tuple (r.acts.map actD)) else tupB 1 3 (.tuple (r.acts.map actD)) && (r.acts.map actD).all (actB ts _)) = true
    by_cases z : r.side = "ahead"
    · rw [if_pos z, (h.ahead z).2]; rfl
    · rw [if_neg z]
      obtain ⟨l1, l2⟩ := h.other z
      have : tupB 1 3 (.tuple (r.acts.map actD)) = true := by
        show (decide ((1 : Int) ≤ ((r.acts.map actD).length : Int)) && decide (((r.acts.map actD).length : Int) ≤ 3)) = true
        rw [List.length_map, decide_eq_true (by omega), decide_eq_true (by omega)]; rfl
      rw [this, Bool.true_and, List.all_eq_true]
      intro d hd
      obtain ⟨a, ha, rfl⟩ := List.mem_map.mp hd
      exact act_ok nd (hacts a ha)
  rw [hc, hte, hac]; rfl
theorem rules_ok {ts : List Tab} (nd : (tns ts).Nodup) {rs : List Rul} (h : ∀ r ∈ rs, RuleOk ts r) (hn : (rs.map (·.nm)).Nodup) (l : rs.length ≤ 8) : rulesB ts (.tuple (rs.map ruleD)) = true := by
  show ((decide ((0 : Int) ≤ ((rs.map ruleD).length : Int)) && decide (((rs.map ruleD).length : Int) ≤ 8)) && ((rs.map ruleD).all (ruleB ts) && decide (((rs.map ruleD).map ruleNm).Nodup))) = true
  have h1 : (rs.map ruleD).all (ruleB ts) = true := List.all_eq_true.mpr fun d hd => by
    obtain ⟨r, hr, rfl⟩ := List.mem_map.mp hd
    exact rule_ok nd (h r hr)
  have h2 : (rs.map ruleD).map ruleNm = rs.map (·.nm) := by rw [List.map_map]; rfl
  rw [h1, h2, decide_eq_true hn, List.length_map, decide_eq_true (by omega), decide_eq_true (by omega)]; rfl
end TT

set_option Elab.async false
set_option linter.all false
set_option maxRecDepth 100000
namespace TT
open PySem PySem.Spec PyProof.Rows L2
/-! ### rules put otherwise -/
/-- a comprehension whose items are data -/
theorem lc_dp {K : PySem.W.Frag} {J : It} {n : Nat} {G : Hp → Prop} {xs : List V} (w : Walk J n G (YAt xs)) {α : Type} {l : List α} (M : List Addr) (hn : n = l.length) (few : l.length ≤ 900) (f : α → PyData)
    {g : TG} {te : TE} {vs : List Nat} {σ : L2.St} {H1 : Hp} {D : Addr} {Qd : Hp → Prop} (nD : H1 D = none) (hG : ∀ H', Kept [D] H1 H' → G H')
    (step : ∀ (i : Nat) (x : V) (a : α) (H' : Hp) (C : V → Hp → Prop) (N : Hp → Prop), xs[i]? = some x → l[i]? = some a → Kept [D] H1 H' → (∃ ws, H' D = some (.lst ws)) → (∀ y H4, Kept [] H' H4 → Dp K (msk (D :: M) H4) y (f a) → C y H4) →
      g x (wipe σ vs) H' fun σ2 H2 => wipe σ2 vs = wipe σ vs ∧ (if true = true then te σ2 H2 C else N H2))
    (fin : ∀ us H2, Grow K M H2 D us (l.map f) → Kept [D] H1 H2 → Qd H2) (oD : D ∉ M) :
    ∃ W : Nat → Nat → Hp → Prop, (∃ m, W 0 m (upd H1 D (.lst []))) ∧ ∀ i m H, W i m H →
      (J.stop i H ∧ Qd H) ∨ (J.go i H ∧ ∃ Nx : Hp → Prop, (∀ H', Nx H' → ∃ m', m' < m ∧ W (i + 1) m' H') ∧ ∀ x H', J.yld i H x H' → g x (wipe σ vs) H' fun σ2 H2 => wipe σ2 vs = wipe σ vs ∧ tYes σ2 H2 fun b H3 =>
          if b = true then te σ2 H3 fun y H4 => ∃ acc, H4 D = some (.lst acc) ∧ acc.length < sizeLine ∧ Nx (upd H4 D (.lst (acc ++ [y]))) else Nx H3) := by
  refine lc_it w (fun i H' => ∃ us, Grow K M H' D us ((l.take i).map f) ∧ Kept [D] H1 H') ⟨[], .start, Kept.upd_new nD⟩ (fun i H' _ hP => let ⟨_, _, kk⟩ := hP; hG H' kk) (fun i x H' H'' hi hP hY => ?_) (fun H2 hP => ?_)
  · obtain ⟨rfl, hx⟩ := hY
    obtain ⟨us, gr, kk⟩ := hP
    obtain ⟨a, ha⟩ : ∃ a, l[i]? = some a := ⟨_, List.getElem?_eq_getElem (by omega)⟩
    have et : (l.take (i + 1)).map f = (l.take i).map f ++ [f a] := by
      rw [List.take_add_one, ha, List.map_append]; rfl
    have lu : us.length = i := by rw [gr.len, List.length_map, List.length_take]; omega
    refine step i x a H'' _ (fun H3 => ∃ us, Grow K M H3 D us ((l.take (i + 1)).map f) ∧ Kept [D] H1 H3) hx ha kk ⟨_, gr.at'⟩ (fun y H4 k4 hd => ?_)
    have g4 := gr.kept (k4.mono fun _ h => absurd h List.not_mem_nil) oD
    refine ⟨us, g4.at', small1000 (by omega), us ++ [y], ?_, kk.trans ((k4.mono (fun _ h => absurd h List.not_mem_nil)).trans (Kept.upd_in (List.mem_cons_self ..)))⟩
    rw [et]
    exact g4.put hd
  · obtain ⟨us, gr, kk⟩ := hP
    rw [hn, List.take_length] at gr
    exact fin us H2 gr kk
theorem sz_lst {W D : Nat} (N : Nat) {ds : List PyData} (h : ∀ d ∈ ds, Sz W D d) (l : ds.length ≤ N) (hL : N ≤ 16) : Sz (6 + N * (W + 3)) (D + 1) (.list ds) :=
  let z := sz_tup N h l hL
  ⟨z.nc, z.wt, z.dep⟩
theorem sz7 {a b c d e f g : PyData} (ha : Sz 92 0 a) (hb : Sz 92 0 b) (hc : Sz 92 0 c) (hd : Sz 92 0 d) (he : Sz 92 0 e) (hf : Sz 700 2 f) (hg : Sz 7300 4 g) : Sz 9000 5 (.tuple [a, b, c, d, e, f, g]) := by
  obtain ⟨g1, g2, g3⟩ := sz_list (ds := [a, b, c, d, e, f, g]) (ws := [92, 92, 92, 92, 92, 700, 7300]) (D := 4) rfl fun i d W hi hW => by
    match i, hi, hW with
    | 0, hi, hW => cases hi; cases hW; exact ha.mono (Nat.le_refl _) (by decide)
    | 1, hi, hW => cases hi; cases hW; exact hb.mono (Nat.le_refl _) (by decide)
    | 2, hi, hW => cases hi; cases hW; exact hc.mono (Nat.le_refl _) (by decide)
    | 3, hi, hW => cases hi; cases hW; exact hd.mono (Nat.le_refl _) (by decide)
    | 4, hi, hW => cases hi; cases hW; exact he.mono (Nat.le_refl _) (by decide)
    | 5, hi, hW => cases hi; cases hW; exact hf.mono (Nat.le_refl _) (by decide)
    | 6, hi, hW => cases hi; cases hW; exact hg
    | n + 7, hi, _ => cases hi
  exact ⟨⟨by show 7 ≤ 16 + 0; decide, g1⟩, Nat.le_trans (Nat.add_le_add_left g2 6) (by decide), Nat.succ_le_succ g3⟩
/-- a tuple of three, in a test's place -/
theorem sz3 {a b c : PyData} (ha : Sz 196 1 a) (hb : Sz 196 1 b) (hc : Sz 196 1 c) : Sz 700 2 (.tuple [a, b, c]) :=
  (sz_tup (W := 196) (D := 1) 3 (fun d hd => by
    simp only [List.mem_cons, List.not_mem_nil, or_false] at hd
    rcases hd with rfl | rfl | rfl
    · exact ha
    · exact hb
    · exact hc) (by show 3 ≤ 3; decide) (by decide)).mono (by decide) (Nat.le_refl _)
theorem sz2 {a b : PyData} (ha : Sz 92 0 a) (hb : Sz 92 0 b) : Sz 196 1 (.tuple [a, b]) :=
  sz_tup (W := 92) (D := 0) 2 (fun d hd => by
    simp only [List.mem_cons, List.not_mem_nil, or_false] at hd
    rcases hd with rfl | rfl
    · exact ha
    · exact hb) (by show 2 ≤ 2; decide) (by decide)
theorem sz_none : Sz 92 0 .none := ⟨trivial, by show 4 ≤ 92; decide, Nat.le_refl 0⟩
theorem sz_int {i : Int} (h : i.natAbs ≤ 1000000001) : Sz 92 0 (.int i) := ⟨h, by show 25 ≤ 92; decide, Nat.le_refl 0⟩
theorem name_dec {z : Str} (h : (decide (0 < (cl z).length) && decide ((cl z).length ≤ 8) && (cl z).all fun c => decide (97 ≤ c) && decide (c ≤ 122)) = true) : NameOk z := by
  simp only [Bool.and_eq_true, decide_eq_true_eq, List.all_eq_true] at h
  exact ⟨h.1.1, h.1.2, h.2⟩
theorem sz_w {z : Str} (h : (decide (0 < (cl z).length) && decide ((cl z).length ≤ 8) && (cl z).all fun c => decide (97 ≤ c) && decide (c ≤ 122)) = true) : Sz 92 0 (.str z) := sz_str (name_dec h)
theorem low_empty : ∀ c ∈ cl "", c < 128 := fun c hc => by
  have h : (cl "").all (fun c => decide (c < 128)) = true := by decide +kernel
  exact of_decide_eq_true (List.all_eq_true.mp h c hc)
theorem sz_empty : Sz 92 0 (.str "") := ⟨⟨by decide +kernel, low_empty⟩, by decide +kernel, Nat.le_refl 0⟩
/-- tuple + tuple, as data -/
theorem catA_dp {K : PySem.W.Frag} {H : Hp} {a c b : Addr} {T : Nat} {da db : List PyData} {Q : VK} (S : BoxAt H b T) (ha : Dp K (msk [b] H) (.ref a) (.tuple da)) (hc : Dp K (msk [b] H) (.ref c) (.tuple db)) (l : da.length + db.length ≤ 1000)
    (q : ∀ p H', Dp K (msk [b] H') (.ref p) (.tuple (da ++ db)) → Same H H' → Q (.ref p) H') : rCatA K (.ref a) (.ref c) H Q := by
  cases ha with
  | tup a1 a2 =>
  cases hc with
  | tup c1 c2 =>
  rename_i xs ys
  have lx := dpAll_len a2
  have ly := dpAll_len c2
  refine ⟨a, c, _, _, rfl, rfl, sameT (msk_sub _ _) a1, sameT (msk_sub _ _) c1, Nat.le_of_lt (small1000 (by omega)), fun z => ?_, fun _ z => ?_, fun _ _ p n => ?_⟩
  · subst z
    cases a2
    exact q c H (.tup c1 c2) (Same.refl _)
  · subst z
    cases c2
    refine q a H ?_ (Same.refl _)
    rw [List.append_nil]
    exact .tup a1 a2
  · have s := same_upd (o := .tup (xs ++ ys)) n
    exact q p _ (.tup (.inl (.inl (msk_at upd_same (S.out n)))) (dpAll_same (msk_same (Kept.of_same s)) (dpAll_app a2 c2))) s
/-- a new tuple of told things -/
theorem dp_newt {K : PySem.W.Frag} {M : List Addr} {H : Hp} {t : Addr} {vs : List V} {ds : List PyData} (h : DpAll K (msk M H) vs ds) (nt : H t = none) (o : t ∉ M) : Dp K (msk M (upd H t (.tup vs))) (.ref t) (.tuple ds) :=
  .tup (.inl (.inl (msk_at upd_same o))) (dpAll_same (msk_same (Kept.upd_new nt)) h)
theorem grow_cat {K : PySem.W.Frag} {b F Z : Addr} {T : Nat} {H : Hp} {us vs : List V} {ds es : List PyData} (S : BoxAt H b T) (g : Grow K [b] H F us ds) (g' : DpAll K (msk [b] H) vs es) (nZ : H Z = none) : Grow K [b] (upd H Z (.lst (us ++ vs))) Z (us ++ vs) (ds ++ es) :=
  ⟨upd_same, dpAll_same ((msk_new nZ).trans (msk_same (Kept.upd_new nZ))) (dpAll_app (dpAll_same (msk_less sub_push) g.dp) g')⟩
end TT

set_option Elab.async false
set_option linter.all false
set_option maxRecDepth 100000
namespace TT
open PySem PySem.Spec PyProof.Rows L2
theorem atI_last {xs : List V} {x : V} (h : xs[xs.length - 1]? = some x) : atI xs (-1) = some x := by
  have l : 0 < xs.length := by
    have := (List.getElem?_eq_some_iff.mp h).1
    omega
  unfold atI
  have hix : ixN xs.length (-1) = some (xs.length - 1) := by
    unfold ixN
    rw [if_neg (by decide), if_pos (by omega)]
    congr 1
    omega
  rw [hix]
  exact h
/-- a rule's parts, as they lie -/
theorem rule_dp {K : PySem.W.Frag} {H : Hp} {v : V} {r : Rul} (h : Dp K H v (ruleD r)) : ∃ (rr A : Addr) (vc vt : V), v = .ref rr ∧ SqT K H rr [.str r.nm, .str r.side, .str r.tab, .str r.kind, vc, vt, .ref A] ∧ Dp K H vc (colO r.col) ∧ Dp K H vt (testD r.test) ∧ Dp K H (.ref A) (.tuple (r.acts.map actD)) := by
  cases h with
  | tup a1 a2 =>
  cases a2 with
  | cons b1 b2 =>
  cases b1
  cases b2 with
  | cons c1 c2 =>
  cases c1
  cases c2 with
  | cons d1 d2 =>
  cases d1
  cases d2 with
  | cons e1 e2 =>
  cases e1
  cases e2 with
  | cons f1 f2 =>
  cases f2 with
  | cons g1 g2 =>
  cases g2 with
  | cons h1 h2 =>
  cases h2
  cases h1 with
  | tup i1 i2 => exact ⟨_, _, _, _, rfl, a1, f1, g1, .tup i1 i2⟩
theorem rule_sz {ts : List Tab} {r : Rul} (hT : ∀ x ∈ ts, NameOk x.1 ∧ (∀ c ∈ x.2.map (·.1), NameOk c) ∧ x.2.length ≤ 5) (h : RuleOk ts r) :
    Sz 92 0 (.str r.nm) ∧ Sz 92 0 (.str r.side) ∧ Sz 92 0 (.str r.tab) ∧ Sz 92 0 (.str r.kind) ∧ Sz 92 0 (colO r.col) ∧ Sz 700 2 (testD r.test) ∧ (∀ d ∈ r.acts.map actD, Sz 1200 3 d) ∧ r.acts.length ≤ 3 := by
  obtain ⟨x, hx, et, hcol, htest, hacts⟩ := h.ex
  have hz := (hT x hx).2.1
  have la : r.acts.length ≤ 3 := by
    by_cases z : r.side = "ahead"
    · rw [(h.ahead z).2]; decide
    · exact (h.other z).2
  have s4 : Sz 92 0 (colO r.col) := by
    cases hc : r.col with
    | none => exact sz_none
    | some c => exact sz_str (hz c (hcol c hc).2)
  have sd : NameOk r.side := signs_ok _ (List.mem_append_right _ (List.mem_append_left _ h.side))
  have kd : NameOk r.kind := signs_ok _ (List.mem_append_right _ (List.mem_append_right _ (List.mem_append_left _ h.kind)))
  exact ⟨sz_str h.nm, sz_str sd, sz_str (by rw [← et]; exact (hT x hx).1), sz_str kd, s4, (sz_test hz htest).mono (by decide) (Nat.le_refl _), fun d hd => by
    obtain ⟨a, ha, rfl⟩ := List.mem_map.mp hd
    exact sz_act hT hz (hacts a ha), la⟩
/-- what has been found so far -/
structure FSt (K : PySem.W.Frag) (b : Addr) (H : Hp) (T n : Nat) (Hx : Hp) (F : Addr) : Prop where
  ex : ∃ us ds, Grow K [b] Hx F us ds ∧ (∀ d ∈ ds, Sz 9000 5 d) ∧ ds.length ≤ n
  kk : Kept [b] H Hx
  S : BoxAt Hx b T
  fr : H F = none
section
variable {K : PySem.W.Frag} {b F D : Addr} {H Hx Hy : Hp} {T n m : Nat} {vs : List V} {es : List PyData} {Q : VK}
theorem FSt.nb (h : FSt K b H T n Hx F) (S : BoxAt H b T) : F ∉ [b] := S.out h.fr
theorem FSt.cat (h : FSt K b H T n Hx F) (S : BoxAt H b T) (s : Same Hx Hy) (eD : Hy D = some (.lst vs)) (dv : DpAll K (msk [b] Hy) vs es) (se : ∀ e ∈ es, Sz 9000 5 e) (l : es.length ≤ m) (hb : n + m ≤ 900) (q : ∀ Z Hz, FSt K b H T (n + m) Hz Z → Q (.ref Z) Hz) : rCat (.ref F) (.ref D) Hy Q := by
  obtain ⟨us, ds, gr, hz, hl⟩ := h.ex
  have gr' := gr.kept (Kept.of_same s) (h.nb S)
  have lu := gr'.len
  have lv := dpAll_len dv
  refine ⟨F, D, us, vs, rfl, rfl, gr'.at', eD, Nat.le_of_lt (small1000 (by omega)), fun Z nZ => q Z _ ⟨⟨_, _, grow_cat (h.S.same s) gr' dv nZ, fun d hd => (List.mem_append.mp hd).elim (hz d) (se d), by rw [List.length_append]; omega⟩, h.kk.trans ((Kept.of_same s).trans (Kept.upd_new nZ)), (h.S.same s).same (same_upd nZ), ?_⟩⟩
  exact (h.kk.trans (Kept.of_same s)).fresh nZ fun p hp => by rw [List.mem_singleton.mp hp]; exact (h.S.same s).ne nZ
theorem FSt.app (h : FSt K b H T n Hx F) (S : BoxAt H b T) (s : Same Hx Hy) {v : V} {e : PyData} (dv : Dp K (msk (F :: [b]) Hy) v e) (se : Sz 9000 5 e) (hb : n + 1 ≤ 900) :
    ∃ xs, Hy F = some (.lst xs) ∧ xs.length < sizeLine ∧ FSt K b H T (n + 1) (upd Hy F (.lst (xs ++ [v]))) F := by
  obtain ⟨us, ds, gr, hz, hl⟩ := h.ex
  have gr' := gr.kept (Kept.of_same s) (h.nb S)
  have lu := gr'.len
  refine ⟨us, gr'.at', small1000 (by omega), ⟨⟨_, _, gr'.put dv, fun d hd => ?_, by rw [List.length_append]; show ds.length + 1 ≤ n + 1; omega⟩, fun p o e' hp => ?_, (h.S.same s).kept (Kept.upd_in (M := [F]) (List.mem_cons_self ..)) (fun z => h.nb S (by rw [List.mem_singleton.mp z]; exact List.mem_cons_self ..)), h.fr⟩⟩
  · rcases List.mem_append.mp hd with hd | hd
    · exact hz d hd
    · rw [List.mem_singleton.mp hd]; exact se
  · rw [upd_ne (fun z => by rw [z, h.fr] at e'; cases e')]
    exact s _ _ (h.kk p o e' hp)
theorem fin7 {H' : Hp} {C : V → Hp → Prop} {ds : List PyData} (nD : H D = none) (S : BoxAt H b T) (kk : Kept [D] H H') (hws : ∃ ws, H' D = some (.lst ws)) (next : ∀ y H4, Kept [] H' H4 → Dp K (msk (D :: [b]) H4) y (.tuple ds) → C y H4) {H5 : Hp} (s : Same H' H5) (hd : DpAll K (msk (D :: [b]) H5) vs ds) (t : Addr) (nt : H5 t = none) : C (.ref t) (upd H5 t (.tup vs)) := by
  obtain ⟨ws, hws⟩ := hws
  have nDt : D ≠ t := ne_of_none (s _ _ hws) nt
  have S5 := (S.kept kk (fun z => S.ne nD (List.mem_singleton.mp z))).same s
  refine next _ _ ((Kept.of_same s).trans (Kept.upd_new nt)) (dp_newt hd nt fun z => ?_)
  rcases List.mem_cons.mp z with z | z
  · exact nDt z.symm
  · exact S5.out nt z
/-- what was told ahead of the comprehension -/
theorem toD {H' H5 : Hp} (nD : H D = none) (kk : Kept [D] H H') (s : Same H' H5) : Same (msk [b] H) (msk (D :: [b]) H5) := (msk_new nD).trans (msk_same ((kk.mono fun p h => by rw [List.mem_singleton.mp h]; exact List.mem_cons_self ..).trans (Kept.of_same s)))
end
section
variable {P : Program} {w : World} {K : PySem.W.Frag} {mg : Str → Option Value} {base : Heap}
def spOthers (K : PySem.W.Frag) : Sp := fun vs H Q _ => ∃ (b tp rp : Addr) (v : V) (T : Nat) (ts : List Tab) (rs : List Rul) (r : Rul), vs = [.ref b, .ref tp, .ref rp, v] ∧ BoxAt H b T ∧ T + 2 ≤ 1000000 ∧ TabsOk 5 ts ∧ 0 < ts.length ∧ ts.length ≤ 6 ∧
  Dp K (msk [b] H) (.ref tp) (.tuple (ts.map tabD)) ∧ Dp K (msk [b] H) (.ref rp) (.tuple (rs.map ruleD)) ∧ 0 < rs.length ∧ rs.length ≤ 8 ∧ (∀ x ∈ rs, RuleOk ts x) ∧ Dp K (msk [b] H) v (ruleD r) ∧ RuleOk ts r ∧
  ∀ (p : Addr) (es : List PyData) (H' : Hp), Dp K (msk [b] H') (.ref p) (.list es) → (∀ e ∈ es, Sz 9000 5 e) → es.length ≤ 60 → BoxAt H' b (T + 2) → Kept [b] H H' → Q (.ref p) H'
abbrev s_law_others : Stmt := topS 50
abbrev N_law_others : List Str := ["box", "tables", "rules", "rule", "name", "side", "table", "kind", "column", "test", "acts", "far", "more", "found", "some", "one"]
theorem sc_law_others : FnScope N_law_others ["box", "tables", "rules", "rule"] (defScope s_law_others) := ⟨rfl, rfl, rfl, by decide +kernel, rfl, by decide +kernel, by decide +kernel⟩

set_option maxHeartbeats 16000000 in
theorem ok_others {f : Addr} {fd : FuncData} (F : Fun K "_law_others" "_law_others" s_law_others f fd) (nb : NB mg) (D_law_one_of : Def P w K mg base 2 "_law_one_of" ["box", "some"] (spOneOf K)) : FnOk P w K mg base CX0 3 f fd ["box", "tables", "rules", "rule"] (spOthers K) := by
  refine F.ok sc_law_others (fun vs H Q E h => ?_) (fun cdv A outer sh H vs Q E hr h => ?_)
  · obtain ⟨b, tp, rp, v, T, ts, rs, r, rfl, _⟩ := h
    rfl
  obtain ⟨b, tp, rp, v, T, ts, rs, r, rfl, S, hT, okt, l0, l6, dpt, dpr, r0, r8, okr, dv, okv, q⟩ := h
  have nd := sc_law_others.nd
  have hT5 : ∀ x ∈ ts, NameOk x.1 ∧ (∀ c ∈ x.2.map (·.1), NameOk c) ∧ x.2.length ≤ 5 := fun x hx => ⟨okt.nm x hx, fun c hc => by
    obtain ⟨y, hy, rfl⟩ := List.mem_map.mp hc
    exact (okt.cs x hx).1.nm y hy, (okt.cs x hx).1.top⟩
  obtain ⟨zN, zS, zT, zK, zC, zE, zA, lA⟩ := rule_sz hT5 okv
  have zAct : Sz 7300 4 (.tuple (r.acts.map actD)) := (sz_tup (W := 1200) (D := 3) 3 zA (by rw [List.length_map]; exact lA) (by decide)).mono (by decide) (Nat.le_refl _)
  obtain ⟨rr, Ac, vc, vt, rfl, hR, dC, dE, dA⟩ := rule_dp dv
  obtain ⟨tx, htx, hTA⟩ : ∃ xs, SqT K (msk [b] H) tp xs ∧ DpAll K (msk [b] H) xs (ts.map tabD) := by cases dpt with | tup a1 a2 => exact ⟨_, a1, a2⟩
  obtain ⟨rx, hrx, hRA⟩ : ∃ xs, SqT K (msk [b] H) rp xs ∧ DpAll K (msk [b] H) xs (rs.map ruleD) := by cases dpr with | tup a1 a2 => exact ⟨_, a1, a2⟩
  have ltx : tx.length = ts.length := by rw [dpAll_len hTA, List.length_map]
  have lrx : rx.length = rs.length := by rw [dpAll_len hRA, List.length_map]
  refine ⟨_, (pss_cons (ps_asg (pv 3) (pg_tup rfl (pgs_cons (pg_name (i := 4) nd rfl (Or.inr rfl)) (pgs_cons (pg_name (i := 5) nd rfl (Or.inr rfl)) (pgs_cons (pg_name (i := 6) nd rfl (Or.inr rfl)) (pgs_cons (pg_name (i := 7) nd rfl (Or.inr rfl)) (pgs_cons (pg_name (i := 8) nd rfl (Or.inr rfl)) (pgs_cons (pg_name (i := 9) nd rfl (Or.inr rfl)) (pgs_cons (pg_name (i := 10) nd rfl (Or.inr rfl)) pgs_nil)))))))))
      (pss_cons (ps_par (i := 11) (j := 12) (by rfl) nd rfl rfl (by decide) rfl rfl (pa_cons (pe_own D_law_one_of hr (pa_cons (pv 0) (pa_cons (pv 1) pa_nil))) (pa_cons (pe_own D_law_one_of hr (pa_cons (pv 0) (pa_cons (pv 2) pa_nil))) pa_nil)) (by rfl))
      (pss_cons (ps_setLc (i := 13) (own := [("one", 15)]) (g := (gName 15)) (tt := tYes) rfl nd rfl rfl (sw_true rfl rfl rfl (by decide +kernel)) (pi_tup (pe_tup (pa_cons pe_str (pa_cons pe_str (pa_cons pe_str (pa_cons pe_str pa_nil)))))) (blkOk_by (N := N_law_others) (sc := defScope s_law_others) (by decide +kernel)) (fun _ _ _ _ _ => (pg_name (i := 15) nd rfl (Or.inl rfl))) (fun _ _ _ _ _ => pts_nil) (fun _ _ _ _ _ => (pe_tup (pa_cons (pv 4) (pa_cons (pv 15) (pa_cons (pv 6) (pa_cons (pv 7) (pa_cons (pv 8) (pa_cons (pv 9) (pa_cons (pv 10) pa_nil))))))))))
      (pss_cons (ps_set (i := 13) nd rfl (Or.inl rfl) (pe_op op_cat (pv 13) (pe_lst (pa_cons (pe_tup (pa_cons (pv 4) (pa_cons pe_str (pa_cons (pv 6) (pa_cons (pv 7) (pa_cons (pv 8) (pa_cons (pv 9) (pa_cons (pe_tup pa_nil) pa_nil)))))))) (pa_cons (pe_tup (pa_cons (pv 4) (pa_cons (pv 5) (pa_cons (pv 6) (pa_cons (pv 7) (pa_cons (pv 8) (pa_cons pe_non (pa_cons (pv 10) pa_nil)))))))) pa_nil)))))
      (pss_cons (ps_set (i := 13) nd rfl (Or.inl rfl) (pe_op op_cat (pv 13) (pe_lc (own := [("one", 15)]) (g := (gName 15)) (tt := tYes) rfl nd (pi_tup (pe_tup (pa_cons pe_str (pa_cons pe_str (pa_cons pe_str (pa_cons pe_str pa_nil)))))) (blkOk_by (N := N_law_others) (sc := defScope s_law_others) (by decide +kernel)) (fun _ _ _ _ _ => (pg_name (i := 15) nd rfl (Or.inl rfl))) (fun _ _ _ _ _ => pts_nil) (fun _ _ _ _ _ => (pe_tup (pa_cons (pv 4) (pa_cons (pv 5) (pa_cons (pv 6) (pa_cons (pv 15) (pa_cons pe_non (pa_cons (pv 9) (pa_cons (pv 10) pa_nil))))))))))))
      (pss_cons (ps_set (i := 13) nd rfl (Or.inl rfl) (pe_op op_cat (pv 13) (pe_lc (own := [("one", 15)]) (g := (gName 15)) (tt := tYes) rfl nd (pi_tup (pe_ix ix_tup (pv 11) pe_int (fun _ _ => rfl))) (blkOk_by (N := N_law_others) (sc := defScope s_law_others) (by decide +kernel)) (fun _ _ _ _ _ => (pg_name (i := 15) nd rfl (Or.inl rfl))) (fun _ _ _ _ _ => pts_nil) (fun _ _ _ _ _ => (pe_tup (pa_cons (pv 4) (pa_cons (pv 5) (pa_cons (pv 6) (pa_cons (pv 7) (pa_cons (pe_ix (r := rIxT K) ix_tup (pv 15) pe_int (fun _ _ => rfl)) (pa_cons (pv 9) (pa_cons (pv 10) pa_nil))))))))))))
      (pss_cons (ps_set (i := 13) nd rfl (Or.inl rfl) (pe_op op_cat (pv 13) (pe_lst (pa_cons (pe_tup (pa_cons (pv 4) (pa_cons (pv 5) (pa_cons (pe_ix ix_tup (pv 11) pe_int (fun _ _ => rfl)) (pa_cons (pv 7) (pa_cons (pv 8) (pa_cons (pv 9) (pa_cons (pv 10) pa_nil)))))))) (pa_cons (pe_tup (pa_cons (pv 4) (pa_cons (pv 5) (pa_cons pe_str (pa_cons (pv 7) (pa_cons (pv 8) (pa_cons (pv 9) (pa_cons (pv 10) pa_nil)))))))) pa_nil)))))
      (pss_cons (ps_set (i := 14) nd rfl (Or.inl rfl) (pe_lst (pa_cons (pe_tup pa_nil) (pa_cons (pe_op (r := rCatA K) op_catA (pv 10) (pv 10)) (pa_cons (pe_op (r := rCatA K) op_catA (pv 10) (pe_ix ix_tup (pv 12) pe_int (fun _ _ => rfl))) (pa_cons (pe_callTy call_list_of (by rfl) nb.b_list (by decide +kernel) (pa_cons (pv 10) pa_nil)) pa_nil))))))
      (pss_cons (ps_set (i := 13) nd rfl (Or.inl rfl) (pe_op op_cat (pv 13) (pe_lc (own := [("one", 15)]) (g := (gName 15)) (tt := tYes) rfl nd (pi_list (pv 14)) (blkOk_by (N := N_law_others) (sc := defScope s_law_others) (by decide +kernel)) (fun _ _ _ _ _ => (pg_name (i := 15) nd rfl (Or.inl rfl))) (fun _ _ _ _ _ => pts_nil) (fun _ _ _ _ _ => (pe_tup (pa_cons (pv 4) (pa_cons (pv 5) (pa_cons (pv 6) (pa_cons (pv 7) (pa_cons (pv 8) (pa_cons (pv 9) (pa_cons (pv 15) pa_nil))))))))))))
      (pss_cons (ps_set (i := 9) nd rfl (Or.inr rfl) (pe_tup (pa_cons (pe_tup (pa_cons pe_str (pa_cons (pe_ix ix_tup (pe_ix ix_tup (pe_ix ix_tup (pv 11) pe_int (fun _ _ => rfl)) (pe_un un_neg pe_int) (fun _ _ => rfl)) pe_int (fun _ _ => rfl)) pa_nil))) (pa_cons pe_str (pa_cons (pe_tup (pa_cons pe_str (pa_cons (pe_ix ix_tup (pe_ix ix_tup (pe_ix ix_tup (pv 11) pe_int (fun _ _ => rfl)) pe_int (fun _ _ => rfl)) pe_int (fun _ _ => rfl)) pa_nil))) pa_nil)))))
      (pss_cons (ps_set (i := 13) nd rfl (Or.inl rfl) (pe_op op_cat (pv 13) (pe_lc (own := [("one", 15)]) (g := (gName 15)) (tt := tYes) rfl nd (pi_tup (pe_tup (pa_cons (pv 9) (pa_cons (pe_tup (pa_cons pe_non (pa_cons pe_str (pa_cons pe_non pa_nil)))) (pa_cons (pe_slice sl_tup (pv 9) po_none (po_some pe_int)) pa_nil))))) (blkOk_by (N := N_law_others) (sc := defScope s_law_others) (by decide +kernel)) (fun _ _ _ _ _ => (pg_name (i := 15) nd rfl (Or.inl rfl))) (fun _ _ _ _ _ => pts_nil) (fun _ _ _ _ _ => (pe_tup (pa_cons (pv 4) (pa_cons (pv 5) (pa_cons (pv 6) (pa_cons (pv 7) (pa_cons (pv 8) (pa_cons (pv 15) (pa_cons (pv 10) pa_nil))))))))))))
      (pss_cons (ps_expr (pe_bm PySem.F.plainAttrs_list PySem.F.slot_list_append PySem.F.type_list_append mt_append (pv 13) (pa_cons (pe_tup (pa_cons (pv 4) (pa_cons (pv 5) (pa_cons (pv 6) (pa_cons (pv 7) (pa_cons (pv 8) (pa_cons (pe_tup (pa_cons (pe_op op_add (pe_op op_pow pe_int pe_int) pe_int) (pa_cons pe_str (pa_cons (pe_tup (pa_cons pe_str pa_nil)) pa_nil)))) (pa_cons (pv 10) pa_nil)))))))) pa_nil)))
      (pss_cons (ps_expr (pe_bm PySem.F.plainAttrs_list PySem.F.slot_list_append PySem.F.type_list_append mt_append (pv 13) (pa_cons (pe_tup (pa_cons (pv 4) (pa_cons (pv 5) (pa_cons (pv 6) (pa_cons (pv 7) (pa_cons (pv 8) (pa_cons (pe_tup (pa_cons (pe_op op_pow pe_int pe_int) (pa_cons pe_str (pa_cons (pe_un un_neg (pe_op op_pow pe_int pe_int)) pa_nil)))) (pa_cons (pv 10) pa_nil)))))))) pa_nil)))
      (pss_one (ps_ret (pe_op op_cat (pv 13) (pe_lc (own := [("one", 15)]) (g := (gName 15)) (tt := tYes) rfl nd (pi_tup (pe_tup (pa_cons pe_str (pa_cons pe_str (pa_cons pe_non pa_nil))))) (blkOk_by (N := N_law_others) (sc := defScope s_law_others) (by decide +kernel)) (fun _ _ _ _ _ => (pg_name (i := 15) nd rfl (Or.inl rfl))) (fun _ _ _ _ _ => pts_nil) (fun _ _ _ _ _ => (pe_tup (pa_cons (pv 4) (pa_cons (pv 5) (pa_cons (pv 6) (pa_cons (pv 7) (pa_cons (pv 8) (pa_cons (pe_tup (pa_cons pe_int (pa_cons (pv 15) (pa_cons pe_int pa_nil)))) (pa_cons (pv 10) pa_nil)))))))))))))))))))))))))), ?_⟩
  refine ⟨.ref rr, rfl, rr, _, rfl, sameT (msk_sub _ _) hR, rfl, .str r.nm, _, rfl, .str r.side, _, rfl, .str r.tab, _, rfl, .str r.kind, _, rfl, vc, _, rfl, vt, _, rfl, .ref Ac, _, rfl, rfl, ?_⟩
  dsimp only [List.set]
  refine ⟨.ref b, rfl, .ref tp, rfl, b, tp, T, tx, rfl, S, by omega, .inr htx, by omega, by omega, fun j1 x1 H1 hj1 S1 K1 => ?_⟩
  refine ⟨.ref b, rfl, .ref rp, rfl, b, rp, _, rx, rfl, S1, by omega, .inr (sameT (msk_same K1) hrx), by omega, by omega, fun j2 x2 H2 hj2 S2 K2 => ⟨_, _, rfl, ?_⟩⟩
  dsimp only [List.set]
  obtain ⟨tb, qf, pc, ys, htb, rfl, h1, h2, h3⟩ := tab_at hTA hj1
  obtain ⟨d2, hd2, dv2⟩ := dpAll_get j2 hRA hj2
  rw [List.getElem?_map] at hd2
  obtain ⟨r2, hr2, rfl⟩ := Option.map_eq_some_iff.mp hd2
  have okm := rule_sz hT5 (okr r2 (List.mem_of_getElem? hr2))
  obtain ⟨rm, A2, vc2, vt2, rfl, hR2, _, _, dA2⟩ := rule_dp dv2
  have htm := List.mem_of_getElem? htb
  have lys : ys.length = tb.2.length := by rw [dpAll_len h3, List.length_map]
  have l5 : tb.2.length ≤ 5 := (okt.cs tb htm).1.top
  have c0 : 0 < tb.2.length := (okt.cs tb htm).2
  have colat : ∀ {j : Nat} {y : V}, ys[j]? = some y → ∃ (c : Col) (cp : Addr) (w : V), tb.2[j]? = some c ∧ y = .ref cp ∧ SqT K (msk [b] H) cp [.str c.1, w] := fun {j y} hy => by
    obtain ⟨dc, y1, y2⟩ := dpAll_get j h3 hy
    rw [List.getElem?_map] at y1
    obtain ⟨c, hc, rfl⟩ := Option.map_eq_some_iff.mp y1
    cases y2 with
    | tup a1 a2 =>
    cases a2 with
    | cons b1 b2 =>
    cases b2 with
    | cons e1 e2 =>
    cases e2; cases b1
    exact ⟨c, _, _, hc, rfl, a1⟩
  have KH2 := K1.trans K2
  have oneL : ∀ {ds : List PyData} {xs : List V} {M : List Addr} {Hx : Hp} {i : Nat} {x : V} {a : PyData}, DpAll K (msk M Hx) xs ds → xs[i]? = some x → ds[i]? = some a → Dp K (msk M Hx) x a := fun h hx ha => by
    obtain ⟨a', h1, h2⟩ := dpAll_get _ h hx
    rw [ha] at h1
    cases h1
    exact h2
  -- the first
  show tSeq (tAsg _ _) (tSeq _ _) _ [some (.ref b), some (.ref tp), some (.ref rp), some (.ref rr), some (.str r.nm), some (.str r.side), some (.str r.tab), some (.str r.kind), some vc, some vt, some (.ref Ac), some (.ref qf), some (.ref rm), none, none, none] H2
  have S2 : BoxAt H2 b (T + 2) := S2
  have SS : BoxAt H b (T + 2) := S.mono (by omega)
  refine ⟨(by show 4 ≤ sizeLine; decide), fun p1 n1 => ?_⟩
  have s1 := same_upd (o := .tup [.str "ahead", .str "row", .str "deed", .str "behind"]) n1
  have e1 : (upd H2 p1 (.tup [.str "ahead", .str "row", .str "deed", .str "behind"])) p1 = some (.tup [.str "ahead", .str "row", .str "deed", .str "behind"]) := upd_same
  generalize upd H2 p1 (.tup [.str "ahead", .str "row", .str "deed", .str "behind"]) = H3 at s1 e1 ⊢
  have S3 := S2.same s1
  have K3 := KH2.trans (Kept.of_same s1)
  have u3 : Same (msk [b] H) (msk [b] H3) := msk_same K3
  refine ⟨p1, rfl, ⟨_, .inl (.inl e1)⟩, fun D nD => ?_⟩
  refine lc_dp (K := K) (walk_tup (xs := [.str "ahead", .str "row", .str "deed", .str "behind"])) (l := [PyData.str "ahead", PyData.str "row", PyData.str "deed", PyData.str "behind"]) [b] (by first | rfl | simp) (by first | decide | simp) (fun w => .tuple [.str r.nm, w, .str r.tab, .str r.kind, colO r.col, testD r.test, .tuple (r.acts.map actD)]) nD (fun H' k => (.inl (.inl ((keptS0 k nD) _ _ e1)))) (fun i x a H' C N hx hl kk hws next => ?_) (fun us H4 gr kk => ?_) (S3.out nD)
  · have dx : Dp K (msk (D :: [b]) H') x a := oneL (.cons (.str _) (.cons (.str _) (.cons (.str _) (.cons (.str _) .nil)))) hx hl
    have uD := u3.trans (toD nD kk (Same.refl _))
    refine gN0 ⟨rfl, iteT ?_⟩
    refine ⟨.str r.nm, rfl, x, rfl, .str r.tab, rfl, .str r.kind, rfl, vc, rfl, vt, rfl, .ref Ac, rfl, (by show 7 ≤ sizeLine; decide), fun t nt => ?_⟩
    exact fin7 nD S3 kk hws next (Same.refl _) (.cons (.str _) (.cons (dx) (.cons (.str _) (.cons (.str _) (.cons (dp_same uD dC) (.cons (dp_same uD dE) (.cons (dp_same uD dA) .nil))))))) t nt
  have s34 := keptS0 kk nD
  have eD := gr.at'
  have dD := dpAll_same (msk_less sub_push) gr.dp
  have st : FSt K b H (T + 2) 4 H4 D := ⟨⟨us, _, gr, fun e he => ?_, by rw [List.length_map]; decide⟩, K3.trans (Kept.of_same s34), S3.same s34, K3.fresh nD fun p hp => by rw [List.mem_singleton.mp hp]; exact S3.ne nD⟩
  rotate_left
  · obtain ⟨w, hw, rfl⟩ := List.mem_map.mp he
    have zw : Sz 92 0 w := by
      simp only [List.mem_cons, List.not_mem_nil, or_false] at hw
      rcases hw with rfl | rfl | rfl | rfl <;> exact sz_w (by decide +kernel)
    exact sz7 zN zw zT zK zC zE zAct
  refine gN0 ?_
  clear eD dD gr kk s34 u3 K3 S3 e1 s1 n1 nD us
  generalize H4 = Hx at st ⊢
  generalize D = Fx at st ⊢
  -- two more
  dsimp only [List.set]
  show tSeq (tAsg _ _) (tSeq _ _) _ [some (.ref b), some (.ref tp), some (.ref rp), some (.ref rr), some (.str r.nm), some (.str r.side), some (.str r.tab), some (.str r.kind), some vc, some vt, some (.ref Ac), some (.ref qf), some (.ref rm), some (.ref Fx), none, none] Hx
  have u := msk_same st.kk
  refine ⟨.ref Fx, rfl, .str r.nm, rfl, .str r.tab, rfl, .str r.kind, rfl, vc, rfl, vt, rfl, Nat.zero_le _, fun e0 ne0 => ⟨(by show 7 ≤ sizeLine; decide), fun t1 nt1 => ?_⟩⟩
  have v0 := same_upd (o := .tup []) ne0
  have v1 := same_upd (o := .tup [.str r.nm, .str "ahead", .str r.tab, .str r.kind, vc, vt, .ref e0]) nt1
  refine ⟨.str r.nm, rfl, .str r.side, rfl, .str r.tab, rfl, .str r.kind, rfl, vc, rfl, .ref Ac, rfl, (by show 7 ≤ sizeLine; decide), fun t2 nt2 => ⟨(by show 2 ≤ sizeLine; decide), fun L nL => ?_⟩⟩
  have v2 := same_upd (o := .tup [.str r.nm, .str r.side, .str r.tab, .str r.kind, vc, .non, .ref Ac]) nt2
  have v3 := same_upd (o := .lst [.ref t1, .ref t2]) nL
  have vv := v0.trans (v1.trans (v2.trans v3))
  have k0 : ∀ {Ha}, Same Hx Ha → Same (msk [b] Hx) (msk [b] Ha) := fun s => msk_same (Kept.of_same s)
  have o0 := st.S.out ne0
  have o1 := (st.S.same v0).out nt1
  have o2 := ((st.S.same v0).same v1).out nt2
  have dE0 : Dp K (msk [b] (upd Hx e0 (.tup []))) (.ref e0) (.tuple []) := .tup (.inl (.inl (msk_at upd_same o0))) .nil
  have dT1 := dp_newt (t := t1) (.cons (.str _) (.cons (.str _) (.cons (.str _) (.cons (.str _) (.cons (dp_same (u.trans (k0 v0)) dC) (.cons (dp_same (u.trans (k0 v0)) dE) (.cons (dE0) .nil)))))) : DpAll K (msk [b] (upd Hx e0 (.tup []))) [.str r.nm, .str "ahead", .str r.tab, .str r.kind, vc, vt, .ref e0] [.str r.nm, .str "ahead", .str r.tab, .str r.kind, colO r.col, testD r.test, .tuple []]) nt1 o1
  have dT2 := dp_newt (t := t2) (.cons (.str _) (.cons (.str _) (.cons (.str _) (.cons (.str _) (.cons (dp_same (u.trans (k0 (v0.trans v1))) dC) (.cons (.non) (.cons (dp_same (u.trans (k0 (v0.trans v1))) dA) .nil)))))) : DpAll K (msk [b] _) [.str r.nm, .str r.side, .str r.tab, .str r.kind, vc, .non, .ref Ac] [.str r.nm, .str r.side, .str r.tab, .str r.kind, colO r.col, .none, .tuple (r.acts.map actD)]) nt2 o2
  have eL := upd_same (H := upd (upd (upd Hx e0 (.tup [])) t1 (.tup [.str r.nm, .str "ahead", .str r.tab, .str r.kind, vc, vt, .ref e0])) t2 (.tup [.str r.nm, .str r.side, .str r.tab, .str r.kind, vc, .non, .ref Ac])) (a := L) (o := .lst [.ref t1, .ref t2])
  have dL := (.cons (dp_same (msk_same (Kept.of_same (v2.trans v3))) dT1) (.cons (dp_same (msk_same (Kept.of_same v3)) dT2) .nil) : DpAll K (msk [b] _) [.ref t1, .ref t2] _)
  refine st.cat (m := 2) SS vv eL dL (fun e he => by
    simp only [List.mem_cons, List.not_mem_nil, or_false] at he
    rcases he with rfl | rfl
    · exact sz7 zN (sz_w (by decide +kernel)) zT zK zC zE ((sz_tup (W := 92) (D := 0) 0 (fun _ h => absurd h List.not_mem_nil) (Nat.le_refl 0) (by decide)).mono (by decide) (by decide))
    · exact sz7 zN zS zT zK zC (sz_none.mono (by decide) (by decide)) zAct) (by first | decide | simp) (by decide) fun Z Hz st2 => gN0 ?_
  clear st
  have st : FSt K b H (T + 2) 6 Hz Z := st2
  clear st2
  clear u v0 v1 v2 v3 vv k0 o0 o1 o2 dE0 dT1 dT2 eL dL
  -- by each kind
  generalize Hz = Hx at st ⊢
  generalize Z = Fx at st ⊢
  dsimp only [List.set]
  show tSeq (tAsg _ _) (tSeq _ _) _ [some (.ref b), some (.ref tp), some (.ref rp), some (.ref rr), some (.str r.nm), some (.str r.side), some (.str r.tab), some (.str r.kind), some vc, some vt, some (.ref Ac), some (.ref qf), some (.ref rm), some (.ref Fx), none, none] Hx
  refine ⟨.ref Fx, rfl, (by show 4 ≤ sizeLine; decide), fun p1 n1 => ?_⟩
  have s1 := same_upd (o := .tup [.str "put", .str "drop", .str "set", .str "add"]) n1
  have e1 : (upd Hx p1 (.tup [.str "put", .str "drop", .str "set", .str "add"])) p1 = some (.tup [.str "put", .str "drop", .str "set", .str "add"]) := upd_same
  generalize upd Hx p1 (.tup [.str "put", .str "drop", .str "set", .str "add"]) = H3 at s1 e1 ⊢
  have S3 := st.S.same s1
  have K3 := st.kk.trans (Kept.of_same s1)
  have u3 : Same (msk [b] H) (msk [b] H3) := msk_same K3
  refine ⟨p1, rfl, ⟨_, .inl (.inl e1)⟩, fun D nD => ?_⟩
  refine lc_dp (K := K) (walk_tup (xs := [.str "put", .str "drop", .str "set", .str "add"])) (l := [PyData.str "put", PyData.str "drop", PyData.str "set", PyData.str "add"]) [b] (by first | rfl | simp) (by first | decide | simp) (fun w => .tuple [.str r.nm, .str r.side, .str r.tab, w, .none, testD r.test, .tuple (r.acts.map actD)]) nD (fun H' k => (.inl (.inl ((keptS0 k nD) _ _ e1)))) (fun i x a H' C N hx hl kk hws next => ?_) (fun us H4 gr kk => ?_) (S3.out nD)
  · have dx : Dp K (msk (D :: [b]) H') x a := oneL (.cons (.str _) (.cons (.str _) (.cons (.str _) (.cons (.str _) .nil)))) hx hl
    have uD := u3.trans (toD nD kk (Same.refl _))
    refine gN0 ⟨rfl, iteT ?_⟩
    refine ⟨.str r.nm, rfl, .str r.side, rfl, .str r.tab, rfl, x, rfl, vt, rfl, .ref Ac, rfl, (by show 7 ≤ sizeLine; decide), fun t nt => ?_⟩
    exact fin7 nD S3 kk hws next (Same.refl _) (.cons (.str _) (.cons (.str _) (.cons (.str _) (.cons (dx) (.cons (.non) (.cons (dp_same uD dE) (.cons (dp_same uD dA) .nil))))))) t nt
  have s34 := keptS0 kk nD
  have eD := gr.at'
  have dD := dpAll_same (msk_less sub_push) gr.dp
  refine st.cat (m := 4) SS (s1.trans s34) eD dD (fun e he => by
    obtain ⟨w, hw, rfl⟩ := List.mem_map.mp he
    have zw : Sz 92 0 w := by
      simp only [List.mem_cons, List.not_mem_nil, or_false] at hw
      rcases hw with rfl | rfl | rfl | rfl <;> first | exact sz_w (by decide +kernel) | exact sz_none
    exact sz7 zN zS zT zw sz_none zE zAct) (by first | decide | simp) (by decide) fun Z Hz st2 => gN0 ?_
  clear st
  have st : FSt K b H (T + 2) 10 Hz Z := st2
  clear st2
  clear eD dD gr kk s34 u3 K3 S3 e1 s1 n1 nD
  -- by each column
  generalize Hz = Hx at st ⊢
  generalize Z = Fx at st ⊢
  dsimp only [List.set]
  show tSeq (tAsg _ _) (tSeq _ _) _ [some (.ref b), some (.ref tp), some (.ref rp), some (.ref rr), some (.str r.nm), some (.str r.side), some (.str r.tab), some (.str r.kind), some vc, some vt, some (.ref Ac), some (.ref qf), some (.ref rm), some (.ref Fx), none, none] Hx
  have u3 := msk_same st.kk
  have S3 := st.S
  have sx : ∀ {Ha}, Kept [b] H1 Ha → True := fun _ => trivial
  clear sx
  have f1 := sameT u3 h1
  have f2 := sameT u3 h2
  refine ⟨.ref Fx, rfl, .ref qf, rfl, qf, _, 1, .ref pc, rfl, rfl, sameT (msk_sub _ _) f1, atI_nat (j := 1) rfl, pc, rfl, ⟨_, sameT (msk_sub _ _) f2⟩, fun D nD => ?_⟩
  refine lc_dp (K := K) (walk_tup (xs := ys)) (l := tb.2) [b] lys (by omega) (fun c => .tuple [.str r.nm, .str r.side, .str r.tab, .str r.kind, .str c.1, testD r.test, .tuple (r.acts.map actD)]) nD (fun H' k => sameT ((msk_sub _ _).trans (keptS0 k nD)) f2) (fun i x a H' C N hx hl kk hws next => ?_) (fun us H4 gr kk => ?_) (S3.out nD)
  · obtain ⟨c, cp, w0, hc, rfl, hcp⟩ := colat hx
    rw [hl] at hc
    cases hc
    have uD := u3.trans (toD nD kk (Same.refl _))
    refine gN0 ⟨rfl, iteT ?_⟩
    refine ⟨.str r.nm, rfl, .str r.side, rfl, .str r.tab, rfl, .str r.kind, rfl, .ref cp, rfl, cp, _, 0, .str a.1, rfl, rfl, sameT ((u3.trans (msk_sub _ _)).trans (keptS0 kk nD)) hcp, atI_nat (j := 0) rfl, vt, rfl, .ref Ac, rfl, (by show 7 ≤ sizeLine; decide), fun t nt => ?_⟩
    exact fin7 nD S3 kk hws next (Same.refl _) (.cons (.str _) (.cons (.str _) (.cons (.str _) (.cons (.str _) (.cons (.str _) (.cons (dp_same uD dE) (.cons (dp_same uD dA) .nil))))))) t nt
  have s34 := keptS0 kk nD
  have eD := gr.at'
  have dD := dpAll_same (msk_less sub_push) gr.dp
  refine st.cat (m := 5) SS s34 eD dD (fun e he => by
    obtain ⟨c, hc, rfl⟩ := List.mem_map.mp he
    exact sz7 zN zS zT zK (sz_str ((okt.cs tb htm).1.nm c hc)) zE zAct) (by rw [List.length_map]; exact l5) (by decide) fun Z Hz st2 => gN0 ?_
  clear st
  have st : FSt K b H (T + 2) 15 Hz Z := st2
  clear st2
  clear eD dD gr kk s34 u3 S3 nD f1 f2
  -- two tables
  generalize Hz = Hx at st ⊢
  generalize Z = Fx at st ⊢
  dsimp only [List.set]
  show tSeq (tAsg _ _) (tSeq _ _) _ [some (.ref b), some (.ref tp), some (.ref rp), some (.ref rr), some (.str r.nm), some (.str r.side), some (.str r.tab), some (.str r.kind), some vc, some vt, some (.ref Ac), some (.ref qf), some (.ref rm), some (.ref Fx), none, none] Hx
  have u := msk_same st.kk
  refine ⟨.ref Fx, rfl, .str r.nm, rfl, .str r.side, rfl, .ref qf, rfl, qf, _, 0, .str tb.1, rfl, rfl, sameT (u.trans (msk_sub _ _)) h1, atI_nat (j := 0) rfl, .str r.kind, rfl, vc, rfl, vt, rfl, .ref Ac, rfl, (by show 7 ≤ sizeLine; decide), fun t1 nt1 => ?_⟩
  have v1 := same_upd (o := .tup [.str r.nm, .str r.side, .str tb.1, .str r.kind, vc, vt, .ref Ac]) nt1
  refine ⟨.str r.nm, rfl, .str r.side, rfl, .str r.kind, rfl, vc, rfl, vt, rfl, .ref Ac, rfl, (by show 7 ≤ sizeLine; decide), fun t2 nt2 => ⟨(by show 2 ≤ sizeLine; decide), fun L nL => ?_⟩⟩
  have v2 := same_upd (o := .tup [.str r.nm, .str r.side, .str "", .str r.kind, vc, vt, .ref Ac]) nt2
  have v3 := same_upd (o := .lst [.ref t1, .ref t2]) nL
  have vv := v1.trans (v2.trans v3)
  have o1 := st.S.out nt1
  have o2 := (st.S.same v1).out nt2
  have dT1 := dp_newt (t := t1) (.cons (.str _) (.cons (.str _) (.cons (.str _) (.cons (.str _) (.cons (dp_same u dC) (.cons (dp_same u dE) (.cons (dp_same u dA) .nil)))))) : DpAll K (msk [b] _) [.str r.nm, .str r.side, .str tb.1, .str r.kind, vc, vt, .ref Ac] [.str r.nm, .str r.side, .str tb.1, .str r.kind, colO r.col, testD r.test, .tuple (r.acts.map actD)]) nt1 o1
  have dT2 := dp_newt (t := t2) (.cons (.str _) (.cons (.str _) (.cons (.str _) (.cons (.str _) (.cons (dp_same (u.trans (msk_same (Kept.of_same v1))) dC) (.cons (dp_same (u.trans (msk_same (Kept.of_same v1))) dE) (.cons (dp_same (u.trans (msk_same (Kept.of_same v1))) dA) .nil)))))) : DpAll K (msk [b] _) [.str r.nm, .str r.side, .str "", .str r.kind, vc, vt, .ref Ac] [.str r.nm, .str r.side, .str "", .str r.kind, colO r.col, testD r.test, .tuple (r.acts.map actD)]) nt2 o2
  have eL := upd_same (H := upd (upd Hx t1 (.tup [.str r.nm, .str r.side, .str tb.1, .str r.kind, vc, vt, .ref Ac])) t2 (.tup [.str r.nm, .str r.side, .str "", .str r.kind, vc, vt, .ref Ac])) (a := L) (o := .lst [.ref t1, .ref t2])
  have dL := (.cons (dp_same (msk_same (Kept.of_same (v2.trans v3))) dT1) (.cons (dp_same (msk_same (Kept.of_same v3)) dT2) .nil) : DpAll K (msk [b] _) [.ref t1, .ref t2] _)
  refine st.cat (m := 2) SS vv eL dL (fun e he => by
    simp only [List.mem_cons, List.not_mem_nil, or_false] at he
    rcases he with rfl | rfl
    · exact sz7 zN zS (sz_str (okt.nm tb htm)) zK zC zE zAct
    · exact sz7 zN zS sz_empty zK zC zE zAct) (by first | decide | simp) (by decide) fun Z Hz st2 => gN0 ?_
  clear st
  have st : FSt K b H (T + 2) 17 Hz Z := st2
  clear st2
  clear u v1 v2 v3 vv o1 o2 dT1 dT2 eL dL
  -- acts put otherwise
  generalize Hz = Hx at st ⊢
  generalize Z = Fx at st ⊢
  dsimp only [List.set]
  show tSeq (tAsg _ _) (tSeq _ _) _ [some (.ref b), some (.ref tp), some (.ref rp), some (.ref rr), some (.str r.nm), some (.str r.side), some (.str r.tab), some (.str r.kind), some vc, some vt, some (.ref Ac), some (.ref qf), some (.ref rm), some (.ref Fx), none, none] Hx
  have u := msk_same st.kk
  have la1 : (r.acts.map actD).length ≤ 3 := by rw [List.length_map]; exact lA
  have la2 : (r2.acts.map actD).length ≤ 3 := by rw [List.length_map]; exact okm.2.2.2.2.2.2.2
  refine ⟨Nat.zero_le _, fun e0 ne0 => ?_⟩
  have v0 := same_upd (o := .tup []) ne0
  have e0' : (upd Hx e0 (.tup [])) e0 = some (.tup []) := upd_same
  have o0 := st.S.out ne0
  generalize upd Hx e0 (.tup []) = Ha at v0 e0' ⊢
  have Sa := st.S.same v0
  have ua := u.trans (msk_same (Kept.of_same v0))
  refine ⟨.ref Ac, rfl, .ref Ac, rfl, ?_⟩
  refine catA_dp Sa (dp_same ua dA) (dp_same ua dA) (by omega) fun p1 Hb dp1 s1 => ?_
  have ub := ua.trans (msk_same (Kept.of_same s1))
  refine ⟨.ref Ac, rfl, .ref rm, rfl, rm, _, 6, .ref A2, rfl, rfl, sameT (ub.trans (msk_sub _ _)) hR2, atI_nat (j := 6) rfl, ?_⟩
  refine catA_dp (Sa.same s1) (dp_same ub dA) (dp_same ub dA2) (by omega) fun p2 Hc dp2 s2 => ?_
  have uc := ub.trans (msk_same (Kept.of_same s2))
  obtain ⟨xa, hxa, dxa⟩ : ∃ xs, SqT K (msk [b] Hc) Ac xs ∧ DpAll K (msk [b] Hc) xs (r.acts.map actD) := by
    cases dp_same uc dA with
    | tup a1 a2 => exact ⟨_, a1, a2⟩
  refine ⟨.ref Ac, rfl, Ac, xa, rfl, .inr (sameT (msk_sub _ _) hxa), fun p3 n3 => ⟨(by show 4 ≤ sizeLine; decide), fun L nL => gN0 ?_⟩⟩
  have s3 := same_upd (o := .lst xa) n3
  have s4 := same_upd (o := .lst [.ref e0, .ref p1, .ref p2, .ref p3]) nL
  have Sc := (Sa.same s1).same s2
  have dL : DpAll K (msk [b] (upd (upd Hc p3 (.lst xa)) L (.lst [.ref e0, .ref p1, .ref p2, .ref p3]))) [.ref e0, .ref p1, .ref p2, .ref p3] [.tuple [], .tuple (r.acts.map actD ++ r.acts.map actD), .tuple (r.acts.map actD ++ r2.acts.map actD), .list (r.acts.map actD)] := by
    refine .cons (dp_same (msk_same (Kept.of_same (s1.trans (s2.trans (s3.trans s4))))) (.tup (.inl (.inl (msk_at e0' o0))) .nil)) (.cons (dp_same (msk_same (Kept.of_same (s2.trans (s3.trans s4)))) dp1) (.cons (dp_same (msk_same (Kept.of_same (s3.trans s4))) dp2) (.cons (dp_same (msk_same (Kept.of_same s4)) (.lst (.inl (.inl (msk_at upd_same (Sc.out n3)))) (dpAll_same (msk_same (Kept.of_same s3)) dxa))) .nil)))
  have eL := upd_same (H := upd Hc p3 (.lst xa)) (a := L) (o := .lst [.ref e0, .ref p1, .ref p2, .ref p3])
  have sT := v0.trans (s1.trans (s2.trans (s3.trans s4)))
  dsimp only [List.set]
  show tSeq (tAsg _ _) (tSeq _ _) _ [some (.ref b), some (.ref tp), some (.ref rp), some (.ref rr), some (.str r.nm), some (.str r.side), some (.str r.tab), some (.str r.kind), some vc, some vt, some (.ref Ac), some (.ref qf), some (.ref rm), some (.ref Fx), some (.ref L), none] (upd (upd Hc p3 (.lst xa)) L (.lst [.ref e0, .ref p1, .ref p2, .ref p3]))
  generalize upd (upd Hc p3 (.lst xa)) L (.lst [.ref e0, .ref p1, .ref p2, .ref p3]) = Hd at dL eL sT ⊢
  clear s3 s4 Sc hxa dxa uc n3 nL dp1 dp2 s1 s2 ub ua Sa o0 e0' v0 ne0 u
  have S3 := st.S.same sT
  have K3 := st.kk.trans (Kept.of_same sT)
  have u3 : Same (msk [b] H) (msk [b] Hd) := msk_same K3
  refine ⟨.ref Fx, rfl, .ref L, rfl, L, rfl, ⟨_, .inl (.inl eL)⟩, fun D nD => ?_⟩
  refine lc_dp (K := K) (walk_list (xs := [.ref e0, .ref p1, .ref p2, .ref p3])) (l := ([.tuple [], .tuple (r.acts.map actD ++ r.acts.map actD), .tuple (r.acts.map actD ++ r2.acts.map actD), .list (r.acts.map actD)] : List PyData)) [b] rfl (by show 4 ≤ 900; decide) (fun w => .tuple [.str r.nm, .str r.side, .str r.tab, .str r.kind, colO r.col, testD r.test, w]) nD (fun H' k => .inl (.inl ((keptS0 k nD) _ _ eL))) (fun i x a H' C N hx hl kk hws next => ?_) (fun us H4 gr kk => ?_) (S3.out nD)
  · have dx : Dp K (msk (D :: [b]) H') x a := dp_same (toD nD kk (Same.refl _)) (oneL dL hx hl)
    have uD := u3.trans (toD nD kk (Same.refl _))
    refine gN0 ⟨rfl, iteT ?_⟩
    refine ⟨.str r.nm, rfl, .str r.side, rfl, .str r.tab, rfl, .str r.kind, rfl, vc, rfl, vt, rfl, x, rfl, (by show 7 ≤ sizeLine; decide), fun t nt => ?_⟩
    exact fin7 nD S3 kk hws next (Same.refl _) (.cons (.str _) (.cons (.str _) (.cons (.str _) (.cons (.str _) (.cons (dp_same uD dC) (.cons (dp_same uD dE) (.cons dx .nil))))))) t nt
  have s34 := keptS0 kk nD
  have eD := gr.at'
  have dD := dpAll_same (msk_less sub_push) gr.dp
  refine st.cat (m := 4) SS (sT.trans s34) eD dD (fun e he => by
    obtain ⟨w, hw, rfl⟩ := List.mem_map.mp he
    have two : ∀ {es fs : List PyData}, (∀ d ∈ es, Sz 1200 3 d) → (∀ d ∈ fs, Sz 1200 3 d) → es.length ≤ 3 → fs.length ≤ 3 → Sz 7300 4 (.tuple (es ++ fs)) := fun a1 a2 b1 b2 =>
      (sz_tup (W := 1200) (D := 3) 6 (fun d hd => (List.mem_append.mp hd).elim (a1 d) (a2 d)) (by rw [List.length_append]; omega) (by decide)).mono (by decide) (Nat.le_refl _)
    have zw : Sz 7300 4 w := by
      simp only [List.mem_cons, List.not_mem_nil, or_false] at hw
      rcases hw with rfl | rfl | rfl | rfl
      · exact (sz_tup (W := 92) (D := 0) 0 (fun _ h => absurd h List.not_mem_nil) (Nat.le_refl 0) (by decide)).mono (by decide) (by decide)
      · exact two zA zA la1 la1
      · exact two zA okm.2.2.2.2.2.2.1 la1 la2
      · exact (sz_lst (W := 1200) (D := 3) 3 zA la1 (by decide)).mono (by decide) (Nat.le_refl _)
    exact sz7 zN zS zT zK zC zE zw) (by first | decide | simp) (by decide) fun Z Hz st2 => gN0 ?_
  clear st
  have st : FSt K b H (T + 2) 21 Hz Z := st2
  clear st2
  clear eD dD gr kk s34 u3 K3 S3 nD dL eL sT
  -- another test
  generalize Hz = Hx at st ⊢
  generalize Z = Fx at st ⊢
  dsimp only [List.set]
  show tSeq (tAsg _ _) (tSeq _ _) _ [some (.ref b), some (.ref tp), some (.ref rp), some (.ref rr), some (.str r.nm), some (.str r.side), some (.str r.tab), some (.str r.kind), some vc, some vt, some (.ref Ac), some (.ref qf), some (.ref rm), some (.ref Fx), some (.ref L), none] Hx
  have u := msk_same st.kk
  have q1 := sameT (u.trans (msk_sub _ _)) h1
  have q2 := sameT (u.trans (msk_sub _ _)) h2
  obtain ⟨yl, hyl⟩ : ∃ y, ys[ys.length - 1]? = some y := ⟨_, List.getElem?_eq_getElem (by omega)⟩
  obtain ⟨yf, hyf⟩ : ∃ y, ys[0]? = some y := ⟨_, List.getElem?_eq_getElem (by omega)⟩
  obtain ⟨cL, pL, wL, hcL, rfl, sL⟩ := colat hyl
  obtain ⟨cF, pF, wF, hcF, rfl, sF⟩ := colat hyf
  have nL := (okt.cs tb htm).1.nm cL (List.mem_of_getElem? hcL)
  have nF := (okt.cs tb htm).1.nm cF (List.mem_of_getElem? hcF)
  refine ⟨.ref qf, rfl, qf, _, 1, .ref pc, rfl, rfl, q1, atI_nat (j := 1) rfl, 1, rfl, pc, ys, -1, .ref pL, rfl, rfl, q2, atI_last hyl, pL, _, 0, .str cL.1, rfl, rfl, sameT (u.trans (msk_sub _ _)) sL, atI_nat (j := 0) rfl, (by show 2 ≤ sizeLine; decide), fun t1 nt1 => ?_⟩
  have v1 := same_upd (o := .tup [.str "old", .str cL.1]) nt1
  refine ⟨.ref qf, rfl, qf, _, 1, .ref pc, rfl, rfl, sameT v1 q1, atI_nat (j := 1) rfl, pc, ys, 0, .ref pF, rfl, rfl, sameT v1 q2, atI_nat (j := 0) hyf, pF, _, 0, .str cF.1, rfl, rfl, sameT ((u.trans (msk_sub _ _)).trans v1) sF, atI_nat (j := 0) rfl, (by show 2 ≤ sizeLine; decide), fun t2 nt2 => ⟨(by show 3 ≤ sizeLine; decide), fun t3 nt3 => gN0 ?_⟩⟩
  have v2 := same_upd (o := .tup [.str "new", .str cF.1]) nt2
  have v3 := same_upd (o := .tup [.ref t1, .str "less", .ref t2]) nt3
  have o1 := st.S.out nt1
  have o2 := (st.S.same v1).out nt2
  have o3 := ((st.S.same v1).same v2).out nt3
  have dT : DpAll K (msk [b] (upd (upd (upd Hx t1 (.tup [.str "old", .str cL.1])) t2 (.tup [.str "new", .str cF.1])) t3 (.tup [.ref t1, .str "less", .ref t2]))) [.ref t1, .str "less", .ref t2] [.tuple [.str "old", .str cL.1], .str "less", .tuple [.str "new", .str cF.1]] :=
    .cons (.tup (.inl (.inl (msk_at (v3 _ _ (v2 _ _ upd_same)) o1))) (.cons (.str _) (.cons (.str _) .nil))) (.cons (.str _) (.cons (.tup (.inl (.inl (msk_at (v3 _ _ upd_same) o2))) (.cons (.str _) (.cons (.str _) .nil))) .nil))
  have eT := upd_same (H := upd (upd Hx t1 (.tup [.str "old", .str cL.1])) t2 (.tup [.str "new", .str cF.1])) (a := t3) (o := .tup [.ref t1, .str "less", .ref t2])
  have sT := v1.trans (v2.trans v3)
  have hT3 : SqT K (msk [b] (upd (upd (upd Hx t1 (.tup [.str "old", .str cL.1])) t2 (.tup [.str "new", .str cF.1])) t3 (.tup [.ref t1, .str "less", .ref t2]))) t3 [.ref t1, .str "less", .ref t2] := .inl (.inl (msk_at eT o3))
  dsimp only [List.set]
  show tSeq (tAsg _ _) (tSeq _ _) _ [some (.ref b), some (.ref tp), some (.ref rp), some (.ref rr), some (.str r.nm), some (.str r.side), some (.str r.tab), some (.str r.kind), some vc, some (.ref t3), some (.ref Ac), some (.ref qf), some (.ref rm), some (.ref Fx), some (.ref L), none] (upd (upd (upd Hx t1 (.tup [.str "old", .str cL.1])) t2 (.tup [.str "new", .str cF.1])) t3 (.tup [.ref t1, .str "less", .ref t2]))
  generalize upd (upd (upd Hx t1 (.tup [.str "old", .str cL.1])) t2 (.tup [.str "new", .str cF.1])) t3 (.tup [.ref t1, .str "less", .ref t2]) = Hd at dT eT sT hT3 ⊢
  clear v1 v2 v3 o1 o2 o3 q1 q2 u
  have Sd := st.S.same sT
  refine ⟨.ref Fx, rfl, .ref t3, rfl, (by show 3 ≤ sizeLine; decide), fun t4 nt4 => ?_⟩
  have v4 := same_upd (o := .tup [.non, .str "like", .non]) nt4
  refine ⟨.ref t3, rfl, 2, rfl, t3, _, rfl, sameT ((msk_sub _ _).trans v4) hT3, (by
    intro z
    have z2 := z.2
    rw [show (2 : Int) = ((2 : Nat) : Int) from rfl, HT.sIx_nat] at z2
    have : min 2 3 = 3 := z2
    exact absurd this (by decide)), fun t5 nt5 => ⟨(by show 3 ≤ sizeLine; decide), fun p1 n1 => ?_⟩⟩
  have ec : cutV [V.ref t1, .str "less", .ref t2] none (some 2) = [V.ref t1, .str "less"] := cut_hi [V.ref t1, .str "less", .ref t2] 2
  rw [ec] at n1 ⊢
  have v5 := same_upd (o := .tup [.ref t1, .str "less"]) nt5
  have v6 := same_upd (o := .tup [.ref t3, .ref t4, .ref t5]) n1
  have dX : DpAll K (msk [b] (upd (upd (upd Hd t4 (.tup [.non, .str "like", .non])) t5 (.tup [.ref t1, .str "less"])) p1 (.tup [.ref t3, .ref t4, .ref t5]))) [.ref t3, .ref t4, .ref t5] [.tuple [.tuple [.str "old", .str cL.1], .str "less", .tuple [.str "new", .str cF.1]], .tuple [.none, .str "like", .none], .tuple [.tuple [.str "old", .str cL.1], .str "less"]] := by
    have w := msk_same (M := [b]) (Kept.of_same (v4.trans (v5.trans v6)))
    refine .cons (dp_same w (.tup hT3 dT)) (.cons (dp_same (msk_same (Kept.of_same (v5.trans v6))) (.tup (.inl (.inl (msk_at upd_same (Sd.out nt4)))) (.cons .non (.cons (.str _) (.cons .non .nil))))) (.cons (dp_same (msk_same (Kept.of_same v6)) (.tup (.inl (.inl (msk_at upd_same ((Sd.same v4).out nt5)))) ?_)) .nil))
    have w5 := msk_same (M := [b]) (Kept.of_same (v4.trans v5))
    cases dT with
    | cons a1 a2 =>
    cases a2 with
    | cons a3 a4 => exact .cons (dp_same w5 a1) (.cons (.str _) .nil)
  have e1 := upd_same (H := upd (upd Hd t4 (.tup [.non, .str "like", .non])) t5 (.tup [.ref t1, .str "less"])) (a := p1) (o := .tup [.ref t3, .ref t4, .ref t5])
  have s1 := sT.trans (v4.trans (v5.trans v6))
  generalize upd (upd (upd Hd t4 (.tup [.non, .str "like", .non])) t5 (.tup [.ref t1, .str "less"])) p1 (.tup [.ref t3, .ref t4, .ref t5]) = H3 at dX e1 s1 ⊢
  clear v4 v5 v6 Sd hT3 eT dT sT ec
  have S3 := st.S.same s1
  have K3 := st.kk.trans (Kept.of_same s1)
  have u3 : Same (msk [b] H) (msk [b] H3) := msk_same K3
  refine ⟨p1, rfl, ⟨_, .inl (.inl e1)⟩, fun D nD => ?_⟩
  refine lc_dp (K := K) (walk_tup (xs := [.ref t3, .ref t4, .ref t5])) (l := ([.tuple [.tuple [.str "old", .str cL.1], .str "less", .tuple [.str "new", .str cF.1]], .tuple [.none, .str "like", .none], .tuple [.tuple [.str "old", .str cL.1], .str "less"]] : List PyData)) [b] rfl (by show 3 ≤ 900; decide) (fun w => .tuple [.str r.nm, .str r.side, .str r.tab, .str r.kind, colO r.col, w, .tuple (r.acts.map actD)]) nD (fun H' k => .inl (.inl ((keptS0 k nD) _ _ e1))) (fun i x a H' C N hx hl kk hws next => ?_) (fun us H4 gr kk => ?_) (S3.out nD)
  · have dx : Dp K (msk (D :: [b]) H') x a := dp_same (toD nD kk (Same.refl _)) (oneL dX hx hl)
    have uD := u3.trans (toD nD kk (Same.refl _))
    refine gN0 ⟨rfl, iteT ?_⟩
    refine ⟨.str r.nm, rfl, .str r.side, rfl, .str r.tab, rfl, .str r.kind, rfl, vc, rfl, x, rfl, .ref Ac, rfl, (by show 7 ≤ sizeLine; decide), fun t nt => ?_⟩
    exact fin7 nD S3 kk hws next (Same.refl _) (.cons (.str _) (.cons (.str _) (.cons (.str _) (.cons (.str _) (.cons (dp_same uD dC) (.cons dx (.cons (dp_same uD dA) .nil))))))) t nt
  have s34 := keptS0 kk nD
  have eD := gr.at'
  have dD := dpAll_same (msk_less sub_push) gr.dp
  refine st.cat (m := 3) SS (s1.trans s34) eD dD (fun e he => by
    obtain ⟨w, hw, rfl⟩ := List.mem_map.mp he
    have zo := sz2 (sz_w (z := "old") (by decide +kernel)) (sz_str nL)
    have zn := sz2 (sz_w (z := "new") (by decide +kernel)) (sz_str nF)
    have zl : Sz 196 1 (.str "less") := (sz_w (by decide +kernel)).mono (by decide) (by decide)
    have z0 : Sz 196 1 .none := sz_none.mono (by decide) (by decide)
    have zw : Sz 700 2 w := by
      simp only [List.mem_cons, List.not_mem_nil, or_false] at hw
      rcases hw with rfl | rfl | rfl
      · exact sz3 zo zl zn
      · exact sz3 z0 ((sz_w (by decide +kernel)).mono (by decide) (by decide)) z0
      · exact (sz_tup (W := 196) (D := 1) 2 (fun d hd => by
          simp only [List.mem_cons, List.not_mem_nil, or_false] at hd
          rcases hd with rfl | rfl
          · exact zo
          · exact zl) (by show 2 ≤ 2; decide) (by decide)).mono (by decide) (Nat.le_refl _)
    exact sz7 zN zS zT zK zC zw zAct) (by first | decide | simp) (by decide) fun Z Hz st2 => gN0 ?_
  clear st
  have st : FSt K b H (T + 2) 24 Hz Z := st2
  clear st2
  clear eD dD gr kk s34 u3 K3 S3 e1 s1 n1 nD dX
  -- two tests out of the bounds
  generalize Hz = Hx at st ⊢
  generalize Z = Fx at st ⊢
  dsimp only [List.set]
  show tSeq _ (tSeq _ _) _ [some (.ref b), some (.ref tp), some (.ref rp), some (.ref rr), some (.str r.nm), some (.str r.side), some (.str r.tab), some (.str r.kind), some vc, some (.ref t3), some (.ref Ac), some (.ref qf), some (.ref rm), some (.ref Fx), some (.ref L), none] Hx
  have e9 : (10 : Int) ^ (9 : Int).toNat = 1000000000 := by decide
  have oF := st.nb SS
  obtain ⟨us0, ds0, gr0, _, _⟩ := st.ex
  have uF : Same (msk [b] H) (msk (Fx :: [b]) Hx) := (msk_new st.fr).trans (msk_same (st.kk.mono fun p h => List.mem_cons_of_mem _ h))
  refine ⟨.ref Fx, rfl, .inl ⟨rfl, _, .inl (.inl gr0.at')⟩, .str r.nm, rfl, .str r.side, rfl, .str r.tab, rfl, .str r.kind, rfl, vc, rfl, 10, 9, rfl, rfl, ⟨by decide, by decide, by decide⟩, _, _, rfl, rfl, (by show 1 ≤ sizeLine; decide), fun a1 na1 => ⟨(by show 3 ≤ sizeLine; decide), fun a2 na2 => ?_⟩⟩
  refine ⟨.ref Ac, rfl, (by show 7 ≤ sizeLine; decide), fun a3 na3 => ?_⟩
  have v1 := same_upd (o := .tup [.str "many"]) na1
  have v2 := same_upd (o := .tup [.int (10 ^ (9 : Int).toNat + 1), .str "like", .ref a1]) na2
  have v3 := same_upd (o := .tup [.str r.nm, .str r.side, .str r.tab, .str r.kind, vc, .ref a2, .ref Ac]) na3
  have nF : ∀ {Ha : Hp} {p : Addr}, Same Hx Ha → Ha p = none → p ∉ Fx :: [b] := fun s n z => by
    rcases List.mem_cons.mp z with z | z
    · have := s _ _ gr0.at'
      rw [← z, n] at this; cases this
    · exact (st.S.same s).out n z
  have dA3 : Dp K (msk (Fx :: [b]) (upd (upd (upd Hx a1 (.tup [.str "many"])) a2 (.tup [.int (10 ^ (9 : Int).toNat + 1), .str "like", .ref a1])) a3 (.tup [.str r.nm, .str r.side, .str r.tab, .str r.kind, vc, .ref a2, .ref Ac]))) (.ref a3) (.tuple [.str r.nm, .str r.side, .str r.tab, .str r.kind, colO r.col, .tuple [.int (10 ^ (9 : Int).toNat + 1), .str "like", .tuple [.str "many"]], .tuple (r.acts.map actD)]) := by
    have m12 := msk_same (M := Fx :: [b]) (Kept.of_same (v1.trans v2))
    refine dp_newt ?_ na3 (nF (v1.trans v2) na3)
    exact .cons (.str _) (.cons (.str _) (.cons (.str _) (.cons (.str _) (.cons (dp_same (uF.trans m12) dC) (.cons (dp_newt (.cons (.int _) (.cons (.str _) (.cons (.tup (.inl (.inl (msk_at upd_same (nF (Same.refl _) na1)))) (.cons (.str _) .nil)) .nil))) na2 (nF v1 na2)) (.cons (dp_same (uF.trans m12) dA) .nil))))))
  obtain ⟨usF, eF, lF, st2⟩ := st.app SS (v1.trans (v2.trans v3)) dA3 (sz7 zN zS zT zK zC (sz3 ((sz_int (by rw [e9]; decide)).mono (by decide) (by decide)) ((sz_w (by decide +kernel)).mono (by decide) (by decide)) ((sz_tup (W := 92) (D := 0) 1 (fun d hd => by rw [List.mem_singleton.mp hd]; exact sz_w (by decide +kernel)) (by show 1 ≤ 1; decide) (by decide)).mono (by decide) (Nat.le_refl _))) zAct) (by decide)
  refine ⟨Fx, usF, .ref a3, rfl, rfl, eF, lF, ?_⟩
  clear nF v1 v2 v3 dA3 uF oF gr0
  have st := st2
  clear st2 eF lF

  dsimp only [List.set]
  show tSeq _ (tRet _) _ [some (.ref b), some (.ref tp), some (.ref rp), some (.ref rr), some (.str r.nm), some (.str r.side), some (.str r.tab), some (.str r.kind), some vc, some (.ref t3), some (.ref Ac), some (.ref qf), some (.ref rm), some (.ref Fx), some (.ref L), none] (upd (upd (upd (upd Hx a1 (.tup [.str "many"])) a2 (.tup [.int (10 ^ (9 : Int).toNat + 1), .str "like", .ref a1])) a3 (.tup [.str r.nm, .str r.side, .str r.tab, .str r.kind, vc, .ref a2, .ref Ac])) Fx (.lst (usF ++ [.ref a3])))
  generalize upd (upd (upd (upd Hx a1 (.tup [.str "many"])) a2 (.tup [.int (10 ^ (9 : Int).toNat + 1), .str "like", .ref a1])) a3 (.tup [.str r.nm, .str r.side, .str r.tab, .str r.kind, vc, .ref a2, .ref Ac])) Fx (.lst (usF ++ [.ref a3])) = Hz at st ⊢
  generalize Hz = Hx at st ⊢
  obtain ⟨us0, ds0, gr0, _, _⟩ := st.ex
  have uF : Same (msk [b] H) (msk (Fx :: [b]) Hx) := (msk_new st.fr).trans (msk_same (st.kk.mono fun p h => List.mem_cons_of_mem _ h))
  refine ⟨.ref Fx, rfl, .inl ⟨rfl, _, .inl (.inl gr0.at')⟩, .str r.nm, rfl, .str r.side, rfl, .str r.tab, rfl, .str r.kind, rfl, vc, rfl, 10, 9, rfl, rfl, ⟨by decide, by decide, by decide⟩, 10, 9, rfl, rfl, ⟨by decide, by decide, by decide⟩, _, rfl, (by show 3 ≤ sizeLine; decide), fun a2 na2 => ?_⟩
  refine ⟨.ref Ac, rfl, (by show 7 ≤ sizeLine; decide), fun a3 na3 => ?_⟩
  have v2 := same_upd (o := .tup [.int (10 ^ (9 : Int).toNat), .str "like", .int (-(10 ^ (9 : Int).toNat))]) na2
  have v3 := same_upd (o := .tup [.str r.nm, .str r.side, .str r.tab, .str r.kind, vc, .ref a2, .ref Ac]) na3
  have nF : ∀ {Ha : Hp} {p : Addr}, Same Hx Ha → Ha p = none → p ∉ Fx :: [b] := fun s n z => by
    rcases List.mem_cons.mp z with z | z
    · have := s _ _ gr0.at'
      rw [← z, n] at this; cases this
    · exact (st.S.same s).out n z
  have dA3 : Dp K (msk (Fx :: [b]) (upd (upd Hx a2 (.tup [.int (10 ^ (9 : Int).toNat), .str "like", .int (-(10 ^ (9 : Int).toNat))])) a3 (.tup [.str r.nm, .str r.side, .str r.tab, .str r.kind, vc, .ref a2, .ref Ac]))) (.ref a3) (.tuple [.str r.nm, .str r.side, .str r.tab, .str r.kind, colO r.col, .tuple [.int (10 ^ (9 : Int).toNat), .str "like", .int (-(10 ^ (9 : Int).toNat))], .tuple (r.acts.map actD)]) := by
    have m12 := msk_same (M := Fx :: [b]) (Kept.of_same v2)
    refine dp_newt ?_ na3 (nF v2 na3)
    exact .cons (.str _) (.cons (.str _) (.cons (.str _) (.cons (.str _) (.cons (dp_same (uF.trans m12) dC) (.cons (dp_newt (.cons (.int _) (.cons (.str _) (.cons (.int _) .nil))) na2 (nF (Same.refl _) na2)) (.cons (dp_same (uF.trans m12) dA) .nil))))))
  obtain ⟨usF, eF, lF, st2⟩ := st.app SS (v2.trans v3) dA3 (sz7 zN zS zT zK zC (sz3 ((sz_int (by rw [e9]; decide)).mono (by decide) (by decide)) ((sz_w (by decide +kernel)).mono (by decide) (by decide)) ((sz_int (by rw [e9]; decide)).mono (by decide) (by decide))) zAct) (by decide)
  refine ⟨Fx, usF, .ref a3, rfl, rfl, eF, lF, ?_⟩
  clear nF v2 v3 dA3 uF gr0
  have st := st2
  clear st2 eF lF

  dsimp only [List.set]
  show tRet _ _ [some (.ref b), some (.ref tp), some (.ref rp), some (.ref rr), some (.str r.nm), some (.str r.side), some (.str r.tab), some (.str r.kind), some vc, some (.ref t3), some (.ref Ac), some (.ref qf), some (.ref rm), some (.ref Fx), some (.ref L), none] (upd (upd (upd Hx a2 (.tup [.int (10 ^ (9 : Int).toNat), .str "like", .int (-(10 ^ (9 : Int).toNat))])) a3 (.tup [.str r.nm, .str r.side, .str r.tab, .str r.kind, vc, .ref a2, .ref Ac])) Fx (.lst (usF ++ [.ref a3])))
  generalize upd (upd (upd Hx a2 (.tup [.int (10 ^ (9 : Int).toNat), .str "like", .int (-(10 ^ (9 : Int).toNat))])) a3 (.tup [.str r.nm, .str r.side, .str r.tab, .str r.kind, vc, .ref a2, .ref Ac])) Fx (.lst (usF ++ [.ref a3])) = Hz at st ⊢
  skip
  generalize Hz = Hx at st ⊢
  refine ⟨.ref Fx, rfl, (by show 3 ≤ sizeLine; decide), fun p1 n1 => ?_⟩
  have s1 := same_upd (o := .tup [.str "more", .str "unlike", .non]) n1
  have e1 : (upd Hx p1 (.tup [.str "more", .str "unlike", .non])) p1 = some (.tup [.str "more", .str "unlike", .non]) := upd_same
  generalize upd Hx p1 (.tup [.str "more", .str "unlike", .non]) = H3 at s1 e1 ⊢
  have S3 := st.S.same s1
  have K3 := st.kk.trans (Kept.of_same s1)
  have u3 : Same (msk [b] H) (msk [b] H3) := msk_same K3
  refine ⟨p1, rfl, ⟨_, .inl (.inl e1)⟩, fun D nD => ?_⟩
  refine lc_dp (K := K) (walk_tup (xs := [.str "more", .str "unlike", .non])) (l := [PyData.str "more", .str "unlike", .none]) [b] rfl (by show 3 ≤ 900; decide) (fun w => .tuple [.str r.nm, .str r.side, .str r.tab, .str r.kind, colO r.col, .tuple [.int 0, w, .int 0], .tuple (r.acts.map actD)]) nD (fun H' k => .inl (.inl ((keptS0 k nD) _ _ e1))) (fun i x a H' C N hx hl kk hws next => ?_) (fun us H4 gr kk => ?_) (S3.out nD)
  · have dx : Dp K (msk (D :: [b]) H') x a := oneL (.cons (.str _) (.cons (.str _) (.cons .non .nil))) hx hl
    refine gN0 ⟨rfl, iteT ?_⟩
    refine ⟨.str r.nm, rfl, .str r.side, rfl, .str r.tab, rfl, .str r.kind, rfl, vc, rfl, x, rfl, (by show 3 ≤ sizeLine; decide), fun t0 nt0 => ?_⟩
    have v0 := same_upd (o := .tup [.int 0, x, .int 0]) nt0
    refine ⟨.ref Ac, rfl, (by show 7 ≤ sizeLine; decide), fun t nt => ?_⟩
    have uD := u3.trans (toD nD kk v0)
    have o0 : t0 ∉ D :: [b] := fun z => by
      obtain ⟨ws, hws⟩ := hws
      rcases List.mem_cons.mp z with z | z
      · rw [z, hws] at nt0; cases nt0
      · exact (S3.kept kk (fun z => S3.ne nD (List.mem_singleton.mp z))).out nt0 z
    exact fin7 nD S3 kk hws next v0 (.cons (.str _) (.cons (.str _) (.cons (.str _) (.cons (.str _) (.cons (dp_same uD dC) (.cons (dp_newt (.cons (.int _) (.cons dx (.cons (.int _) .nil))) nt0 o0) (.cons (dp_same uD dA) .nil))))))) t nt
  have s34 := keptS0 kk nD
  have eD := gr.at'
  have dD := dpAll_same (msk_less sub_push) gr.dp
  refine st.cat (m := 3) SS (s1.trans s34) eD dD (fun e he => by
    obtain ⟨w, hw, rfl⟩ := List.mem_map.mp he
    have z0 : Sz 196 1 (.int 0) := (sz_int (by decide)).mono (by decide) (by decide)
    have zw : Sz 196 1 w := by
      simp only [List.mem_cons, List.not_mem_nil, or_false] at hw
      rcases hw with rfl | rfl | rfl <;> first | exact (sz_w (by decide +kernel)).mono (by decide) (by decide) | exact sz_none.mono (by decide) (by decide)
    exact sz7 zN zS zT zK zC (sz3 z0 zw z0) zAct) (by first | decide | simp) (by decide) fun Z Hz st2 => ?_
  obtain ⟨us2, ds2, gr2, hz2, hl2⟩ := st2.ex
  exact q Z ds2 Hz (gr2.done (st2.nb SS)) hz2 (Nat.le_trans hl2 (by decide)) st2.S st2.kk
end
end TT

set_option Elab.async false
set_option linter.all false
set_option maxRecDepth 100000
namespace TT
open PySem PySem.Spec PyProof.Rows L2
/-! ### enumerate(tuple) -/
set_option maxHeartbeats 1000000 in
theorem meets_enum1 {v : Value} {o : Obj} {H : Heap → Prop} (B : Begins v o H) :
    Meets (Builtin.«enumerate.__new__» ⟨[.type "enumerate", v], []⟩) (fun _ R s => H s.heap ∧
      R (.ok (.ret (.ref (s.heap.push o).objs.size))) { s with heap := (s.heap.push o).push { cls := .type "enumerate", data := .fields #[.none, .bool false, .ref s.heap.objs.size, rawInt 0, .none, .none] } }) := by
  refine .of_wp fun prog w A R s ⟨h1, h⟩ => ?_
  obtain ⟨hp, g, d, tk, os⟩ := s
  have sb := sub_enumerate
  have st : ∀ {A' : Around} {E : Value → Shared → Prop} {Q : Value → Shared → Prop}, Q (.ref hp.objs.size) ⟨hp.push o, g, d, tk, os⟩ → wpAny (model prog w) A' (pyIter v) Q E ⟨hp, g, d, tk, os⟩ := fun q => B.iter prog w _ _ _ _ h1 q
  wp_walk using st
  refine wpAny_stack_any fun z => wpAny_pure (?_)
  split
  · rename_i c _ _ _ _ _
    cases (c == Value.type "enumerate") <;> (wp_walk using st; exact ⟨_, rfl, h⟩)
  · wp_walk using st
    exact ⟨_, rfl, h⟩
section
variable {prog : Program} {w : World} {A : Around} {E : Value → Shared → Prop} {s : Shared}
theorem call_enum1 {v : Value} {o : Obj} {H : Heap → Prop} {Q : Value → Shared → Prop} (B : Begins v o H) (h1 : H s.heap)
    (h : ∀ h', IsEnum h' (s.heap.objs.size + 1) s.heap.objs.size 0 .none → h'.get? s.heap.objs.size = some o → (∀ b o, s.heap.get? b = some o → h'.get? b = some o) → Q (.ref (s.heap.objs.size + 1)) { s with heap := h' }) :
    wpAny (model prog w) A (call (.type "enumerate") [v]) Q E s := by
  refine callType_new F.called_enumerate (by decide) (F.typeCall_enumerate_1 _) (F.newCall_enumerate_1 _) (fun ob => F.args_object_init_2 ob _) F.entry_enumerate_new (meets_enum1 B) ⟨h1, ?_⟩
  have hz : (s.heap.push o).objs.size = s.heap.objs.size + 1 := Heap.size_push ..
  show _ ∧ _
  rw [hz]
  have he : IsEnum ((s.heap.push o).push { cls := .type "enumerate", data := .fields #[.none, .bool false, .ref s.heap.objs.size, rawInt 0, .none, .none] }) (s.heap.objs.size + 1) s.heap.objs.size 0 .none := by
    have q := Heap.get?_push_size (s.heap.push o) (o := { cls := .type "enumerate", data := .fields #[.none, .bool false, .ref s.heap.objs.size, rawInt 0, .none, .none] }) rfl
    rw [hz] at q
    exact q
  exact ⟨⟨_, he, rfl⟩, h _ he (Heap.get?_push_of_some _ (Heap.get?_push_size _ B.free)) fun b o x => Heap.get?_push_of_some _ (Heap.get?_push_of_some _ x)⟩
end
def IteT (K : PySem.W.Frag) (a : Addr) : It :=
  ⟨fun i H => ∃ (xs : List V) (x : V), SqT K H a xs ∧ xs[i]? = some x, fun i H v H' => ∃ T x, v = .ref T ∧ H T = none ∧ H' = upd H T (.tup [.int (i : Nat), x]) ∧ ∀ xs, SqT K H a xs → xs[i]? = some x, fun i H => ∃ xs : List V, SqT K H a xs ∧ xs.length = i⟩
theorem turn_enumT {P : Program} {w : World} {K : PySem.W.Frag} {elts : List Expr} {kk : Nat} {tpos : Pos} (a e it : Addr) :
    Turn P w K (.Tuple elts kk tpos) (IteT K a) [e, it] e (fun i h => (∃ old, IsEnum h e it ((i : Nat) : Int) old) ∧ h.IsTupleIter it a i ∧ e ≠ it) where
  mem := by simp
  obj := fun i h st b hb => by
    obtain ⟨⟨old, he⟩, ⟨o, ho, hc, hd⟩, _⟩ := st
    have q : b = e ∨ b = it := by simpa using hb
    rcases q with rfl | rfl
    · exact ⟨_, he, fun v q => nomatch q⟩
    · exact ⟨o, ho, fun v q => by rw [hd] at q; cases q⟩
  keep := fun i h h' st k => let ⟨⟨old, he⟩, hi, hne⟩ := st; ⟨⟨old, k e (by simp) _ he⟩, hi.at fun o q => k it (by simp) o q, hne⟩
  item := by
    intro X hP hw hK hc i pins s σ H E I hf st hg
    subst hP hw hK
    obtain ⟨⟨old, he⟩, hit, hne⟩ := st
    obtain ⟨xs, x, hq, hx⟩ := hg
    obtain ⟨its, rv, p, hz⟩ := I.tuple hq
    obtain ⟨u, hu, ru⟩ := rv.get hx
    have p' : s.heap.IsTuple a its.toArray := p
    obtain ⟨oa, ea, ca, na, da⟩ := id p
    obtain ⟨oi, ei, ci, di⟩ := id hit
    have nai : a ≠ it := fun z => by
      rw [z, ei] at ea
      cases ea
      exact absurd (Value.type.inj (ci.symm.trans ca)) (by decide)
    have nea : e ≠ a := fun z => by
      have q := he
      unfold IsEnum at q
      rw [z, ea] at q
      have q2 := Option.some.inj q
      rw [q2] at ca
      exact absurd (Value.type.inj ca) (by decide)
    have hel : e < s.heap.objs.size := Heap.lt_size he
    have hil : it < s.heap.objs.size := Heap.lt_size ei
    have li : i < its.toArray.size := by
      have := (List.getElem?_eq_some_iff.mp hu).1
      simpa using this
    refine wpAny_pyNext_enum_itemD (Draws.tuple (A := X.A.in1) (I.ok.hd hc) it a nai its.toArray) he ⟨hit, p'⟩ li hne (by simp [hne, nea]) fun x1 h' tk hP ho hst hT hsz hk => ?_
    have hxu : x1 = u := by
      have q : its.toArray[i]? = some u := by simpa using hu
      rw [q] at hP
      exact (Option.some.inj hP).symm
    subst hxu
    refine ⟨_, rfl, wpAny_letOwnedTupleGo_enum (s := { s with heap := h', toks := tk + 1 }) ho fun h'' he' sb => ?_⟩
    have hT2 : h''.get? s.heap.objs.size = some { cls := .type "tuple", data := .seq #[.int i tk, x1] } := (sb.2 _ (Nat.ne_of_gt hel)).trans hT
    have I1 : L2.Inv X pins σ (upd H s.heap.objs.size (.tup [.int (i : Nat), x])) { s with heap := h'', toks := tk + 1 } :=
      I.turnedNew (ch := [e, it]) (fun b ob hb q => (sb.2 b (fun z => hb (by simp [z]))).trans (hk b ob (fun z => hb (by simp [z])) (fun z => hb (by simp [z])) q)) hf (Nat.le_refl _)
        ⟨by show 2 ≤ sizeLine; decide, [.int i tk, x1], .cons ⟨_, rfl⟩ (.cons ru .nil), ⟨_, hT2, rfl, _, rfl⟩⟩
    refine ⟨.ref s.heap.objs.size, _, I1, rfl, ⟨_, x, rfl, I.hok.fresh (Nat.le_refl _), rfl, fun ys hy => by rw [I.tuple_inj hy hq]; exact hx⟩, ⟨⟨x1, ?_⟩, hst.1.at fun o q => (sb.2 it (Ne.symm hne)).trans q, hne⟩, fun b hb => ?_⟩
    · rw [show ((i + 1 : Nat) : Int) = (i : Int) + 1 by omega]; exact he'
    · have q : b = e ∨ b = it := by simpa using hb
      have hb' : b < s.heap.objs.size := by
        rcases q with z | z
        · rw [z]; exact hel
        · rw [z]; exact hil
      rw [upd_ne (Nat.ne_of_lt hb')]
      exact (hf b hb).1
  done := by
    intro X hP hw hK hc i pins s σ H E I hf st hg
    subst hP hw hK
    obtain ⟨⟨old, he⟩, hit, hne⟩ := st
    obtain ⟨xs, hq, hx⟩ := hg
    obtain ⟨its, rv, p, hz⟩ := I.tuple hq
    obtain ⟨oa, ea, ca, na, da⟩ := id p
    obtain ⟨oi, ei, ci, di⟩ := id hit
    have nai : a ≠ it := fun z => by
      rw [z, ei] at ea
      cases ea
      exact absurd (Value.type.inj (ci.symm.trans ca)) (by decide)
    obtain ⟨f0, f1, f2, f3, f4, f5⟩ := hf it (by simp)
    have hl := rv.length
    have e1 : its.toArray.size = i := by simp; omega
    exact wpAny_pyNext_enum_endD (Draws.tuple (A := X.A.in1) (I.ok.hd hc) it a nai its.toArray) he (by rw [e1]; exact ⟨hit, p⟩) fun h' eb => ⟨rfl, I.turned (t' := s.toks) (fun b o hb q => eb b o hb q) f0 f1 f3 f4 f5⟩
  self := fun A i s Q E st h => let ⟨⟨_, he⟩, _⟩ := st; wpAny_pyIter_enum he h
def iEnumT (K : PySem.W.Frag) (ta : TA) : TI := fun σ H R => ta σ H fun vs H1 => ∃ a xs, vs = [.ref a] ∧ SqT K H1 a xs ∧ R (IteT K a) H1
theorem pi_enumT {X : Cx} {e : Expr} {ta : TA} {p pos tpos : Pos} {elts : List Expr} {kk : Nat} (hg : Gl X "enumerate") (hm : X.mg "enumerate" = none) (ha : PA X [e] ta) (hs : starEach [e] X.env = [(false, eval e X.env)] := by rfl) :
    PI X (.Tuple elts kk tpos) (.Call (.Name "enumerate" p) [e] [] pos) (iEnumT X.K ta) := by
  refine ⟨fun pins s σ H R I h => Call_ (ld_blt I hg hm boot_enumerate (PyProof.Rows.callWith_type1 (thn (ha.run pos pins s σ H _ I h) fun us s1 ⟨vs, H1, I1, r1, a, xs, ex, hq, q⟩ => ?_) hs rfl))⟩
  subst ex
  cases r1 with
  | cons r rr =>
    cases rr
    cases r
    obtain ⟨its, rv, p', hz⟩ := I1.tuple hq
    refine call_enum1 (begins_tuple a its.toArray) (show s1.heap.IsTuple a its.toArray from p') fun h' he hit hk => wpAny_pyIter_enum he ?_
    have I2 : L2.Inv X pins σ H1 { s1 with heap := h' } := I1.kept (t' := s1.toks) hk
    refine ⟨s1.heap.objs.size + 1, [s1.heap.objs.size + 1, s1.heap.objs.size], _, _, H1, rfl, I2, turn_enumT a (s1.heap.objs.size + 1) s1.heap.objs.size, ⟨⟨.none, he⟩, ⟨_, hit, rfl, rfl⟩, Nat.succ_ne_self _⟩, fun b hb => ?_, q⟩
    have q2 : b = s1.heap.objs.size + 1 ∨ b = s1.heap.objs.size := by simpa using hb
    have hle : s1.heap.objs.size ≤ b := by
      rcases q2 with z | z
      · rw [z]; exact Nat.le_add_right _ _
      · rw [z]; exact Nat.le_refl _
    exact I1.fpOk hle (I1.hok.fresh hle)
theorem walk_enumT {K : PySem.W.Frag} {a : Addr} {xs : List V} : Walk (IteT K a) xs.length (fun H => SqT K H a xs) (YPair (fun i => some (.int (i : Nat))) (fun i => xs[i]?)) := by
  refine ⟨fun i _ hi q => ⟨xs, xs[i], q, by simp [hi]⟩, fun _ q => ⟨xs, q, rfl⟩, fun i H v H' _ q y => ?_⟩
  obtain ⟨T, x, h1, h2, h3, h4⟩ := y
  exact ⟨T, .int (i : Nat), x, h1, h2, h3, rfl, h4 xs q⟩
end TT

set_option Elab.async false
set_option linter.all false
set_option maxRecDepth 100000
namespace TT
open PySem PySem.Spec PyProof.Rows L2
def named (r : Rul) (z : Str) : Rul := { r with nm := z }
theorem named_ok {ts : List Tab} {r : Rul} {z : Str} (h : RuleOk ts r) (hz : NameOk z) : RuleOk ts (named r z) := ⟨hz, h.side, h.kind, h.ex, h.ahead, h.other⟩
theorem rules_dup {ts : List Tab} {rs : List Rul} {r : Rul} (h : r ∈ rs) : rulesB ts (.tuple (rs.map ruleD ++ [ruleD r])) = false := by
  show (tupB 0 8 (.tuple (rs.map ruleD ++ [ruleD r])) && ((rs.map ruleD ++ [ruleD r]).all (ruleB ts) && decide (((rs.map ruleD ++ [ruleD r]).map ruleNm).Nodup))) = false
  have : ¬ ((rs.map ruleD ++ [ruleD r]).map ruleNm).Nodup := fun n => by
    rw [List.map_append, List.map_map] at n
    have h1 := (List.nodup_append.mp n).2.2 r.nm (List.mem_map.mpr ⟨r, h, rfl⟩) r.nm (List.mem_singleton.mpr rfl)
    exact h1 rfl
  rw [decide_eq_false this, Bool.and_false, Bool.and_false]
theorem rules_long {ts : List Tab} {ds : List PyData} (h : 8 < ds.length) : rulesB ts (.tuple ds) = false := by
  show ((decide ((0 : Int) ≤ (ds.length : Int)) && decide ((ds.length : Int) ≤ 8)) && _) = false
  rw [decide_eq_false (show ¬ (ds.length : Int) ≤ 8 by omega), Bool.and_false, Bool.false_and]
theorem eqv_tup0 {a : PyData} {l : List PyData} : PyData.eqv (.tuple (a :: l)) (.tuple []) = false := rfl
theorem nc_seq {ts : List Tab} {ds : List PyData} {W D : Nat} (h : ∀ d ∈ ds, Sz W D d) (hW : W ≤ 9000) (hD : D ≤ 5) (l : ds.length ≤ 9) : Nc 0 (.tuple ds) ∧ wt (.tuple ds) ≤ 90000 ∧ (PyData.tuple ds).depth ≤ 6 := by
  have z := sz_tup (W := 9000) (D := 5) 9 (fun d hd => (h d hd).mono hW hD) l (by decide)
  exact ⟨z.nc, Nat.le_trans z.wt (by decide), z.dep⟩
section
variable {P : Program} {w : World} {K : PySem.W.Frag} {mg : Str → Option Value} {base : Heap}
def spRight (K : PySem.W.Frag) : Sp := fun vs H Q _ => ∃ b : Addr, vs = [.ref b] ∧ BoxAt H b 0 ∧ ∀ H', Kept [b] H H' → Q (.bl true) H'
abbrev s_law_right : Stmt := topS 52
abbrev N_law_right : List Str := ["box", "tables", "rules", "place", "rule", "other", "many", "name"]
theorem sc_law_right : FnScope N_law_right ["box"] (defScope s_law_right) := ⟨rfl, rfl, rfl, by decide +kernel, rfl, by decide +kernel, by decide +kernel⟩

set_option maxHeartbeats 16000000 in
theorem ok_right {f : Addr} {fd : FuncData} (F : Fun K "_law_right" "_law_right" s_law_right f fd) (nb : NB mg) (D_law_tables : Def P w K mg base 3 "_law_tables" ["box", "most"] (spTablesB K)) (D_law_names : Def P w K mg base 2 "_law_names" ["box", "many"] spNamesB)
    (D_law_rules : Def P w K mg base 5 "_law_rules" ["box", "tables", "most"] (spRules K)) (D_is_rules : Def P w K mg base 9 "is_rules" ["tables", "thing"] (spTs rulesB K)) (D_law_others : Def P w K mg base 3 "_law_others" ["box", "tables", "rules", "rule"] (spOthers K))
    (D_law_told_right : DefG P w K mg base 10 "_law_told_right" ["tables", "thing"] (spToldR K)) : FnG P w K mg base CX0 11 f fd ["box"] (spRight K) := by
  refine okG F sc_law_right (fun vs H Q E h => ?_) (fun cdv A outer sh H vs Q E hr hg h => ?_)
  · obtain ⟨b, rfl, _⟩ := h
    rfl
  obtain ⟨b, rfl, S, q⟩ := h
  have nd := sc_law_right.nd
  have hu := hu_of hr
  have small : ∀ n : Nat, n ≤ 1000 → n ≤ sizeLine := fun n h => Nat.le_of_lt (small1000 h)
  refine ⟨_, (pss_cons (ps_set (i := 1) nd rfl (Or.inl rfl) (pe_own D_law_tables hr (pa_cons (pv 0) (pa_cons pe_int pa_nil))))
      (pss_cons (ps_set (i := 2) nd rfl (Or.inr rfl) (pe_own D_law_rules hr (pa_cons (pv 0) (pa_cons (pv 1) (pa_cons pe_int pa_nil)))))
      (pss_cons (ps_if (PW.pt (pw_or (pt_cmpR op_isnot_bl (pe_own D_is_rules hr (pa_cons (pv 1) (pa_cons (pv 2) pa_nil))) pe_bl (nomark _)) (pw_or (pt_not (pt_val (pe_ownG D_law_told_right hg hr (pa_cons (pv 1) (pa_cons (pv 2) pa_nil))))) (pw_or1 (pt_cmpR op_isnot_bl (pe_own D_is_rules hr (pa_cons (pv 1) (pa_cons (pe_tup pa_nil) pa_nil))) pe_bl (nomark _))))))
        (pss_one (ps_ret pe_bl))
        pss_nil)
      (pss_cons (ps_for PassesOwn.never rfl (pi_enumT (by rfl) nb.b_enumerate (pa_cons (pv 2) pa_nil)) (pg_tup rfl (pgs_cons (pg_name (i := 3) nd rfl (Or.inl rfl)) (pgs_cons (pg_name (i := 4) nd rfl (Or.inl rfl)) pgs_nil)))
        (pss_cons (ps_for PassesOwn.never rfl (pi_list (pe_own D_law_others hr (pa_cons (pv 0) (pa_cons (pv 1) (pa_cons (pv 2) (pa_cons (pv 4) pa_nil)))))) (pg_name (i := 5) nd rfl (Or.inl rfl))
          (pss_one (ps_if (pt_not (pt_val (pe_ownG D_law_told_right hg hr (pa_cons (pv 1) (pa_cons (pe_op (r := rCatA K) op_catA (pe_op (r := rCatA K) op_catA (pe_slice sl_tup (pv 2) po_none (po_some (pv 3))) (pe_tup (pa_cons (pv 5) pa_nil))) (pe_slice sl_tup (pv 2) (po_some (pe_op op_add (pv 3) pe_int)) po_none)) pa_nil)))))
            (pss_one (ps_ret pe_bl))
            pss_nil)))
        (pss_one (ps_if (pt_cmpR op_isnot_bl (pe_own D_is_rules hr (pa_cons (pv 1) (pa_cons (pe_op (r := rCatA K) op_catA (pv 2) (pe_tup (pa_cons (pv 4) pa_nil))) pa_nil))) pe_bl (nomark _))
          (pss_one (ps_ret pe_bl))
          pss_nil))))
      (pss_cons (ps_if (pt_cmpR (op_neD hr.units) (pv 2) (pe_tup pa_nil) (nomark _))
        (pss_cons (ps_set (i := 6) nd rfl (Or.inl rfl) (pe_callTy call_tuple_of (by rfl) nb.b_tuple (by decide +kernel) (pa_cons (pe_lc (own := [("name", 7)]) (g := (gName 7)) (tt := tYes) rfl nd (pi_list (pe_own D_law_names hr (pa_cons (pv 0) (pa_cons pe_int pa_nil)))) (blkOk_by (N := N_law_right) (sc := defScope s_law_right) (by decide +kernel)) (fun _ _ _ _ _ => (pg_name (i := 7) nd rfl (Or.inl rfl))) (fun _ _ _ _ _ => pts_nil) (fun _ _ _ _ _ => (pe_op (r := rCatT K) op_catT (pe_tup (pa_cons (pv 7) pa_nil)) (pe_slice (r := rSlT K) sl_tup (pe_ix (r := rIxT K) ix_tup (pv 2) (pe_un un_neg pe_int) (fun _ _ => rfl)) (po_some pe_int) po_none)))) pa_nil)))
        (pss_one (ps_ret (pe_and (pe_cmpR op_is_bl (pe_own D_is_rules hr (pa_cons (pv 1) (pa_cons (pe_slice sl_tup (pv 6) po_none (po_some pe_int)) pa_nil))) pe_bl (nomark _)) (pe_one (pe_cmpR op_is_bl (pe_own D_is_rules hr (pa_cons (pv 1) (pa_cons (pv 6) pa_nil))) pe_bl (nomark _)))))))
        pss_nil)
      (pss_one (ps_ret (pe_cmpR op_is_bl (pe_own D_is_rules hr (pa_cons (pv 1) (pa_cons (pe_callTy call_list_of (by rfl) nb.b_list (by decide +kernel) (pa_cons (pv 2) pa_nil)) pa_nil))) pe_bl (nomark _))))))))), ?_⟩
  refine ⟨.ref b, rfl, b, 0, 6, rfl, S, by omega, by decide, by decide, fun tp ts H1 l0 l6 okt clt ftp dpt S1 K1 => gN0 ?_⟩
  dsimp only [List.set]
  obtain ⟨tx, htx, hTA⟩ : ∃ xs, SqT K (msk [b] H1) tp xs ∧ DpAll K (msk [b] H1) xs (ts.map tabD) := by cases dpt with | tup a1 a2 => exact ⟨_, a1, a2⟩
  have ltx : tx.length = ts.length := by rw [dpAll_len hTA, List.length_map]
  have TB : TabsB K b H1 tp tx ts := ⟨htx, hTA, l0, by omega, fun x hx => ⟨(okt.cs x hx).2, (okt.cs x hx).1.top⟩⟩
  refine ⟨.ref b, rfl, .ref tp, rfl, b, tp, _, 8, tx, ts, rfl, S1, by omega, by decide, TB, fun rp rs H2 lrs ndr okr frp dpr S2 K2 => gN0 ?_⟩
  dsimp only [List.set]
  have hT5 : ∀ x ∈ ts, NameOk x.1 ∧ (∀ c ∈ x.2.map (·.1), NameOk c) ∧ x.2.length ≤ 5 := fun x hx => ⟨okt.nm x hx, fun c hc => by
    obtain ⟨y, hy, rfl⟩ := List.mem_map.mp hc
    exact (okt.cs x hx).1.nm y hy, (okt.cs x hx).1.top⟩
  have szr1 : ∀ d ∈ rs.map ruleD, Sz 4705 5 d := fun d hd => by
    obtain ⟨r, hr, rfl⟩ := List.mem_map.mp hd
    exact sz_rule hT5 (okr r hr)
  obtain ⟨rx, hrx, hRA⟩ : ∃ xs, SqT K (msk [b] H2) rp xs ∧ DpAll K (msk [b] H2) xs (rs.map ruleD) := by cases dpr with | tup a1 a2 => exact ⟨_, a1, a2⟩
  have lrx : rx.length = rs.length := by rw [dpAll_len hRA, List.length_map]
  have rok : rulesB ts (.tuple (rs.map ruleD)) = true := rules_ok okt.nd okr ndr lrs
  have tT : ∀ {H'}, Kept [b] H2 H' → Tabs K H' tp ts := fun k => ⟨dp_same ((msk_same (K2.trans k)).trans (msk_sub _ _)) dpt, okt, l0, by omega⟩
  have rM : ∀ {H'}, Kept [b] H2 H' → Same (msk [b] H2) (msk [b] H') := fun k => msk_same k
  have told : ∀ {ds : List PyData}, (∀ d ∈ ds, Sz 9000 5 d) → ds.length ≤ 9 → Fit (.tuple ds) ∧ SeqAt.shaped (.tuple ds) = true ∧ Shows (.list [.tuple (ts.map tabD), .tuple ds]) := fun {ds} hz hl => by
    obtain ⟨n1, n2, n3⟩ := nc_seq (ts := ts) hz (Nat.le_refl _) (Nat.le_refl _) hl
    exact ⟨n1.fit (by decide), n1.shaped (by omega), shows_pair okt (by omega) (by decide) n1 (by omega) (by omega)⟩
  obtain ⟨fR, hR, wR⟩ := told (ds := rs.map ruleD) (fun d hd => (szr1 d hd).mono (by decide) (Nat.le_refl _)) (by rw [List.length_map]; omega)
  show tSeq (tIfS _ _ _) (tSeq _ _) _ [some (.ref b), some (.ref tp), some (.ref rp), none, none, none, none, none] H2
  refine splitS0 (fun _ H' => Same H2 H') (fun _ => [some (.ref b), some (.ref tp), some (.ref rp), none, none, none, none, none]) (fun _ H3 s23 => ?_) (fun rest => ?_)
  rotate_left
  · refine ⟨.ref tp, rfl, .ref rp, rfl, tp, ts, .ref rp, _, rfl, tT (Kept.refl _ _), dp_same (msk_sub _ _) dpr, fR, hR, fun H3 s3 => ⟨_, true, rfl, rfl, _, rfl, ?_⟩⟩
    rw [rok]
    refine iteF ⟨.ref tp, rfl, .ref rp, rfl, tp, ts, .ref rp, _, rfl, tT (Kept.of_same s3), dp_same ((rM (Kept.of_same s3)).trans (msk_sub _ _)) dpr, fR, hR, wR, fun H4 s4 => ⟨_, rfl, iteF ?_⟩⟩
    have s24 := s3.trans s4
    refine ⟨.ref tp, rfl, Nat.zero_le _, fun e0 ne0 => ⟨tp, ts, .ref e0, .tuple [], rfl, tT (Kept.of_same (s24.trans (same_upd ne0))), .tup (.inl (.inl upd_same)) .nil, ⟨Nat.zero_le _, trivial⟩, rfl, fun H5 s5 => ⟨_, true, rfl, rfl, _, rfl, ?_⟩⟩⟩
    have e : rulesB ts (.tuple []) = true := by
      show (true && (true && decide (([] : List Str).Nodup))) = true
      rw [decide_eq_true List.nodup_nil]; rfl
    rw [e]
    exact iteF (rest .non H5 ((s24.trans (same_upd ne0)).trans s5))
  have K23 : Kept [b] H2 H3 := Kept.of_same s23
  have S3 := S2.same s23
  -- each rule, put otherwise
  refine ⟨.ref rp, rfl, rp, rx, rfl, sameT ((rM K23).trans (msk_sub _ _)) hrx, ?_⟩
  refine for_it (walk_enumT (xs := rx)) (fun i σ H' => (∃ y3 y4 y5, σ = [some (.ref b), some (.ref tp), some (.ref rp), y3, y4, y5, none, none]) ∧ BoxAt H' b (2300 + i * 2) ∧ Kept [b] H2 H') ⟨⟨_, _, _, rfl⟩, S3.mono (by omega), K23⟩ (fun i σ H' _ hP => sameT ((rM hP.2.2).trans (msk_sub _ _)) hrx) (fun i x σ H4 H5 hi hP hY => ?_) (fun σ H4 hP => ?_)
  · obtain ⟨TT, a0, x0, rfl, nT, e5, ha, hx⟩ := hY
    cases ha
    obtain ⟨⟨y3, y4, y5, rfl⟩, S4, K4⟩ := hP
    have s45 : Same H4 H5 := by rw [e5]; exact same_upd nT
    have eT : H5 TT = some (.tup [.int i, x0]) := by rw [e5]; exact upd_same
    have S5 := S4.same s45
    have K5 := K4.trans (Kept.of_same s45)
    have hx : rx[i]? = some x0 := hx
    have hi' : i < rs.length := by rw [← lrx]; exact (List.getElem?_eq_some_iff.mp hx).1
    obtain ⟨dr, hdr, hx0⟩ := dpAll_get i hRA hx
    rw [List.getElem?_map] at hdr
    obtain ⟨r, hr, rfl⟩ := Option.map_eq_some_iff.mp hdr
    have mr := List.mem_of_getElem? hr
    refine ⟨TT, _, rfl, .inl (.inl eT), rfl, .int i, _, rfl, x0, _, rfl, rfl, ?_⟩
    dsimp only [List.set]
    refine ⟨.ref b, rfl, .ref tp, rfl, .ref rp, rfl, x0, rfl, b, tp, rp, x0, _, ts, rs, r, rfl, S5, by omega, okt, l0, by omega, dp_same (msk_same (K2.trans K5)) dpt, dp_same (rM K5) dpr, by omega, lrs, okr, dp_same (rM K5) hx0, okr r mr, fun p es H6 dpo hes les S6 K6 => ?_⟩
    have K26 := K5.trans K6
    obtain ⟨ox, hox, hOA⟩ : ∃ xs, SqL K (msk [b] H6) p xs ∧ DpAll K (msk [b] H6) xs es := by cases dpo with | lst a1 a2 => exact ⟨_, a1, a2⟩
    refine ⟨p, rfl, ⟨_, (msk_sub _ _).seq hox⟩, ?_⟩
    refine for_it (walk_list (xs := ox)) (fun k σ H' => (∃ y5, σ = [some (.ref b), some (.ref tp), some (.ref rp), some (.int i), some x0, y5, none, none]) ∧ Same H6 H') ⟨⟨_, rfl⟩, Same.refl _⟩ (fun k σ H' _ hP => ((msk_sub _ _).trans hP.2).seq hox) (fun k y σ H7' H7 hk hP hY => ?_) (fun σ H7 hP => ?_)
    · obtain ⟨rfl, hy⟩ := hY
      obtain ⟨⟨y5, rfl⟩, s67⟩ := hP
      obtain ⟨e, he, hye⟩ := dpAll_get k hOA hy
      have ze := hes e (List.mem_of_getElem? he)
      have K27 := K26.trans (Kept.of_same s67)
      have S7 := S6.same s67
      have u7 := rM K27
      have hrx7 := sameT (u7.trans (msk_sub _ _)) hrx
      refine ⟨.ref tp, rfl, .ref rp, rfl, .int i, rfl, _, rfl, rp, rx, rfl, hrx7, (by
        intro z
        have z2 := z.2
        rw [HT.sIx_nat] at z2
        omega), fun p1 n1 => ?_⟩
      have ec1 : cutV rx none (some (i : Int)) = rx.take i := cut_hi rx i
      rw [ec1]
      have v1 := same_upd (o := .tup (rx.take i)) n1
      have d1 : Dp K (msk [b] (upd H7 p1 (.tup (rx.take i)))) (.ref p1) (.tuple ((rs.map ruleD).take i)) := dp_newt (dpAll_take i (dpAll_same u7 hRA)) n1 (S7.out n1)
      generalize upd H7 p1 (.tup (rx.take i)) = Ha at v1 d1 ⊢
      have Sa := S7.same v1
      refine ⟨y, rfl, (by show 1 ≤ sizeLine; decide), fun p2 n2 => ?_⟩
      have v2 := same_upd (o := .tup [y]) n2
      have d2 : Dp K (msk [b] (upd Ha p2 (.tup [y]))) (.ref p2) (.tuple [e]) := dp_newt (.cons (dp_same (msk_same (Kept.of_same (s67.trans v1))) hye) .nil) n2 (Sa.out n2)
      have d1b := dp_same (msk_same (M := [b]) (Kept.of_same v2)) d1
      generalize upd Ha p2 (.tup [y]) = Hb at v2 d2 d1b ⊢
      have Sb := Sa.same v2
      refine catA_dp Sb d1b d2 (by rw [List.length_take, List.length_map]; show _ + 1 ≤ 1000; omega) fun p3 Hc d3 v3 => ?_
      have Sc := Sb.same v3
      have K2c := K27.trans (Kept.of_same (v1.trans (v2.trans v3)))
      refine ⟨.ref rp, rfl, .int i, rfl, _, _, rfl, rfl, _, rfl, rp, rx, rfl, sameT ((rM K2c).trans (msk_sub _ _)) hrx, (by
        intro z
        have z2 := z.1
        rw [show ((i : Int) + 1) = ((i + 1 : Nat) : Int) from rfl, HT.sIx_nat] at z2
        omega), fun p4 n4 => ?_⟩
      have ec2 : cutV rx (some ((i : Int) + 1)) none = rx.drop (i + 1) := cut_lo rx (i + 1)
      rw [ec2]
      have v4 := same_upd (o := .tup (rx.drop (i + 1))) n4
      have d4 : Dp K (msk [b] (upd Hc p4 (.tup (rx.drop (i + 1))))) (.ref p4) (.tuple ((rs.map ruleD).drop (i + 1))) := dp_newt (dpAll_drop (i + 1) (dpAll_same (rM K2c) hRA)) n4 (Sc.out n4)
      have d3b := dp_same (msk_same (M := [b]) (Kept.of_same v4)) d3
      generalize upd Hc p4 (.tup (rx.drop (i + 1))) = Hd at v4 d4 d3b ⊢
      refine catA_dp (Sc.same v4) d3b d4 (by rw [List.length_append, List.length_take, List.length_drop, List.length_map]; show _ + 1 + _ ≤ 1000; omega) fun p5 He d5 v5 => ?_
      have v15 := v1.trans (v2.trans (v3.trans (v4.trans v5)))
      obtain ⟨t1, t2, t3⟩ := told (ds := (rs.map ruleD).take i ++ [e] ++ (rs.map ruleD).drop (i + 1)) (fun d hd => by
        rcases List.mem_append.mp hd with hd | hd
        · rcases List.mem_append.mp hd with hd | hd
          · exact (szr1 d (List.mem_of_mem_take hd)).mono (by decide) (Nat.le_refl _)
          · rw [List.mem_singleton.mp hd]; exact ze
        · exact (szr1 d (List.mem_of_mem_drop hd)).mono (by decide) (Nat.le_refl _)) (by rw [List.length_append, List.length_append, List.length_take, List.length_drop, List.length_map]; show _ + 1 + _ ≤ 9; omega)
      refine ⟨tp, ts, .ref p5, _, rfl, tT (K27.trans (Kept.of_same v15)), dp_same (msk_sub _ _) d5, t1, t2, t3, fun Hf v6 => ⟨_, rfl, iteF ⟨⟨_, rfl⟩, s67.trans (v15.trans v6)⟩⟩⟩
    obtain ⟨⟨y5', rfl⟩, s67⟩ := hP
    have K27 := K26.trans (Kept.of_same s67)
    have S7 := S6.same s67
    refine ⟨.ref tp, rfl, .ref rp, rfl, x0, rfl, (by show 1 ≤ sizeLine; decide), fun p2 n2 => ?_⟩
    have v2 := same_upd (o := .tup [x0]) n2
    have d2 : Dp K (msk [b] (upd H7 p2 (.tup [x0]))) (.ref p2) (.tuple [ruleD r]) := dp_newt (.cons (dp_same (rM K27) hx0) .nil) n2 (S7.out n2)
    have d1 := dp_same (rM (K27.trans (Kept.of_same v2))) dpr
    generalize upd H7 p2 (.tup [x0]) = Hb at v2 d2 d1 ⊢
    refine catA_dp (S7.same v2) d1 d2 (by rw [List.length_map]; show _ + 1 ≤ 1000; omega) fun p3 Hc d3 v3 => ?_
    obtain ⟨t1, t2, t3⟩ := told (ds := rs.map ruleD ++ [ruleD r]) (fun d hd => by
      rcases List.mem_append.mp hd with hd | hd
      · exact (szr1 d hd).mono (by decide) (Nat.le_refl _)
      · rw [List.mem_singleton.mp hd]; exact (szr1 _ (List.mem_map.mpr ⟨r, mr, rfl⟩)).mono (by decide) (Nat.le_refl _)) (by rw [List.length_append, List.length_map]; show _ + 1 ≤ 9; omega)
    refine ⟨tp, ts, .ref p3, _, rfl, tT (K27.trans (Kept.of_same (v2.trans v3))), dp_same (msk_sub _ _) d3, t1, t2, fun Hd v4 => ⟨_, false, rfl, rfl, _, rfl, ?_⟩⟩
    rw [rules_dup mr]
    have vv := v2.trans (v3.trans v4)
    exact iteF ⟨⟨_, _, _, rfl⟩, (S7.same vv).mono (by omega), K27.trans (Kept.of_same vv)⟩
  obtain ⟨⟨y3, y4, y5, rfl⟩, S4, K4⟩ := hP
  have QH : ∀ {H'}, Kept [b] H4 H' → Q (.bl true) H' := fun k => q _ (K1.trans (K2.trans (K4.trans k)))
  dsimp only
  show tSeq (tIfS _ _ _) (tRet _) _ [some (.ref b), some (.ref tp), some (.ref rp), y3, y4, y5, none, none] H4
  have dR4 := dp_same ((rM K4).trans (msk_sub _ _)) dpr
  refine ⟨.ref rp, rfl, Nat.zero_le _, fun e0 ne0 => ?_⟩
  have v0 := same_upd (o := .tup []) ne0
  refine ⟨_, _, dp_same v0 dR4, .tup (.inl (.inl upd_same)) .nil, hR, rfl, _, rfl, ?_⟩
  have S5 := S4.same v0
  have K45 : Kept [b] H4 (upd H4 e0 (.tup [])) := Kept.of_same v0
  generalize upd H4 e0 (.tup []) = H5 at v0 S5 K45 ⊢
  have K5 := K4.trans K45
  cases rs with
  | nil =>
    refine iteF ?_
    refine ⟨.ref tp, rfl, .ref rp, rfl, rp, rx, rfl, .inr (sameT ((rM K5).trans (msk_sub _ _)) hrx), fun L nL => ?_⟩
    have sL := same_upd (o := .lst rx) nL
    refine ⟨tp, ts, .ref L, .list [], rfl, tT (K5.trans (Kept.of_same sL)), .lst (.inl (.inl upd_same)) (by cases hRA; exact .nil), ⟨Nat.zero_le _, trivial⟩, rfl, fun H6 s6 => ⟨_, false, rfl, rfl, ?_⟩⟩
    exact QH (K45.trans (Kept.of_same (sL.trans s6)))
  | cons r0 rs0 =>
    rw [show (!PyData.eqv (.tuple ((r0 :: rs0).map ruleD)) (.tuple [])) = true from rfl]
    refine iteT ?_
    obtain ⟨xl, hxl⟩ : ∃ x, rx[rx.length - 1]? = some x := ⟨_, List.getElem?_eq_getElem (by rw [lrx]; show (r0 :: rs0).length - 1 < (r0 :: rs0).length; simp)⟩
    obtain ⟨dl, hdl, hxd⟩ := dpAll_get _ hRA hxl
    rw [List.getElem?_map] at hdl
    obtain ⟨rl, hrl, rfl⟩ := Option.map_eq_some_iff.mp hdl
    have mrl := List.mem_of_getElem? hrl
    obtain ⟨rr, Ac, vc, vt, rfl, hRR, dC, dE, dA⟩ := rule_dp hxd
    refine ⟨.ref b, rfl, b, _, 9, rfl, S5, by omega, by decide, fun pn zs H6 lzs ndzs okzs _ fzs eZs S6 K6 => ?_⟩
    have K46 := K45.trans K6
    have K26 := K5.trans K6
    have u6 := rM K26
    refine ⟨pn, rfl, ⟨_, .inl (.inl eZs)⟩, fun D nD => ?_⟩
    refine lc_dp (K := K) (walk_list (xs := zs.map V.str)) (l := zs) [b] (by rw [List.length_map]) (by omega) (fun z => ruleD (named rl z)) nD (fun H' k => .inl (.inl ((keptS0 k nD) _ _ eZs))) (fun i x z H' C N hx hz kk hws next => ?_) (fun us H7 gr kk => ?_) (S6.out nD)
    · rw [List.getElem?_map, hz] at hx
      cases hx
      have s6 := keptS0 kk nD
      have S' := S6.same s6
      refine gN0 ⟨rfl, iteT ⟨.str z, rfl, (by show 1 ≤ sizeLine; decide), fun t1 n1 => ?_⟩⟩
      have v1 := same_upd (o := .tup [.str z]) n1
      refine ⟨.ref rp, rfl, 1, rfl, rp, rx, -1, .ref rr, rfl, rfl, sameT ((u6.trans (msk_sub _ _)).trans (s6.trans v1)) hrx, atI_last hxl, 1, rfl, rr, _, rfl, sameT ((u6.trans (msk_sub _ _)).trans (s6.trans v1)) hRR, (by
        intro z
        have z1 := z.1
        rw [show (1 : Int) = ((1 : Nat) : Int) from rfl, HT.sIx_nat] at z1
        have : min 1 7 = 0 := z1
        exact absurd this (by decide)), fun t2 n2 => ?_⟩
      have ec : cutV [.str rl.nm, .str rl.side, .str rl.tab, .str rl.kind, vc, vt, .ref Ac] (some 1) none = [.str rl.side, .str rl.tab, .str rl.kind, vc, vt, .ref Ac] := cut_lo [.str rl.nm, .str rl.side, .str rl.tab, .str rl.kind, vc, vt, .ref Ac] 1
      rw [ec]
      have v2 := same_upd (o := .tup [.str rl.side, .str rl.tab, .str rl.kind, vc, vt, .ref Ac]) n2
      refine ⟨t1, t2, [.str z], _, rfl, rfl, .inl (.inl (v2 _ _ upd_same)), .inl (.inl upd_same), (by simp), (by show 1 + 6 ≤ sizeLine; decide), (fun h => by cases h), fun _ t nt => ?_⟩
      have uD := u6.trans (toD nD kk (v1.trans v2))
      exact fin7 nD S6 kk hws next (v1.trans v2) (.cons (.str _) (.cons (.str _) (.cons (.str _) (.cons (.str _) (.cons (dp_same uD dC) (.cons (dp_same uD dE) (.cons (dp_same uD dA) .nil))))))) t nt
    have s67 := keptS0 kk nD
    have S7 := S6.same s67
    refine ⟨D, us, rfl, .inl ⟨.inl (.inl gr.at'), fun cp ncp => gN0 ?_⟩⟩
    dsimp only [List.set]
    have sc := same_upd (o := .tup us) ncp
    have dUs : DpAll K (msk [b] (upd H7 cp (.tup us))) us (zs.map fun z => ruleD (named rl z)) := dpAll_same ((msk_less sub_push).trans (msk_same (Kept.of_same sc))) gr.dp
    have hU : SqT K (msk [b] (upd H7 cp (.tup us))) cp us := .inl (.inl (msk_at upd_same (S7.out ncp)))
    have lus : us.length = 9 := by rw [gr.len, List.length_map, lzs]
    have S8 := S7.same sc
    have K28 := K26.trans (Kept.of_same (s67.trans sc))
    have K48 := K46.trans (Kept.of_same (s67.trans sc))
    show tRet _ _ [some (.ref b), some (.ref tp), some (.ref rp), y3, y4, y5, some (.ref cp), none] (upd H7 cp (.tup us))
    generalize upd H7 cp (.tup us) = H8 at dUs hU S8 K28 K48 ⊢
    have szm : ∀ d ∈ zs.map (fun z => ruleD (named rl z)), Sz 9000 5 d := fun d hd => by
      obtain ⟨z, hz, rfl⟩ := List.mem_map.mp hd
      exact (sz_rule hT5 (named_ok (okr rl mrl) (okzs z hz))).mono (by decide) (Nat.le_refl _)
    refine ⟨.ref tp, rfl, .ref cp, rfl, 8, rfl, cp, us, rfl, sameT (msk_sub _ _) hU, (by
      intro z
      have z2 := z.2
      rw [show (8 : Int) = ((8 : Nat) : Int) from rfl, HT.sIx_nat] at z2
      omega), fun p8 n8 => ?_⟩
    have ec : cutV us none (some 8) = us.take 8 := cut_hi us 8
    rw [ec]
    have v8 := same_upd (o := .tup (us.take 8)) n8
    have d8 : Dp K (msk [b] (upd H8 p8 (.tup (us.take 8)))) (.ref p8) (.tuple ((zs.map fun z => ruleD (named rl z)).take 8)) := dp_newt (dpAll_take 8 dUs) n8 (S8.out n8)
    obtain ⟨t1, t2, _⟩ := told (ds := (zs.map fun z => ruleD (named rl z)).take 8) (fun d hd => szm d (List.mem_of_mem_take hd)) (by rw [List.length_take]; omega)
    have rok8 : rulesB ts (.tuple ((zs.map fun z => ruleD (named rl z)).take 8)) = true := by
      have e : (zs.map fun z => ruleD (named rl z)).take 8 = ((zs.take 8).map (named rl)).map ruleD := by rw [← List.map_take, List.map_map]; rfl
      rw [e]
      refine rules_ok okt.nd (fun r hr => ?_) ?_ (by rw [List.length_map, List.length_take]; omega)
      · obtain ⟨z, hz, rfl⟩ := List.mem_map.mp hr
        exact named_ok (okr rl mrl) (okzs z (List.mem_of_mem_take hz))
      · rw [List.map_map]
        have e2 : (zs.take 8).map ((fun r => r.nm) ∘ named rl) = zs.take 8 := by
          have : ((fun r : Rul => r.nm) ∘ named rl) = id := rfl
          rw [this, List.map_id]
        rw [e2]
        exact (List.take_sublist 8 zs).nodup ndzs
    refine ⟨tp, ts, .ref p8, _, rfl, tT (K28.trans (Kept.of_same v8)), dp_same (msk_sub _ _) d8, t1, t2, fun H9 s9 => ⟨_, true, rfl, rfl, ?_⟩⟩
    rw [rok8]
    refine ⟨_, rfl, iteT ?_⟩
    have v89 := v8.trans s9
    obtain ⟨t1, t2, _⟩ := told (ds := zs.map fun z => ruleD (named rl z)) szm (by rw [List.length_map]; omega)
    refine ⟨.ref tp, rfl, .ref cp, rfl, tp, ts, .ref cp, _, rfl, tT (K28.trans (Kept.of_same v89)), dp_same ((msk_sub _ _).trans v89) (.tup hU dUs), t1, t2, fun Ha sa => ⟨_, false, rfl, rfl, ?_⟩⟩
    rw [rules_long (by rw [List.length_map]; omega)]
    exact QH (K48.trans (Kept.of_same (v89.trans sa)))
def spLaw (K : PySem.W.Frag) : Sp := fun vs H Q _ => ∃ (a : Addr) (ns : List Int), vs = [.ref a] ∧ SqL K H a (ns.map V.int) ∧ ns.length ≤ 63 ∧ ∀ H', Q (.bl true) H'
abbrev s_law : Stmt := topS 53
abbrev N_law : List Str := ["script", "cells", "k"]
theorem sc_law : FnScope N_law ["script"] (defScope s_law) := ⟨rfl, rfl, rfl, by decide +kernel, rfl, by decide +kernel, by decide +kernel⟩

theorem all_true : ∀ n : Nat, (List.replicate n true).all id = true
  | 0 => rfl
  | n + 1 => by rw [List.replicate_succ, List.all_cons, all_true n]; rfl
set_option maxHeartbeats 4000000 in
theorem ok_law {f : Addr} {fd : FuncData} (F : Fun K "law" "law" s_law f fd) (nb : NB mg) (D_law_cells : Def P w K mg base 1 "_law_cells" ["script", "most"] (spCells K)) (D_law_box : Def P w K mg base 1 "_law_box" ["cells", "k"] (spBox K)) (D_law_right : DefG P w K mg base 11 "_law_right" ["box"] (spRight K)) :
    FnG P w K mg base CX0 12 f fd ["script"] (spLaw K) := by
  refine okG F sc_law (fun vs H Q E h => ?_) (fun cdv A outer sh H vs Q E hr hg h => ?_)
  · obtain ⟨a, ns, rfl, _⟩ := h
    rfl
  obtain ⟨a, ns, rfl, hS, hn, q⟩ := h
  have nd := sc_law.nd
  refine ⟨_, (pss_cons (ps_set (i := 1) nd rfl (Or.inr rfl) (pe_own D_law_cells hr (pa_cons (pv 0) (pa_cons pe_int pa_nil))))
      (pss_one (ps_ret (pe_callB (cr_all rfl) (by rfl) nb.b_all (by decide +kernel) (pa_cons (pe_lc (own := [("k", 2)]) (g := (gName 2)) (tt := tYes) rfl nd (pi_range1 (by rfl) nb.b_range (pa_cons (pe_callB call_len (by rfl) nb.b_len (by decide +kernel) (pa_cons (pv 1) pa_nil)) pa_nil)) (blkOk_by (N := N_law) (sc := defScope s_law) (by decide +kernel)) (fun _ _ _ _ _ => (pg_name (i := 2) nd rfl (Or.inl rfl))) (fun _ _ _ _ _ => pts_nil) (fun _ _ _ _ _ => (pe_ownG D_law_right hg hr (pa_cons (pe_own D_law_box hr (pa_cons (pv 1) (pa_cons (pv 2) pa_nil))) pa_nil)))) pa_nil))))), ?_⟩
  refine ⟨.ref a, rfl, a, ns, 2, rfl, hS, hn, by decide, by decide, fun p cs H1 c0 c2 eP s1 => gN0 ?_⟩
  dsimp only [List.set]
  refine ⟨.ref p, rfl, .ref p, (cs.map V.int).length, rfl, .inl ⟨_, .inl (.inl eP), rfl⟩, _, rfl, by rw [List.length_map]; omega, by rw [List.length_map]; omega, fun D nD => ?_⟩
  refine lc_range (lo := 0) (n := (((cs.map V.int).length : Nat) : Int).toNat) (fun j H' => H' D = some (.lst ((List.replicate j true).map V.bl)) ∧ Kept [D] H1 H') ⟨upd_same, Kept.upd_new nD⟩ (fun j H2 hj hP => ?_) (fun H2 hP => ?_)
  · obtain ⟨eD, k1⟩ := hP
    rw [List.length_map] at hj
    have hj' : j < cs.length := by omega
    refine ⟨rfl, ?_⟩
    unfold tYes
    dsimp only
    refine iteT ?_
    refine ⟨.ref p, rfl, .int (0 + (j : Int)), rfl, p, cs, j, (by rw [Int.zero_add]; rfl), .inl (.inl ((keptS0 k1 nD) _ _ eP)), hj', by omega, fun b H3 nb S2 s2 => ⟨b, rfl, S2, fun H4 k3 => ?_⟩⟩
    have s13 : Same H2 H4 := fun q o e => k3 q o (s2 q o e) fun z => by rw [List.mem_singleton.mp z, nb] at e; cases e
    have eD3 := s13 _ _ eD
    refine ⟨_, eD3, (by rw [List.length_map, List.length_replicate]; exact small1000 (by omega)), ?_, k1.trans ((Kept.of_same s13).trans (Kept.upd_in (List.mem_cons_self ..)))⟩
    rw [upd_same, List.replicate_succ', List.map_append]; rfl
  · obtain ⟨eD, k1⟩ := hP
    refine ⟨D, List.replicate _ true, rfl, .inl (.inl eD), ?_⟩
    rw [all_true]
    exact q _
end
end TT

set_option Elab.async false
set_option linter.all false
set_option maxRecDepth 100000
namespace TT
open PySem PySem.Spec PyProof.Rows L2
/-! ### the law's call from the caller's own frame, where nothing is being shown -/
/-- what is tracked ahead of the call: the script alone, or nothing where it is one of the module's objects -/
def scr (a : Addr) (o : Obj) (xs : List V) (own : Bool) : Hp := fun b => if own = true ∧ b = a then some (.frz o (.lst xs)) else none
theorem scr_only (a : Addr) (o : Obj) (xs : List V) (own : Bool) : Only (scr a o xs own) := fun b => by
  unfold scr
  split
  · exact .inr ⟨_, _, rfl⟩
  · exact .inl rfl
theorem scr_at {a b : Addr} {o : Obj} {xs : List V} {own : Bool} {u : HO} (h : scr a o xs own b = some u) : own = true ∧ b = a ∧ u = .frz o (.lst xs) := by
  unfold scr at h
  split at h
  · rename_i z
    exact ⟨z.1, z.2, (Option.some.inj h).symm⟩
  · cases h
theorem law_callG {P : Program} {w : World} {K : PySem.W.Frag} {mg mb : Str → Option Value} {k : Nat} {fa a : Addr} {fd : FuncData} {x : Str} {sp : Sp} {s1 : Shared} {vs : List Value} {ns : List Int}
    (KX : K.In s1.heap) (hns : s1.heap.Ns mainGlobals mg) (hb : s1.heap.Ns builtinsNs mb) (hbb : ∀ x : Str, x ≠ "__name__" → mb x = bootBuiltins x) (lim : s1.heap.NoLimit) (bare : s1.gens = #[])
    (ha : s1.heap.get? a = some { cls := .type "list", data := .seq vs.toArray }) (hi : IntsAre vs ns) (hl : ns.length ≤ sizeLine) (hr : Room k callerA)
    (F : ∀ base : Heap, K.In base → base.Ns mainGlobals mg → FnG P w K mg base CX0 k fa fd [x] sp) (bind : ∀ (s : Shared) (u : Value), BindsTo s fd ⟨[u], []⟩ [(x, u)])
    (hsp : ∀ H : Hp, Only H → SqL K H a (ns.map V.int) → sp [.ref a] H (fun v _ => v = .bl true) E0) :
    codeAny (model P w) callerA (.call (.ref fa) ⟨[.ref a], []⟩) (fun r s' => r = .ok (.ret (.bool true)) ∧ OldK s1.heap s'.heap ∧ s'.os = s1.os ∧ AllBare s'.gens) s1 := by
  have rv := vals_ints hi
  have lv := hi.length
  obtain ⟨own, hown, hK⟩ : ∃ own : Bool, (own = true → K.lookup a = none) ∧ (own = false → SqL K (scr a { cls := .type "list", data := .seq vs.toArray } (ns.map V.int) false) a (ns.map V.int)) := by
    cases e : K.lookup a with
    | none => exact ⟨true, ⟨fun _ => rfl, fun z => absurd z (by decide)⟩⟩
    | some o =>
      refine ⟨false, ⟨fun z => absurd z (by decide), fun _ => ?_⟩⟩
      have q := KX a o e
      rw [ha] at q
      cases q
      exact .inr ⟨_, vs.toArray, _, e, rfl, rfl, rfl, by rw [List.size_toArray, lv]; exact hl, by simpa using rv⟩
  generalize hH : scr a { cls := .type "list", data := .seq vs.toArray } (ns.map V.int) own = H
  have at' : ∀ {b u}, H b = some u → own = true ∧ b = a ∧ u = .frz { cls := .type "list", data := .seq vs.toArray } (.lst (ns.map V.int)) := fun {b u} e => scr_at (by rw [hH]; exact e)
  have hO : Only H := by rw [← hH]; exact scr_only a _ _ own
  have hS : SqL K H a (ns.map V.int) := by
    cases e : own with
    | false =>
      rw [← hH, e]
      exact hK e
    | true =>
      refine .inl (.inr ⟨{ cls := .type "list", data := .seq vs.toArray }, ?_⟩)
      rw [← hH, e]
      exact if_pos ⟨rfl, rfl⟩
  have hok : HOk P w H s1.heap := fun b u e => by
    obtain ⟨_, rfl, rfl⟩ := at' e
    exact ⟨ha, by rw [List.length_map]; exact hl, vs, _, rv, ha⟩
  -- what is not the script stands in the heap that is leant on
  have bare' : ∀ {b o es ep}, s1.heap.get? b = some o → o.data = .dict es ep → H b = none := fun {b o es ep} e d => by
    cases q : H b with
    | none => rfl
    | some u =>
      obtain ⟨_, rfl, _⟩ := at' q
      rw [ha] at e
      cases e
      cases d
  have ns' : ∀ {b m}, s1.heap.Ns b m → (hidT s1.heap H).Ns b m := fun {b m} ⟨o, es, ep, e, d, r⟩ => ⟨o, es, ep, hidT_get e (bare' e d), d, r⟩
  have kb : K.In (hidT s1.heap H) := fun b o e => hidT_get (KX b o e) (by
    cases q : H b with
    | none => rfl
    | some u =>
      obtain ⟨z, rfl, _⟩ := at' q
      rw [hown z] at e
      cases e)
  have e0 : Env0 P w K mg (hidT s1.heap H) callerA [] s1 H := ⟨rfl, ⟨kb, ns' hns, ⟨mb, ns' hb, hbb⟩, let ⟨mc, h1, h2⟩ := lim; ⟨mc, ns' h1, h2⟩⟩, fun b o e => of_hidT e, Nat.le_of_eq (hidT_size _ _), trivial,
    fun b z => absurd (show b ∈ ([] : List Addr) from z) (by simp), hok, .of_eq bare⟩
  refine codeAny_mono ((F _ kb (ns' hns)).run callerA [] s1 H ⟨[.ref a], []⟩ [.ref a] [.ref a] _ _ hr rfl e0 (bind s1 (.ref a)) (.cons rfl .nil) (hsp H hO hS)) fun r s' h => ?_
  rcases r with err | fl
  · exact False.elim h
  cases fl with
  | next => exact False.elim h
  | brk => exact False.elim h
  | cont => exact False.elim h
  | ret u =>
    obtain ⟨v, H', os, bg, un, ok', r', q⟩ := h
    obtain rfl : v = .bl true := q
    obtain rfl : u = Value.bool true := r'
    refine ⟨rfl, OldK.of_keep fun b o e => ?_, os, bg⟩
    cases q : H b with
    | none => exact un.keep b o e q (fun z => absurd (show b ∈ ([] : List Addr) from z) (by simp)) (by simp)
    | some u =>
      obtain ⟨_, rfl, rfl⟩ := at' q
      rw [ha] at e
      cases e
      exact (ok' _ _ (un.frzs _ _ _ q)).1
/-- a law by its promise: L2.walk_ofK, where nothing is being shown -/
theorem walk_ofG {l : PySem.W.OpenLaw} {n k : Nat} {q : Program} {loose : List Str} {XP : (Str → Option Value) → Heap → Prop} {YP : World → Heap → Prop} {d : DefRec} {K : Params → PySem.W.Frag} {sp : PySem.W.Frag → Sp} {x : Str}
    (hn : l.most = some n) (hn2 : n ≤ sizeLine) (hdf : d.params.defaults = []) (hr : Room k callerA) (hY : ∀ (w : World) (h : Heap), YP w h → (K w.params).In h)
    (F : ∀ (w : World) (mg : Str → Option Value) (fa : Addr) (h : Heap), (K w.params).In h → h.Ns mainGlobals mg → mg d.name = some (.ref fa) →
      ∃ fd : FuncData, (∀ (s : Shared) (u : Value), BindsTo s fd ⟨[u], []⟩ [(x, u)]) ∧
        ∀ base : Heap, (K w.params).In base → base.Ns mainGlobals mg → FnG l.prog w (K w.params) mg base CX0 k fa fd [x] (sp (K w.params)))
    (hsp : ∀ (K : PySem.W.Frag) (H : Hp) (a : Addr) (ns : List Int), ns.length ≤ n → Only H → SqL K H a (ns.map V.int) → sp K [.ref a] H (fun v _ => v = .bl true) E0) :
    PySem.W.WalkO q loose XP YP l.row.toRowW d [] (fun f vs => PySem.call f vs) := by
  refine Att.attach_call hn hdf fun w s0 s1 mg mb fa o pm cd doc a vs ns G Y ho hd hcd hmg hobj hints hlen hg => ?_
  have KX := hY w _ Y
  obtain ⟨fd, hb, hF⟩ := F w mg fa _ KX G.T.g hmg
  exact law_callG KX G.T.g G.T.b G.T.builtins G.T.nolimit hg hobj hints (Nat.le_trans hlen hn2) hr hF hb fun H hO hS => hsp (K w.params) H a ns hlen hO hS
end TT

set_option Elab.async false
set_option linter.all false
set_option maxRecDepth 100000
namespace TT
open PySem PySem.Spec PyProof.Rows L2
/-! ### what the top has written; the law's own head -/
set_option maxHeartbeats 8000000 in
theorem all_mk {l : PySem.W.OpenLaw} {w : World} {K : PySem.W.Frag} {h : Heap} {mg : Str → Option Value} {fa f1 f2 f3 f4 f5 f6 f7 f8 f9 f10 f11 f12 f13 f14 f15 f16 f17 f18 f19 f20 f21 f22 f23 f24 f25 f26 f27 f28 f29 f30 f31 f32 f33 f34 f35 f36 f37 f38 f39 f40 : Addr} (X : K.In h) (G : h.Ns mainGlobals mg) (hfa : mg "law" = some (.ref fa))
    {od1 an1 od2 an2 od3 an3 od4 an4 od5 an5 od6 an6 od7 an7 od8 an8 od9 an9 od10 an10 od11 an11 od12 an12 od13 an13 od14 an14 od15 an15 od16 an16 od17 an17 od18 an18 od19 an19 od20 an20 od21 an21 od22 an22 od23 an23 od24 an24 od25 an25 od26 an26 od27 an27 od28 an28 od29 an29 od30 an30 od31 an31 od32 an32 od33 an33 od34 an34 od35 an35 od36 an36 od37 an37 od38 an38 od39 an39 od40 an40 : Option Addr} {sl1 sl2 sl3 sl4 sl5 sl6 sl7 sl8 sl9 sl10 sl11 sl12 sl13 sl14 sl15 sl16 sl17 sl18 sl19 sl20 sl21 sl22 sl23 sl24 sl25 sl26 sl27 sl28 sl29 sl30 sl31 sl32 sl33 sl34 sl35 sl36 sl37 sl38 sl39 sl40 : Array (Option Value)} {oc1 kV1 dc1 pm1 cd1 ct1 oc2 kV2 dc2 pm2 cd2 ct2 oc3 kV3 dc3 pm3 cd3 ct3 oc4 kV4 dc4 pm4 cd4 ct4 oc5 kV5 dc5 pm5 cd5 ct5 oc6 kV6 dc6 pm6 cd6 ct6 oc7 kV7 dc7 pm7 cd7 ct7 oc8 kV8 dc8 pm8 cd8 ct8 oc9 kV9 dc9 pm9 cd9 ct9 oc10 kV10 dc10 pm10 cd10 ct10 oc11 kV11 dc11 pm11 cd11 ct11 oc12 kV12 dc12 pm12 cd12 ct12 oc13 kV13 dc13 pm13 cd13 ct13 oc14 kV14 dc14 pm14 cd14 ct14 oc15 kV15 dc15 pm15 cd15 ct15 oc16 kV16 dc16 pm16 cd16 ct16 oc17 kV17 dc17 pm17 cd17 ct17 oc18 kV18 dc18 pm18 cd18 ct18 oc19 kV19 dc19 pm19 cd19 ct19 oc20 kV20 dc20 pm20 cd20 ct20 oc21 kV21 dc21 pm21 cd21 ct21 oc22 kV22 dc22 pm22 cd22 ct22 oc23 kV23 dc23 pm23 cd23 ct23 oc24 kV24 dc24 pm24 cd24 ct24 oc25 kV25 dc25 pm25 cd25 ct25 oc26 kV26 dc26 pm26 cd26 ct26 oc27 kV27 dc27 pm27 cd27 ct27 oc28 kV28 dc28 pm28 cd28 ct28 oc29 kV29 dc29 pm29 cd29 ct29 oc30 kV30 dc30 pm30 cd30 ct30 oc31 kV31 dc31 pm31 cd31 ct31 oc32 kV32 dc32 pm32 cd32 ct32 oc33 kV33 dc33 pm33 cd33 ct33 oc34 kV34 dc34 pm34 cd34 ct34 oc35 kV35 dc35 pm35 cd35 ct35 oc36 kV36 dc36 pm36 cd36 ct36 oc37 kV37 dc37 pm37 cd37 ct37 oc38 kV38 dc38 pm38 cd38 ct38 oc39 kV39 dc39 pm39 cd39 ct39 oc40 kV40 dc40 pm40 cd40 ct40 : Value}
    (a1 : PySem.W.nsIn K mainGlobals "_law_box" = some (some (.ref f1))) (l1 : K.lookup f1 = some ⟨oc1, od1, .func (PySem.W.fnOf "_law_box" "_law_box" (defArgs s_law_box) (defBody s_law_box) (defScope s_law_box) .none kV1 dc1 pm1 an1 cd1 ct1), sl1⟩) (c1 : PySem.W.codeIn K cd1 "_law_box" = true) (k1 : PySem.W.keepIn K (.ref f1) = true)
    (a2 : PySem.W.nsIn K mainGlobals "_law_take" = some (some (.ref f2))) (l2 : K.lookup f2 = some ⟨oc2, od2, .func (PySem.W.fnOf "_law_take" "_law_take" (defArgs s_law_take) (defBody s_law_take) (defScope s_law_take) .none kV2 dc2 pm2 an2 cd2 ct2), sl2⟩) (c2 : PySem.W.codeIn K cd2 "_law_take" = true) (k2 : PySem.W.keepIn K (.ref f2) = true)
    (a3 : PySem.W.nsIn K mainGlobals "_law_cells" = some (some (.ref f3))) (l3 : K.lookup f3 = some ⟨oc3, od3, .func (PySem.W.fnOf "_law_cells" "_law_cells" (defArgs s_law_cells) (defBody s_law_cells) (defScope s_law_cells) .none kV3 dc3 pm3 an3 cd3 ct3), sl3⟩) (c3 : PySem.W.codeIn K cd3 "_law_cells" = true) (k3 : PySem.W.keepIn K (.ref f3) = true)
    (a4 : PySem.W.nsIn K mainGlobals "_law_names" = some (some (.ref f4))) (l4 : K.lookup f4 = some ⟨oc4, od4, .func (PySem.W.fnOf "_law_names" "_law_names" (defArgs s_law_names) (defBody s_law_names) (defScope s_law_names) .none kV4 dc4 pm4 an4 cd4 ct4), sl4⟩) (c4 : PySem.W.codeIn K cd4 "_law_names" = true) (k4 : PySem.W.keepIn K (.ref f4) = true)
    (a5 : PySem.W.nsIn K mainGlobals "_law_worth" = some (some (.ref f5))) (l5 : K.lookup f5 = some ⟨oc5, od5, .func (PySem.W.fnOf "_law_worth" "_law_worth" (defArgs s_law_worth) (defBody s_law_worth) (defScope s_law_worth) .none kV5 dc5 pm5 an5 cd5 ct5), sl5⟩) (c5 : PySem.W.codeIn K cd5 "_law_worth" = true) (k5 : PySem.W.keepIn K (.ref f5) = true)
    (a6 : PySem.W.nsIn K mainGlobals "_law_one_of" = some (some (.ref f6))) (l6 : K.lookup f6 = some ⟨oc6, od6, .func (PySem.W.fnOf "_law_one_of" "_law_one_of" (defArgs s_law_one_of) (defBody s_law_one_of) (defScope s_law_one_of) .none kV6 dc6 pm6 an6 cd6 ct6), sl6⟩) (c6 : PySem.W.codeIn K cd6 "_law_one_of" = true) (k6 : PySem.W.keepIn K (.ref f6) = true)
    (a7 : PySem.W.nsIn K mainGlobals "_law_tables" = some (some (.ref f7))) (l7 : K.lookup f7 = some ⟨oc7, od7, .func (PySem.W.fnOf "_law_tables" "_law_tables" (defArgs s_law_tables) (defBody s_law_tables) (defScope s_law_tables) .none kV7 dc7 pm7 an7 cd7 ct7), sl7⟩) (c7 : PySem.W.codeIn K cd7 "_law_tables" = true) (k7 : PySem.W.keepIn K (.ref f7) = true)
    (a8 : PySem.W.nsIn K mainGlobals "_law_place" = some (some (.ref f8))) (l8 : K.lookup f8 = some ⟨oc8, od8, .func (PySem.W.fnOf "_law_place" "_law_place" (defArgs s_law_place) (defBody s_law_place) (defScope s_law_place) .none kV8 dc8 pm8 an8 cd8 ct8), sl8⟩) (c8 : PySem.W.codeIn K cd8 "_law_place" = true) (k8 : PySem.W.keepIn K (.ref f8) = true)
    (a9 : PySem.W.nsIn K mainGlobals "_law_act" = some (some (.ref f9))) (l9 : K.lookup f9 = some ⟨oc9, od9, .func (PySem.W.fnOf "_law_act" "_law_act" (defArgs s_law_act) (defBody s_law_act) (defScope s_law_act) .none kV9 dc9 pm9 an9 cd9 ct9), sl9⟩) (c9 : PySem.W.codeIn K cd9 "_law_act" = true) (k9 : PySem.W.keepIn K (.ref f9) = true)
    (a10 : PySem.W.nsIn K mainGlobals "_law_rules" = some (some (.ref f10))) (l10 : K.lookup f10 = some ⟨oc10, od10, .func (PySem.W.fnOf "_law_rules" "_law_rules" (defArgs s_law_rules) (defBody s_law_rules) (defScope s_law_rules) .none kV10 dc10 pm10 an10 cd10 ct10), sl10⟩) (c10 : PySem.W.codeIn K cd10 "_law_rules" = true) (k10 : PySem.W.keepIn K (.ref f10) = true)
    (a11 : PySem.W.nsIn K mainGlobals "table_names" = some (some (.ref f11))) (l11 : K.lookup f11 = some ⟨oc11, od11, .func (PySem.W.fnOf "table_names" "table_names" (defArgs s_table_names) (defBody s_table_names) (defScope s_table_names) .none kV11 dc11 pm11 an11 cd11 ct11), sl11⟩) (c11 : PySem.W.codeIn K cd11 "table_names" = true) (k11 : PySem.W.keepIn K (.ref f11) = true)
    (a12 : PySem.W.nsIn K mainGlobals "_columns_of" = some (some (.ref f12))) (l12 : K.lookup f12 = some ⟨oc12, od12, .func (PySem.W.fnOf "_columns_of" "_columns_of" (defArgs s_columns_of) (defBody s_columns_of) (defScope s_columns_of) .none kV12 dc12 pm12 an12 cd12 ct12), sl12⟩) (c12 : PySem.W.codeIn K cd12 "_columns_of" = true) (k12 : PySem.W.keepIn K (.ref f12) = true)
    (a13 : PySem.W.nsIn K mainGlobals "column_names" = some (some (.ref f13))) (l13 : K.lookup f13 = some ⟨oc13, od13, .func (PySem.W.fnOf "column_names" "column_names" (defArgs s_column_names) (defBody s_column_names) (defScope s_column_names) .none kV13 dc13 pm13 an13 cd13 ct13), sl13⟩) (c13 : PySem.W.codeIn K cd13 "column_names" = true) (k13 : PySem.W.keepIn K (.ref f13) = true)
    (a14 : PySem.W.nsIn K mainGlobals "is_tuple" = some (some (.ref f14))) (l14 : K.lookup f14 = some ⟨oc14, od14, .func (PySem.W.fnOf "is_tuple" "is_tuple" (defArgs s_is_tuple) (defBody s_is_tuple) (defScope s_is_tuple) .none kV14 dc14 pm14 an14 cd14 ct14), sl14⟩) (c14 : PySem.W.codeIn K cd14 "is_tuple" = true) (k14 : PySem.W.keepIn K (.ref f14) = true)
    (a15 : PySem.W.nsIn K mainGlobals "is_number" = some (some (.ref f15))) (l15 : K.lookup f15 = some ⟨oc15, od15, .func (PySem.W.fnOf "is_number" "is_number" (defArgs s_is_number) (defBody s_is_number) (defScope s_is_number) .none kV15 dc15 pm15 an15 cd15 ct15), sl15⟩) (c15 : PySem.W.codeIn K cd15 "is_number" = true) (k15 : PySem.W.keepIn K (.ref f15) = true)
    (a16 : PySem.W.nsIn K mainGlobals "is_bounded" = some (some (.ref f16))) (l16 : K.lookup f16 = some ⟨oc16, od16, .func (PySem.W.fnOf "is_bounded" "is_bounded" (defArgs s_is_bounded) (defBody s_is_bounded) (defScope s_is_bounded) .none kV16 dc16 pm16 an16 cd16 ct16), sl16⟩) (c16 : PySem.W.codeIn K cd16 "is_bounded" = true) (k16 : PySem.W.keepIn K (.ref f16) = true)
    (a17 : PySem.W.nsIn K mainGlobals "is_worth" = some (some (.ref f17))) (l17 : K.lookup f17 = some ⟨oc17, od17, .func (PySem.W.fnOf "is_worth" "is_worth" (defArgs s_is_worth) (defBody s_is_worth) (defScope s_is_worth) .none kV17 dc17 pm17 an17 cd17 ct17), sl17⟩) (c17 : PySem.W.codeIn K cd17 "is_worth" = true) (k17 : PySem.W.keepIn K (.ref f17) = true)
    (a18 : PySem.W.nsIn K mainGlobals "are_unlike" = some (some (.ref f18))) (l18 : K.lookup f18 = some ⟨oc18, od18, .func (PySem.W.fnOf "are_unlike" "are_unlike" (defArgs s_are_unlike) (defBody s_are_unlike) (defScope s_are_unlike) .none kV18 dc18 pm18 an18 cd18 ct18), sl18⟩) (c18 : PySem.W.codeIn K cd18 "are_unlike" = true) (k18 : PySem.W.keepIn K (.ref f18) = true)
    (a19 : PySem.W.nsIn K mainGlobals "is_name" = some (some (.ref f19))) (l19 : K.lookup f19 = some ⟨oc19, od19, .func (PySem.W.fnOf "is_name" "is_name" (defArgs s_is_name) (defBody s_is_name) (defScope s_is_name) .none kV19 dc19 pm19 an19 cd19 ct19), sl19⟩) (c19 : PySem.W.codeIn K cd19 "is_name" = true) (k19 : PySem.W.keepIn K (.ref f19) = true)
    (a20 : PySem.W.nsIn K mainGlobals "_places_read" = some (some (.ref f20))) (l20 : K.lookup f20 = some ⟨oc20, od20, .func (PySem.W.fnOf "_places_read" "_places_read" (defArgs s_places_read) (defBody s_places_read) (defScope s_places_read) .none kV20 dc20 pm20 an20 cd20 ct20), sl20⟩) (c20 : PySem.W.codeIn K cd20 "_places_read" = true) (k20 : PySem.W.keepIn K (.ref f20) = true)
    (a21 : PySem.W.nsIn K mainGlobals "_is_place" = some (some (.ref f21))) (l21 : K.lookup f21 = some ⟨oc21, od21, .func (PySem.W.fnOf "_is_place" "_is_place" (defArgs s_is_place) (defBody s_is_place) (defScope s_is_place) .none kV21 dc21 pm21 an21 cd21 ct21), sl21⟩) (c21 : PySem.W.codeIn K cd21 "_is_place" = true) (k21 : PySem.W.keepIn K (.ref f21) = true)
    (a22 : PySem.W.nsIn K mainGlobals "_is_places" = some (some (.ref f22))) (l22 : K.lookup f22 = some ⟨oc22, od22, .func (PySem.W.fnOf "_is_places" "_is_places" (defArgs s_is_places) (defBody s_is_places) (defScope s_is_places) .none kV22 dc22 pm22 an22 cd22 ct22), sl22⟩) (c22 : PySem.W.codeIn K cd22 "_is_places" = true) (k22 : PySem.W.keepIn K (.ref f22) = true)
    (a23 : PySem.W.nsIn K mainGlobals "_is_test" = some (some (.ref f23))) (l23 : K.lookup f23 = some ⟨oc23, od23, .func (PySem.W.fnOf "_is_test" "_is_test" (defArgs s_is_test) (defBody s_is_test) (defScope s_is_test) .none kV23 dc23 pm23 an23 cd23 ct23), sl23⟩) (c23 : PySem.W.codeIn K cd23 "_is_test" = true) (k23 : PySem.W.keepIn K (.ref f23) = true)
    (a24 : PySem.W.nsIn K mainGlobals "_is_act" = some (some (.ref f24))) (l24 : K.lookup f24 = some ⟨oc24, od24, .func (PySem.W.fnOf "_is_act" "_is_act" (defArgs s_is_act) (defBody s_is_act) (defScope s_is_act) .none kV24 dc24 pm24 an24 cd24 ct24), sl24⟩) (c24 : PySem.W.codeIn K cd24 "_is_act" = true) (k24 : PySem.W.keepIn K (.ref f24) = true)
    (a25 : PySem.W.nsIn K mainGlobals "_is_acts" = some (some (.ref f25))) (l25 : K.lookup f25 = some ⟨oc25, od25, .func (PySem.W.fnOf "_is_acts" "_is_acts" (defArgs s_is_acts) (defBody s_is_acts) (defScope s_is_acts) .none kV25 dc25 pm25 an25 cd25 ct25), sl25⟩) (c25 : PySem.W.codeIn K cd25 "_is_acts" = true) (k25 : PySem.W.keepIn K (.ref f25) = true)
    (a26 : PySem.W.nsIn K mainGlobals "_is_rule" = some (some (.ref f26))) (l26 : K.lookup f26 = some ⟨oc26, od26, .func (PySem.W.fnOf "_is_rule" "_is_rule" (defArgs s_is_rule) (defBody s_is_rule) (defScope s_is_rule) .none kV26 dc26 pm26 an26 cd26 ct26), sl26⟩) (c26 : PySem.W.codeIn K cd26 "_is_rule" = true) (k26 : PySem.W.keepIn K (.ref f26) = true)
    (a27 : PySem.W.nsIn K mainGlobals "is_rules" = some (some (.ref f27))) (l27 : K.lookup f27 = some ⟨oc27, od27, .func (PySem.W.fnOf "is_rules" "is_rules" (defArgs s_is_rules) (defBody s_is_rules) (defScope s_is_rules) .none kV27 dc27 pm27 an27 cd27 ct27), sl27⟩) (c27 : PySem.W.codeIn K cd27 "is_rules" = true) (k27 : PySem.W.keepIn K (.ref f27) = true)
    (a28 : PySem.W.nsIn K mainGlobals "_law_is_name" = some (some (.ref f28))) (l28 : K.lookup f28 = some ⟨oc28, od28, .func (PySem.W.fnOf "_law_is_name" "_law_is_name" (defArgs s_law_is_name) (defBody s_law_is_name) (defScope s_law_is_name) .none kV28 dc28 pm28 an28 cd28 ct28), sl28⟩) (c28 : PySem.W.codeIn K cd28 "_law_is_name" = true) (k28 : PySem.W.keepIn K (.ref f28) = true)
    (a29 : PySem.W.nsIn K mainGlobals "_law_is_number" = some (some (.ref f29))) (l29 : K.lookup f29 = some ⟨oc29, od29, .func (PySem.W.fnOf "_law_is_number" "_law_is_number" (defArgs s_law_is_number) (defBody s_law_is_number) (defScope s_law_is_number) .none kV29 dc29 pm29 an29 cd29 ct29), sl29⟩) (c29 : PySem.W.codeIn K cd29 "_law_is_number" = true) (k29 : PySem.W.keepIn K (.ref f29) = true)
    (a30 : PySem.W.nsIn K mainGlobals "_law_is_worth" = some (some (.ref f30))) (l30 : K.lookup f30 = some ⟨oc30, od30, .func (PySem.W.fnOf "_law_is_worth" "_law_is_worth" (defArgs s_law_is_worth) (defBody s_law_is_worth) (defScope s_law_is_worth) .none kV30 dc30 pm30 an30 cd30 ct30), sl30⟩) (c30 : PySem.W.codeIn K cd30 "_law_is_worth" = true) (k30 : PySem.W.keepIn K (.ref f30) = true)
    (a31 : PySem.W.nsIn K mainGlobals "_law_named" = some (some (.ref f31))) (l31 : K.lookup f31 = some ⟨oc31, od31, .func (PySem.W.fnOf "_law_named" "_law_named" (defArgs s_law_named) (defBody s_law_named) (defScope s_law_named) .none kV31 dc31 pm31 an31 cd31 ct31), sl31⟩) (c31 : PySem.W.codeIn K cd31 "_law_named" = true) (k31 : PySem.W.keepIn K (.ref f31) = true)
    (a32 : PySem.W.nsIn K mainGlobals "_law_is_place" = some (some (.ref f32))) (l32 : K.lookup f32 = some ⟨oc32, od32, .func (PySem.W.fnOf "_law_is_place" "_law_is_place" (defArgs s_law_is_place) (defBody s_law_is_place) (defScope s_law_is_place) .none kV32 dc32 pm32 an32 cd32 ct32), sl32⟩) (c32 : PySem.W.codeIn K cd32 "_law_is_place" = true) (k32 : PySem.W.keepIn K (.ref f32) = true)
    (a33 : PySem.W.nsIn K mainGlobals "_law_are_places" = some (some (.ref f33))) (l33 : K.lookup f33 = some ⟨oc33, od33, .func (PySem.W.fnOf "_law_are_places" "_law_are_places" (defArgs s_law_are_places) (defBody s_law_are_places) (defScope s_law_are_places) .none kV33 dc33 pm33 an33 cd33 ct33), sl33⟩) (c33 : PySem.W.codeIn K cd33 "_law_are_places" = true) (k33 : PySem.W.keepIn K (.ref f33) = true)
    (a34 : PySem.W.nsIn K mainGlobals "_law_is_act" = some (some (.ref f34))) (l34 : K.lookup f34 = some ⟨oc34, od34, .func (PySem.W.fnOf "_law_is_act" "_law_is_act" (defArgs s_law_is_act) (defBody s_law_is_act) (defScope s_law_is_act) .none kV34 dc34 pm34 an34 cd34 ct34), sl34⟩) (c34 : PySem.W.codeIn K cd34 "_law_is_act" = true) (k34 : PySem.W.keepIn K (.ref f34) = true)
    (a35 : PySem.W.nsIn K mainGlobals "_law_is_rule" = some (some (.ref f35))) (l35 : K.lookup f35 = some ⟨oc35, od35, .func (PySem.W.fnOf "_law_is_rule" "_law_is_rule" (defArgs s_law_is_rule) (defBody s_law_is_rule) (defScope s_law_is_rule) .none kV35 dc35 pm35 an35 cd35 ct35), sl35⟩) (c35 : PySem.W.codeIn K cd35 "_law_is_rule" = true) (k35 : PySem.W.keepIn K (.ref f35) = true)
    (a36 : PySem.W.nsIn K mainGlobals "_law_is_rules" = some (some (.ref f36))) (l36 : K.lookup f36 = some ⟨oc36, od36, .func (PySem.W.fnOf "_law_is_rules" "_law_is_rules" (defArgs s_law_is_rules) (defBody s_law_is_rules) (defScope s_law_is_rules) .none kV36 dc36 pm36 an36 cd36 ct36), sl36⟩) (c36 : PySem.W.codeIn K cd36 "_law_is_rules" = true) (k36 : PySem.W.keepIn K (.ref f36) = true)
    (a37 : PySem.W.nsIn K mainGlobals "_law_told_right" = some (some (.ref f37))) (l37 : K.lookup f37 = some ⟨oc37, od37, .func (PySem.W.fnOf "_law_told_right" "_law_told_right" (defArgs s_law_told_right) (defBody s_law_told_right) (defScope s_law_told_right) .none kV37 dc37 pm37 an37 cd37 ct37), sl37⟩) (c37 : PySem.W.codeIn K cd37 "_law_told_right" = true) (k37 : PySem.W.keepIn K (.ref f37) = true)
    (a38 : PySem.W.nsIn K mainGlobals "_law_others" = some (some (.ref f38))) (l38 : K.lookup f38 = some ⟨oc38, od38, .func (PySem.W.fnOf "_law_others" "_law_others" (defArgs s_law_others) (defBody s_law_others) (defScope s_law_others) .none kV38 dc38 pm38 an38 cd38 ct38), sl38⟩) (c38 : PySem.W.codeIn K cd38 "_law_others" = true) (k38 : PySem.W.keepIn K (.ref f38) = true)
    (a39 : PySem.W.nsIn K mainGlobals "_law_right" = some (some (.ref f39))) (l39 : K.lookup f39 = some ⟨oc39, od39, .func (PySem.W.fnOf "_law_right" "_law_right" (defArgs s_law_right) (defBody s_law_right) (defScope s_law_right) .none kV39 dc39 pm39 an39 cd39 ct39), sl39⟩) (c39 : PySem.W.codeIn K cd39 "_law_right" = true) (k39 : PySem.W.keepIn K (.ref f39) = true)
    (a40 : PySem.W.nsIn K mainGlobals "law" = some (some (.ref f40))) (l40 : K.lookup f40 = some ⟨oc40, od40, .func (PySem.W.fnOf "law" "law" (defArgs s_law) (defBody s_law) (defScope s_law) .none kV40 dc40 pm40 an40 cd40 ct40), sl40⟩) (c40 : PySem.W.codeIn K cd40 "law" = true) (k40 : PySem.W.keepIn K (.ref f40) = true)
    (z_list : PySem.W.nsIn K mainGlobals "list" = some none)
    (z_len : PySem.W.nsIn K mainGlobals "len" = some none)
    (z_divmod : PySem.W.nsIn K mainGlobals "divmod" = some none)
    (z_range : PySem.W.nsIn K mainGlobals "range" = some none)
    (z_min : PySem.W.nsIn K mainGlobals "min" = some none)
    (z_int : PySem.W.nsIn K mainGlobals "int" = some none)
    (z_bool : PySem.W.nsIn K mainGlobals "bool" = some none)
    (z_str : PySem.W.nsIn K mainGlobals "str" = some none)
    (z_tuple : PySem.W.nsIn K mainGlobals "tuple" = some none)
    (z_all : PySem.W.nsIn K mainGlobals "all" = some none)
    (z_any : PySem.W.nsIn K mainGlobals "any" = some none)
    (z_repr : PySem.W.nsIn K mainGlobals "repr" = some none)
    (z_isinstance : PySem.W.nsIn K mainGlobals "isinstance" = some none)
    (z_zip : PySem.W.nsIn K mainGlobals "zip" = some none)
    (z_enumerate : PySem.W.nsIn K mainGlobals "enumerate" = some none)
    (z_set : PySem.W.nsIn K mainGlobals "set" = some none)
    (z_sum : PySem.W.nsIn K mainGlobals "sum" = some none)
    (z_sorted : PySem.W.nsIn K mainGlobals "sorted" = some none)
    (z_max : PySem.W.nsIn K mainGlobals "max" = some none)
    (z_abs : PySem.W.nsIn K mainGlobals "abs" = some none)
    (z_dict : PySem.W.nsIn K mainGlobals "dict" = some none)
    (g_MOST_LETTERS : ∃ u, PySem.W.nsIn K mainGlobals "MOST_LETTERS" = some (some (.int 8 u)))
    (g_MOST_NUMBER : ∃ u, PySem.W.nsIn K mainGlobals "MOST_NUMBER" = some (some (.int 1000000000 u)))
    (g_MOST_RULES : ∃ u, PySem.W.nsIn K mainGlobals "MOST_RULES" = some (some (.int 8 u)))
    (g_RULE_PARTS : ∃ u, PySem.W.nsIn K mainGlobals "RULE_PARTS" = some (some (.int 7 u)))
    (g_MOST_ACTS : ∃ u, PySem.W.nsIn K mainGlobals "MOST_ACTS" = some (some (.int 3 u)))
    {a_SIDES : Addr} {d_SIDES : Option Addr} {its_SIDES : Array Value} {n_SIDES : Nat} {sl_SIDES : Array (Option Value)} (t_SIDES : PySem.W.nsIn K mainGlobals "SIDES" = some (some (.ref a_SIDES))) (o_SIDES : K.lookup a_SIDES = some ⟨.type "tuple", d_SIDES, .seq its_SIDES n_SIDES, sl_SIDES⟩) (v_SIDES : Vals (sides3.map V.str) its_SIDES.toList) (s_SIDES : its_SIDES.size ≤ sizeLine)
    {a_KINDS : Addr} {d_KINDS : Option Addr} {its_KINDS : Array Value} {n_KINDS : Nat} {sl_KINDS : Array (Option Value)} (t_KINDS : PySem.W.nsIn K mainGlobals "KINDS" = some (some (.ref a_KINDS))) (o_KINDS : K.lookup a_KINDS = some ⟨.type "tuple", d_KINDS, .seq its_KINDS n_KINDS, sl_KINDS⟩) (v_KINDS : Vals (kinds3.map V.str) its_KINDS.toList) (s_KINDS : its_KINDS.size ≤ sizeLine)
    {a_SIGNS : Addr} {d_SIGNS : Option Addr} {its_SIGNS : Array Value} {n_SIGNS : Nat} {sl_SIGNS : Array (Option Value)} (t_SIGNS : PySem.W.nsIn K mainGlobals "SIGNS" = some (some (.ref a_SIGNS))) (o_SIGNS : K.lookup a_SIGNS = some ⟨.type "tuple", d_SIGNS, .seq its_SIGNS n_SIGNS, sl_SIGNS⟩) (v_SIGNS : Vals (signs3.map V.str) its_SIGNS.toList) (s_SIGNS : its_SIGNS.size ≤ sizeLine)
    : ∃ fd : FuncData, (∀ (s : Shared) (v : Value), BindsTo s fd ⟨[v], []⟩ [("script", v)]) ∧ ∀ base : Heap, K.In base → base.Ns mainGlobals mg → FnG l.prog w K mg base CX0 12 fa fd ["script"] (spLaw K) := by
  have e := hfa.symm.trans (PySem.W.mg_of X G a40)
  cases e
  have nb : NB mg := ⟨PySem.W.mg_none_of X G z_list, PySem.W.mg_none_of X G z_len, PySem.W.mg_none_of X G z_divmod, PySem.W.mg_none_of X G z_range, PySem.W.mg_none_of X G z_min, PySem.W.mg_none_of X G z_int, PySem.W.mg_none_of X G z_bool, PySem.W.mg_none_of X G z_str, PySem.W.mg_none_of X G z_tuple, PySem.W.mg_none_of X G z_all, PySem.W.mg_none_of X G z_any, PySem.W.mg_none_of X G z_repr, PySem.W.mg_none_of X G z_isinstance, PySem.W.mg_none_of X G z_zip, PySem.W.mg_none_of X G z_enumerate, PySem.W.mg_none_of X G z_set, PySem.W.mg_none_of X G z_sum, PySem.W.mg_none_of X G z_sorted, PySem.W.mg_none_of X G z_max⟩
  have nX : NX mg := ⟨PySem.W.mg_none_of X G z_abs⟩
  have nD : ND mg := ⟨PySem.W.mg_none_of X G z_dict⟩
  have gc : GC mg := ⟨(let ⟨u, hu⟩ := g_MOST_LETTERS; ⟨u, PySem.W.mg_of X G hu⟩), (let ⟨u, hu⟩ := g_MOST_NUMBER; ⟨u, PySem.W.mg_of X G hu⟩), (let ⟨u, hu⟩ := g_MOST_RULES; ⟨u, PySem.W.mg_of X G hu⟩), (let ⟨u, hu⟩ := g_RULE_PARTS; ⟨u, PySem.W.mg_of X G hu⟩), (let ⟨u, hu⟩ := g_MOST_ACTS; ⟨u, PySem.W.mg_of X G hu⟩)⟩
  have gt : GT K mg := ⟨⟨a_SIDES, PySem.W.mg_of X G t_SIDES, fun _ => .inr ⟨_, _, _, o_SIDES, rfl, rfl, s_SIDES, v_SIDES⟩⟩, ⟨a_KINDS, PySem.W.mg_of X G t_KINDS, fun _ => .inr ⟨_, _, _, o_KINDS, rfl, rfl, s_KINDS, v_KINDS⟩⟩, ⟨a_SIGNS, PySem.W.mg_of X G t_SIGNS, fun _ => .inr ⟨_, _, _, o_SIGNS, rfl, rfl, s_SIGNS, v_SIGNS⟩⟩⟩
  refine ⟨PySem.W.fnOf "law" "law" (defArgs s_law) (defBody s_law) (defScope s_law) .none kV40 dc40 pm40 an40 cd40 ct40, fun s v => .of_eq rfl, fun base _ _ => ?_⟩
  have F1 := fun_mk (st := s_law_box) l1 c1 k1
  have b1 := F1.binds (ps := ["cells", "k"]) fun _ _ _ _ _ _ us hl => match us, hl with | [_, _], _ => rfl
  have D_law_box : Def l.prog w K mg base 1 "_law_box" ["cells", "k"] (spBox K) := .mk (PySem.W.mg_of X G a1) k1 b1 (ok_box F1 nb nX)
  have F2 := fun_mk (st := s_law_take) l2 c2 k2
  have b2 := F2.binds (ps := ["box", "many"]) fun _ _ _ _ _ _ us hl => match us, hl with | [_, _], _ => rfl
  have D_law_take : Def l.prog w K mg base 1 "_law_take" ["box", "many"] spTakeB := .mk (PySem.W.mg_of X G a2) k2 b2 (ok_take F2)
  have F3 := fun_mk (st := s_law_cells) l3 c3 k3
  have b3 := F3.binds (ps := ["script", "most"]) fun _ _ _ _ _ _ us hl => match us, hl with | [_, _], _ => rfl
  have D_law_cells : Def l.prog w K mg base 1 "_law_cells" ["script", "most"] (spCells K) := .mk (PySem.W.mg_of X G a3) k3 b3 (ok_cells F3 nb)
  have F4 := fun_mk (st := s_law_names) l4 c4 k4
  have b4 := F4.binds (ps := ["box", "many"]) fun _ _ _ _ _ _ us hl => match us, hl with | [_, _], _ => rfl
  have D_law_names : Def l.prog w K mg base 2 "_law_names" ["box", "many"] spNamesB := .mk (PySem.W.mg_of X G a4) k4 b4 (ok_names F4 nb D_law_take)
  have F5 := fun_mk (st := s_law_worth) l5 c5 k5
  have b5 := F5.binds (ps := ["box"]) fun _ _ _ _ _ _ us hl => match us, hl with | [_], _ => rfl
  have D_law_worth : Def l.prog w K mg base 2 "_law_worth" ["box"] spWorthB := .mk (PySem.W.mg_of X G a5) k5 b5 (ok_worth F5 D_law_take)
  have F6 := fun_mk (st := s_law_one_of) l6 c6 k6
  have b6 := F6.binds (ps := ["box", "some"]) fun _ _ _ _ _ _ us hl => match us, hl with | [_, _], _ => rfl
  have D_law_one_of : Def l.prog w K mg base 2 "_law_one_of" ["box", "some"] (spOneOf K) := .mk (PySem.W.mg_of X G a6) k6 b6 (ok_one_of F6 nb D_law_take)
  have F7 := fun_mk (st := s_law_tables) l7 c7 k7
  have b7 := F7.binds (ps := ["box", "most"]) fun _ _ _ _ _ _ us hl => match us, hl with | [_, _], _ => rfl
  have D_law_tables : Def l.prog w K mg base 3 "_law_tables" ["box", "most"] (spTablesB K) := .mk (PySem.W.mg_of X G a7) k7 b7 (ok_tables F7 nb D_law_take D_law_names D_law_worth)
  have F8 := fun_mk (st := s_law_place) l8 c8 k8
  have b8 := F8.binds (ps := ["box", "head", "columns"]) fun _ _ _ _ _ _ us hl => match us, hl with | [_, _, _], _ => rfl
  have D_law_place : Def l.prog w K mg base 3 "_law_place" ["box", "head", "columns"] (spPlace K) := .mk (PySem.W.mg_of X G a8) k8 b8 (ok_place F8 D_law_take D_law_worth D_law_one_of)
  have F9 := fun_mk (st := s_law_act) l9 c9 k9
  have b9 := F9.binds (ps := ["box", "tables", "head", "columns"]) fun _ _ _ _ _ _ us hl => match us, hl with | [_, _, _, _], _ => rfl
  have D_law_act : Def l.prog w K mg base 4 "_law_act" ["box", "tables", "head", "columns"] (spAct K) := .mk (PySem.W.mg_of X G a9) k9 b9 (ok_act F9 nb D_law_one_of D_law_place)
  have F10 := fun_mk (st := s_law_rules) l10 c10 k10
  have b10 := F10.binds (ps := ["box", "tables", "most"]) fun _ _ _ _ _ _ us hl => match us, hl with | [_, _, _], _ => rfl
  have D_law_rules : Def l.prog w K mg base 5 "_law_rules" ["box", "tables", "most"] (spRules K) := .mk (PySem.W.mg_of X G a10) k10 b10 (ok_rules F10 nb D_law_take D_law_names D_law_one_of D_law_place D_law_act)
  have F11 := fun_mk (st := s_table_names) l11 c11 k11
  have b11 := F11.binds (ps := ["tables"]) fun _ _ _ _ _ _ us hl => match us, hl with | [_], _ => rfl
  have D_table_names : Def l.prog w K mg base 1 "table_names" ["tables"] (spNamesOf K) := .mk (PySem.W.mg_of X G a11) k11 b11 (ok_table_names F11)
  have F12 := fun_mk (st := s_columns_of) l12 c12 k12
  have b12 := F12.binds (ps := ["tables", "table"]) fun _ _ _ _ _ _ us hl => match us, hl with | [_, _], _ => rfl
  have D_columns_of : Def l.prog w K mg base 1 "_columns_of" ["tables", "table"] (spColumnsOf K) := .mk (PySem.W.mg_of X G a12) k12 b12 (ok_columns_of F12)
  have F13 := fun_mk (st := s_column_names) l13 c13 k13
  have b13 := F13.binds (ps := ["tables", "table"]) fun _ _ _ _ _ _ us hl => match us, hl with | [_, _], _ => rfl
  have D_column_names : Def l.prog w K mg base 2 "column_names" ["tables", "table"] (spColNames K) := .mk (PySem.W.mg_of X G a13) k13 b13 (ok_column_names F13 D_columns_of)
  have F14 := fun_mk (st := s_is_tuple) l14 c14 k14
  have b14 := F14.binds (ps := ["thing", "least", "most"]) fun _ _ _ _ _ _ us hl => match us, hl with | [_, _, _], _ => rfl
  have D_is_tuple : Def l.prog w K mg base 1 "is_tuple" ["thing", "least", "most"] (spTup K) := .mk (PySem.W.mg_of X G a14) k14 b14 (ok_is_tuple F14 nb)
  have F15 := fun_mk (st := s_is_number) l15 c15 k15
  have b15 := F15.binds (ps := ["thing"]) fun _ _ _ _ _ _ us hl => match us, hl with | [_], _ => rfl
  have D_is_number : Def l.prog w K mg base 1 "is_number" ["thing"] (spB numB K) := .mk (PySem.W.mg_of X G a15) k15 b15 (ok_is_number F15 nb)
  have F16 := fun_mk (st := s_is_bounded) l16 c16 k16
  have b16 := F16.binds (ps := ["thing"]) fun _ _ _ _ _ _ us hl => match us, hl with | [_], _ => rfl
  have D_is_bounded : Def l.prog w K mg base 2 "is_bounded" ["thing"] (spB boundB K) := .mk (PySem.W.mg_of X G a16) k16 b16 (ok_is_bounded F16 gc D_is_number)
  have F17 := fun_mk (st := s_is_worth) l17 c17 k17
  have b17 := F17.binds (ps := ["thing"]) fun _ _ _ _ _ _ us hl => match us, hl with | [_], _ => rfl
  have D_is_worth : Def l.prog w K mg base 3 "is_worth" ["thing"] (spB worthB K) := .mk (PySem.W.mg_of X G a17) k17 b17 (ok_is_worth F17 D_is_bounded)
  have F18 := fun_mk (st := s_are_unlike) l18 c18 k18
  have b18 := F18.binds (ps := ["names"]) fun _ _ _ _ _ _ us hl => match us, hl with | [_], _ => rfl
  have D_are_unlike : Def l.prog w K mg base 1 "are_unlike" ["names"] (spUnlike K) := .mk (PySem.W.mg_of X G a18) k18 b18 (ok_are_unlike F18 nb)
  have F19 := fun_mk (st := s_is_name) l19 c19 k19
  have b19 := F19.binds (ps := ["thing"]) fun _ _ _ _ _ _ us hl => match us, hl with | [_], _ => rfl
  have D_is_name : Def l.prog w K mg base 1 "is_name" ["thing"] (spB nameB K) := .mk (PySem.W.mg_of X G a19) k19 b19 (ok_is_name F19 nb gc)
  have F20 := fun_mk (st := s_places_read) l20 c20 k20
  have b20 := F20.binds (ps := ["side", "kind", "columns"]) fun _ _ _ _ _ _ us hl => match us, hl with | [_, _, _], _ => rfl
  have D_places_read : Def l.prog w K mg base 1 "_places_read" ["side", "kind", "columns"] (spPlacesRead K) := .mk (PySem.W.mg_of X G a20) k20 b20 (ok_places_read F20)
  have F21 := fun_mk (st := s_is_place) l21 c21 k21
  have b21 := F21.binds (ps := ["read", "thing"]) fun _ _ _ _ _ _ us hl => match us, hl with | [_, _], _ => rfl
  have D_is_place : Def l.prog w K mg base 4 "_is_place" ["read", "thing"] (spPl K) := .mk (PySem.W.mg_of X G a21) k21 b21 (ok_is_place F21 D_is_worth)
  have F22 := fun_mk (st := s_is_places) l22 c22 k22
  have b22 := F22.binds (ps := ["read", "many", "thing"]) fun _ _ _ _ _ _ us hl => match us, hl with | [_, _, _], _ => rfl
  have D_is_places : Def l.prog w K mg base 5 "_is_places" ["read", "many", "thing"] (spPls K) := .mk (PySem.W.mg_of X G a22) k22 b22 (ok_is_places F22 nb D_is_tuple D_is_place)
  have F23 := fun_mk (st := s_is_test) l23 c23 k23
  have b23 := F23.binds (ps := ["read", "side", "thing"]) fun _ _ _ _ _ _ us hl => match us, hl with | [_, _, _], _ => rfl
  have D_is_test : Def l.prog w K mg base 5 "_is_test" ["read", "side", "thing"] (spTest K) := .mk (PySem.W.mg_of X G a23) k23 b23 (ok_is_test F23 gt D_is_tuple D_is_place)
  have F24 := fun_mk (st := s_is_act) l24 c24 k24
  have b24 := F24.binds (ps := ["tables", "read", "thing"]) fun _ _ _ _ _ _ us hl => match us, hl with | [_, _, _], _ => rfl
  have D_is_act : Def l.prog w K mg base 6 "_is_act" ["tables", "read", "thing"] (spActs actB K) := .mk (PySem.W.mg_of X G a24) k24 b24 (ok_is_act F24 nb D_is_tuple D_table_names D_column_names D_is_place D_is_places)
  have F25 := fun_mk (st := s_is_acts) l25 c25 k25
  have b25 := F25.binds (ps := ["tables", "read", "side", "thing"]) fun _ _ _ _ _ _ us hl => match us, hl with | [_, _, _, _], _ => rfl
  have D_is_acts : Def l.prog w K mg base 7 "_is_acts" ["tables", "read", "side", "thing"] (spActsS K) := .mk (PySem.W.mg_of X G a25) k25 b25 (ok_is_acts F25 nb gc D_is_tuple D_is_act)
  have F26 := fun_mk (st := s_is_rule) l26 c26 k26
  have b26 := F26.binds (ps := ["tables", "thing"]) fun _ _ _ _ _ _ us hl => match us, hl with | [_, _], _ => rfl
  have D_is_rule : Def l.prog w K mg base 8 "_is_rule" ["tables", "thing"] (spTs ruleB K) := .mk (PySem.W.mg_of X G a26) k26 b26 (ok_is_rule F26 nb gc gt D_is_tuple D_is_name D_table_names D_column_names D_places_read D_is_test D_is_acts)
  have F27 := fun_mk (st := s_is_rules) l27 c27 k27
  have b27 := F27.binds (ps := ["tables", "thing"]) fun _ _ _ _ _ _ us hl => match us, hl with | [_, _], _ => rfl
  have D_is_rules : Def l.prog w K mg base 9 "is_rules" ["tables", "thing"] (spTs rulesB K) := .mk (PySem.W.mg_of X G a27) k27 b27 (ok_is_rules F27 nb gc D_is_tuple D_is_rule D_are_unlike)
  have F28 := fun_mk (st := s_law_is_name) l28 c28 k28
  have b28 := F28.binds (ps := ["thing"]) fun _ _ _ _ _ _ us hl => match us, hl with | [_], _ => rfl
  have D_law_is_name : Def l.prog w K mg base 1 "_law_is_name" ["thing"] (spB nameB K) := .mk (PySem.W.mg_of X G a28) k28 b28 (ok_law_is_name F28 nb)
  have F29 := fun_mk (st := s_law_is_number) l29 c29 k29
  have b29 := F29.binds (ps := ["thing", "least", "most"]) fun _ _ _ _ _ _ us hl => match us, hl with | [_, _, _], _ => rfl
  have D_law_is_number : Def l.prog w K mg base 1 "_law_is_number" ["thing", "least", "most"] (spNum K) := .mk (PySem.W.mg_of X G a29) k29 b29 (ok_law_is_number F29 nb)
  have F30 := fun_mk (st := s_law_is_worth) l30 c30 k30
  have b30 := F30.binds (ps := ["thing"]) fun _ _ _ _ _ _ us hl => match us, hl with | [_], _ => rfl
  have D_law_is_worth : Def l.prog w K mg base 2 "_law_is_worth" ["thing"] (spB worthB K) := .mk (PySem.W.mg_of X G a30) k30 b30 (ok_law_is_worth F30 D_law_is_number)
  have F31 := fun_mk (st := s_law_named) l31 c31 k31
  have b31 := F31.binds (ps := ["tables"]) fun _ _ _ _ _ _ us hl => match us, hl with | [_], _ => rfl
  have D_law_named : Def l.prog w K mg base 1 "_law_named" ["tables"] (spNamed K) := .mk (PySem.W.mg_of X G a31) k31 b31 (ok_law_named F31)
  have F32 := fun_mk (st := s_law_is_place) l32 c32 k32
  have b32 := F32.binds (ps := ["tables", "head", "thing"]) fun _ _ _ _ _ _ us hl => match us, hl with | [_, _, _], _ => rfl
  have D_law_is_place : Def l.prog w K mg base 3 "_law_is_place" ["tables", "head", "thing"] (spLPlace K) := .mk (PySem.W.mg_of X G a32) k32 b32 (ok_law_is_place F32 nb nD D_law_is_worth D_law_named)
  have F33 := fun_mk (st := s_law_are_places) l33 c33 k33
  have b33 := F33.binds (ps := ["tables", "head", "some"]) fun _ _ _ _ _ _ us hl => match us, hl with | [_, _, _], _ => rfl
  have D_law_are_places : Def l.prog w K mg base 4 "_law_are_places" ["tables", "head", "some"] (spLPlaces K) := .mk (PySem.W.mg_of X G a33) k33 b33 (ok_law_are_places F33 nb D_law_is_place)
  have F34 := fun_mk (st := s_law_is_act) l34 c34 k34
  have b34 := F34.binds (ps := ["tables", "head", "act"]) fun _ _ _ _ _ _ us hl => match us, hl with | [_, _, _], _ => rfl
  have D_law_is_act : Def l.prog w K mg base 5 "_law_is_act" ["tables", "head", "act"] (spLAct K) := .mk (PySem.W.mg_of X G a34) k34 b34 (ok_law_is_act F34 nb nD D_law_named D_law_is_place D_law_are_places)
  have F35 := fun_mk (st := s_law_is_rule) l35 c35 k35
  have b35 := F35.binds (ps := ["tables", "rule"]) fun _ _ _ _ _ _ us hl => match us, hl with | [_, _], _ => rfl
  have D_law_is_rule : Def l.prog w K mg base 6 "_law_is_rule" ["tables", "rule"] (spTs ruleB K) := .mk (PySem.W.mg_of X G a35) k35 b35 (ok_law_is_rule F35 nb nD D_law_named D_law_is_name D_law_is_place D_law_is_act)
  have F36 := fun_mk (st := s_law_is_rules) l36 c36 k36
  have b36 := F36.binds (ps := ["tables", "thing"]) fun _ _ _ _ _ _ us hl => match us, hl with | [_, _], _ => rfl
  have D_law_is_rules : Def l.prog w K mg base 7 "_law_is_rules" ["tables", "thing"] (spTs rulesB K) := .mk (PySem.W.mg_of X G a36) k36 b36 (ok_law_is_rules F36 nb D_law_is_rule)
  have F37 := fun_mk (st := s_law_told_right) l37 c37 k37
  have b37 := F37.binds (ps := ["tables", "thing"]) fun _ _ _ _ _ _ us hl => match us, hl with | [_, _], _ => rfl
  have D_law_told_right : DefG l.prog w K mg base 10 "_law_told_right" ["tables", "thing"] (spToldR K) := .mk (PySem.W.mg_of X G a37) k37 b37 (ok_law_told_right F37 nb D_is_rules D_law_is_rules)
  have F38 := fun_mk (st := s_law_others) l38 c38 k38
  have b38 := F38.binds (ps := ["box", "tables", "rules", "rule"]) fun _ _ _ _ _ _ us hl => match us, hl with | [_, _, _, _], _ => rfl
  have D_law_others : Def l.prog w K mg base 3 "_law_others" ["box", "tables", "rules", "rule"] (spOthers K) := .mk (PySem.W.mg_of X G a38) k38 b38 (ok_others F38 nb D_law_one_of)
  have F39 := fun_mk (st := s_law_right) l39 c39 k39
  have b39 := F39.binds (ps := ["box"]) fun _ _ _ _ _ _ us hl => match us, hl with | [_], _ => rfl
  have D_law_right : DefG l.prog w K mg base 11 "_law_right" ["box"] (spRight K) := .mk (PySem.W.mg_of X G a39) k39 b39 (ok_right F39 nb D_law_tables D_law_names D_law_rules D_is_rules D_law_others D_law_told_right)
  have F40 := fun_mk (st := s_law) l40 c40 k40
  exact ok_law F40 nb D_law_cells D_law_box D_law_right
end TT
open PySem PySem.W PyProof.Rows
set_option maxRecDepth 100000 in
set_option maxHeartbeats 0 in
theorem PySem.Challenge.cw_tiedtables_k33_what_rules_are_holds : PySem.Challenge.rw_tiedtables_k33_what_rules_are.Holds := by
  w_on; o_law; k_head; (case hw => w_witness2)
  k_fill
  refine TT.walk_ofG (l := PySem.Challenge.rw_tiedtables_k33_what_rules_are) (n := 63) (k := 12) (x := "script") (sp := TT.spLaw) rfl (by decide) rfl ⟨rfl, by decide, by decide⟩ (fun w h Y => PySem.W.kIn_of Y) ?F (fun K H a ns hl hO hS => ⟨a, ns, rfl, hS, hl, fun _ => rfl⟩)
  case F =>
    intro w mg fa h KX G hmg
    refine' TT.all_mk KX G hmg ?a1 ?l1 ?c1 ?k1 ?a2 ?l2 ?c2 ?k2 ?a3 ?l3 ?c3 ?k3 ?a4 ?l4 ?c4 ?k4 ?a5 ?l5 ?c5 ?k5 ?a6 ?l6 ?c6 ?k6 ?a7 ?l7 ?c7 ?k7 ?a8 ?l8 ?c8 ?k8 ?a9 ?l9 ?c9 ?k9 ?a10 ?l10 ?c10 ?k10 ?a11 ?l11 ?c11 ?k11 ?a12 ?l12 ?c12 ?k12 ?a13 ?l13 ?c13 ?k13 ?a14 ?l14 ?c14 ?k14 ?a15 ?l15 ?c15 ?k15 ?a16 ?l16 ?c16 ?k16 ?a17 ?l17 ?c17 ?k17 ?a18 ?l18 ?c18 ?k18 ?a19 ?l19 ?c19 ?k19 ?a20 ?l20 ?c20 ?k20 ?a21 ?l21 ?c21 ?k21 ?a22 ?l22 ?c22 ?k22 ?a23 ?l23 ?c23 ?k23 ?a24 ?l24 ?c24 ?k24 ?a25 ?l25 ?c25 ?k25 ?a26 ?l26 ?c26 ?k26 ?a27 ?l27 ?c27 ?k27 ?a28 ?l28 ?c28 ?k28 ?a29 ?l29 ?c29 ?k29 ?a30 ?l30 ?c30 ?k30 ?a31 ?l31 ?c31 ?k31 ?a32 ?l32 ?c32 ?k32 ?a33 ?l33 ?c33 ?k33 ?a34 ?l34 ?c34 ?k34 ?a35 ?l35 ?c35 ?k35 ?a36 ?l36 ?c36 ?k36 ?a37 ?l37 ?c37 ?k37 ?a38 ?l38 ?c38 ?k38 ?a39 ?l39 ?c39 ?k39 ?a40 ?l40 ?c40 ?k40 ?z_list ?z_len ?z_divmod ?z_range ?z_min ?z_int ?z_bool ?z_str ?z_tuple ?z_all ?z_any ?z_repr ?z_isinstance ?z_zip ?z_enumerate ?z_set ?z_sum ?z_sorted ?z_max ?z_abs ?z_dict ?g_MOST_LETTERS ?g_MOST_NUMBER ?g_MOST_RULES ?g_RULE_PARTS ?g_MOST_ACTS ?t_SIDES ?o_SIDES ?v_SIDES ?s_SIDES ?t_KINDS ?o_KINDS ?v_KINDS ?s_KINDS ?t_SIGNS ?o_SIGNS ?v_SIGNS ?s_SIGNS
    (case a1 => k_is)
    (case l1 => k_is)
    (case c1 => k_is)
    (case k1 => k_is)
    (case a2 => k_is)
    (case l2 => k_is)
    (case c2 => k_is)
    (case k2 => k_is)
    (case a3 => k_is)
    (case l3 => k_is)
    (case c3 => k_is)
    (case k3 => k_is)
    (case a4 => k_is)
    (case l4 => k_is)
    (case c4 => k_is)
    (case k4 => k_is)
    (case a5 => k_is)
    (case l5 => k_is)
    (case c5 => k_is)
    (case k5 => k_is)
    (case a6 => k_is)
    (case l6 => k_is)
    (case c6 => k_is)
    (case k6 => k_is)
    (case a7 => k_is)
    (case l7 => k_is)
    (case c7 => k_is)
    (case k7 => k_is)
    (case a8 => k_is)
    (case l8 => k_is)
    (case c8 => k_is)
    (case k8 => k_is)
    (case a9 => k_is)
    (case l9 => k_is)
    (case c9 => k_is)
    (case k9 => k_is)
    (case a10 => k_is)
    (case l10 => k_is)
    (case c10 => k_is)
    (case k10 => k_is)
    (case a11 => k_is)
    (case l11 => k_is)
    (case c11 => k_is)
    (case k11 => k_is)
    (case a12 => k_is)
    (case l12 => k_is)
    (case c12 => k_is)
    (case k12 => k_is)
    (case a13 => k_is)
    (case l13 => k_is)
    (case c13 => k_is)
    (case k13 => k_is)
    (case a14 => k_is)
    (case l14 => k_is)
    (case c14 => k_is)
    (case k14 => k_is)
    (case a15 => k_is)
    (case l15 => k_is)
    (case c15 => k_is)
    (case k15 => k_is)
    (case a16 => k_is)
    (case l16 => k_is)
    (case c16 => k_is)
    (case k16 => k_is)
    (case a17 => k_is)
    (case l17 => k_is)
    (case c17 => k_is)
    (case k17 => k_is)
    (case a18 => k_is)
    (case l18 => k_is)
    (case c18 => k_is)
    (case k18 => k_is)
    (case a19 => k_is)
    (case l19 => k_is)
    (case c19 => k_is)
    (case k19 => k_is)
    (case a20 => k_is)
    (case l20 => k_is)
    (case c20 => k_is)
    (case k20 => k_is)
    (case a21 => k_is)
    (case l21 => k_is)
    (case c21 => k_is)
    (case k21 => k_is)
    (case a22 => k_is)
    (case l22 => k_is)
    (case c22 => k_is)
    (case k22 => k_is)
    (case a23 => k_is)
    (case l23 => k_is)
    (case c23 => k_is)
    (case k23 => k_is)
    (case a24 => k_is)
    (case l24 => k_is)
    (case c24 => k_is)
    (case k24 => k_is)
    (case a25 => k_is)
    (case l25 => k_is)
    (case c25 => k_is)
    (case k25 => k_is)
    (case a26 => k_is)
    (case l26 => k_is)
    (case c26 => k_is)
    (case k26 => k_is)
    (case a27 => k_is)
    (case l27 => k_is)
    (case c27 => k_is)
    (case k27 => k_is)
    (case a28 => k_is)
    (case l28 => k_is)
    (case c28 => k_is)
    (case k28 => k_is)
    (case a29 => k_is)
    (case l29 => k_is)
    (case c29 => k_is)
    (case k29 => k_is)
    (case a30 => k_is)
    (case l30 => k_is)
    (case c30 => k_is)
    (case k30 => k_is)
    (case a31 => k_is)
    (case l31 => k_is)
    (case c31 => k_is)
    (case k31 => k_is)
    (case a32 => k_is)
    (case l32 => k_is)
    (case c32 => k_is)
    (case k32 => k_is)
    (case a33 => k_is)
    (case l33 => k_is)
    (case c33 => k_is)
    (case k33 => k_is)
    (case a34 => k_is)
    (case l34 => k_is)
    (case c34 => k_is)
    (case k34 => k_is)
    (case a35 => k_is)
    (case l35 => k_is)
    (case c35 => k_is)
    (case k35 => k_is)
    (case a36 => k_is)
    (case l36 => k_is)
    (case c36 => k_is)
    (case k36 => k_is)
    (case a37 => k_is)
    (case l37 => k_is)
    (case c37 => k_is)
    (case k37 => k_is)
    (case a38 => k_is)
    (case l38 => k_is)
    (case c38 => k_is)
    (case k38 => k_is)
    (case a39 => k_is)
    (case l39 => k_is)
    (case c39 => k_is)
    (case k39 => k_is)
    (case a40 => k_is)
    (case l40 => k_is)
    (case c40 => k_is)
    (case k40 => k_is)
    (case z_list => k_is)
    (case z_len => k_is)
    (case z_divmod => k_is)
    (case z_range => k_is)
    (case z_min => k_is)
    (case z_int => k_is)
    (case z_bool => k_is)
    (case z_str => k_is)
    (case z_tuple => k_is)
    (case z_all => k_is)
    (case z_any => k_is)
    (case z_repr => k_is)
    (case z_isinstance => k_is)
    (case z_zip => k_is)
    (case z_enumerate => k_is)
    (case z_set => k_is)
    (case z_sum => k_is)
    (case z_sorted => k_is)
    (case z_max => k_is)
    (case z_abs => k_is)
    (case z_dict => k_is)
    (case g_MOST_LETTERS => exact ⟨_, by k_is⟩)
    (case g_MOST_NUMBER => exact ⟨_, by k_is⟩)
    (case g_MOST_RULES => exact ⟨_, by k_is⟩)
    (case g_RULE_PARTS => exact ⟨_, by k_is⟩)
    (case g_MOST_ACTS => exact ⟨_, by k_is⟩)
    (case t_SIDES => k_is)
    (case o_SIDES => k_is)
    (case v_SIDES => exact .cons ⟨_, rfl⟩ (.cons ⟨_, rfl⟩ (.cons ⟨_, rfl⟩ (.nil))))
    (case s_SIDES => show 3 ≤ sizeLine; decide)
    (case t_KINDS => k_is)
    (case o_KINDS => k_is)
    (case v_KINDS => exact .cons ⟨_, rfl⟩ (.cons ⟨_, rfl⟩ (.cons ⟨_, rfl⟩ (.nil))))
    (case s_KINDS => show 3 ≤ sizeLine; decide)
    (case t_SIGNS => k_is)
    (case o_SIGNS => k_is)
    (case v_SIGNS => exact .cons ⟨_, rfl⟩ (.cons ⟨_, rfl⟩ (.cons ⟨_, rfl⟩ (.nil))))
    (case s_SIGNS => show 3 ≤ sizeLine; decide)
