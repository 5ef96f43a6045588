import PyProof.Rows.All
import Wide.All
import OpenK.AllK
import Wide.FinOn
import HandS.ForMost
import HandS.Wide
import HandS.WideBits
import PyProof.ReprRoads
import HandS.Strs
import PyProof.CallFns
import HandS.Style
import PySem.Challenge.RW_tiedtables_k01_what_tables_are
import HandS.IsInst
import HandS.StrMore
import HandS.Walk
import PyProof.Rows.IntBool
import PyProof.Rows.StrDigitsNeg
import PyProof.Rows.StrJoinMade
import PyProof.Rows.StrCase
set_option Elab.async false
set_option linter.all false
set_option maxRecDepth 100000
namespace TT
open PySem PySem.Spec PyProof.Rows L2

/-! ### an own def of the module, by its name -/
def Def (P : Program) (w : World) (K : PySem.W.Frag) (mg : Str → Option Value) (base : Heap) (k : Nat) (x : Str) (ps : List Str) (sp : Sp) : Prop :=
  ∃ f fd, mg x = some (.ref f) ∧ PySem.W.keepIn K (.ref f) = true ∧ Binds K fd ps [] ∧ FnOk P w K mg base CX0 k f fd ps sp
section
variable {X : Cx} {k j : Nat} {x : Str} {ps : List Str} {sp : Sp} {p pos : Pos} {e : Expr} {es : List Expr} {t : TA}
theorem pe_own (D : Def X.prog X.w X.K X.mg X.base k x ps sp) (hr : Room j X.A) (ha : PA X (e :: es) t) (hkj : k ≤ j := by decide) (hg : Gl X x := by rfl) (hdb : (x == ("__debug__" : Str)) = false := by decide)
    (he : starEach (e :: es) X.env = (false, eval e X.env) :: starEach es X.env := by rfl) (hpl : (backTo pos (starEach es X.env)).any (·.1) = false := by rfl) :
    PE X (.Call (.Name x p) (e :: es) [] pos) (tCall sp [] E0 t) := by
  obtain ⟨f, fd, hm, hk, hb, F⟩ := D
  exact pe_call F (hr.mono hkj) hg hm hk hb .nil pass0 ha hdb he hpl
theorem pe_gint {i : Int} (h : ∃ u, X.mg x = some (.int i u)) (hg : Gl X x := by rfl) (hdb : (x == ("__debug__" : Str)) = false := by decide) : PE X (.Name x p) (tC (.int i)) := by
  obtain ⟨u, hm⟩ := h
  exact pe_glob hg hm ⟨u, rfl⟩ hdb
end
theorem Def.mk {P : Program} {w : World} {K : PySem.W.Frag} {mg : Str → Option Value} {base : Heap} {k : Nat} {x : Str} {ps : List Str} {sp : Sp} {f : Addr} {fd : FuncData} (h1 : mg x = some (.ref f)) (h2 : PySem.W.keepIn K (.ref f) = true) (h3 : Binds K fd ps []) (h4 : FnOk P w K mg base CX0 k f fd ps sp) : Def P w K mg base k x ps sp := ⟨f, fd, h1, h2, h3, h4⟩

/-- the built-in names stand as they are -/
structure NB (mg : Str → Option Value) : Prop where
  b_list : mg "list" = none
  b_len : mg "len" = none
  b_divmod : mg "divmod" = none
  b_range : mg "range" = none
  b_min : mg "min" = none
  b_int : mg "int" = none
  b_bool : mg "bool" = none
  b_str : mg "str" = none
  b_tuple : mg "tuple" = none
  b_all : mg "all" = none
  b_any : mg "any" = none
  b_repr : mg "repr" = none
  b_isinstance : mg "isinstance" = none
  b_zip : mg "zip" = none
  b_enumerate : mg "enumerate" = none
  b_set : mg "set" = none
  b_sum : mg "sum" = none
  b_sorted : mg "sorted" = none
  b_max : mg "max" = none

/-! ### masks: what is not to be leant on -/
def msk (M : List Addr) (H : Hp) : Hp := fun p => if p ∈ M then none else H p
/-- all but what stands at M is as it was -/
def Kept (M : List Addr) (H H' : Hp) : Prop := ∀ p o, H p = some o → p ∉ M → H' p = some o
theorem Kept.refl (M : List Addr) (H : Hp) : Kept M H H := fun _ _ h _ => h
theorem Kept.trans {M : List Addr} {H H1 H2 : Hp} (a : Kept M H H1) (b : Kept M H1 H2) : Kept M H H2 := fun p o h n => b p o (a p o h n) n
theorem Kept.of_same {M : List Addr} {H H' : Hp} (h : Same H H') : Kept M H H' := fun p o e _ => h p o e
theorem Kept.upd_new {M : List Addr} {H : Hp} {p : Addr} {o : HO} (h : H p = none) : Kept M H (upd H p o) := fun b u e _ => by
  rw [upd_ne (ne_of_none e h)]; exact e
theorem Kept.upd_in {M : List Addr} {H : Hp} {p : Addr} {o : HO} (h : p ∈ M) : Kept M H (upd H p o) := fun b u e n => by
  rw [upd_ne (fun (z : b = p) => n (by rw [z]; exact h))]; exact e
theorem Kept.mono {M M' : List Addr} {H H' : Hp} (h : Kept M H H') (s : ∀ p ∈ M, p ∈ M') : Kept M' H H' := fun p o e n => h p o e fun z => n (s p z)
/-- less is masked: what is masked no more was not there -/
theorem Kept.new {M : List Addr} {p : Addr} {H H' : Hp} (h : Kept (p :: M) H H') (n : H p = none) : Kept M H H' := fun b o e nb => h b o e fun z => by
  rcases List.mem_cons.mp z with rfl | z
  · rw [n] at e; cases e
  · exact nb z
theorem Kept.at {M : List Addr} {H H' : Hp} (h : Kept M H H') {p : Addr} {o : HO} (e : H p = some o) (n : p ∉ M) : H' p = some o := h p o e n
theorem msk_same {M : List Addr} {H H' : Hp} (h : Kept M H H') : Same (msk M H) (msk M H') := fun p o e => by
  unfold msk at e ⊢
  by_cases hp : p ∈ M
  · rw [if_pos hp] at e; cases e
  · rw [if_neg hp] at e ⊢; exact h p o e hp
theorem msk_sub (M : List Addr) (H : Hp) : Same (msk M H) H := fun p o e => by
  unfold msk at e
  by_cases hp : p ∈ M
  · rw [if_pos hp] at e; cases e
  · rw [if_neg hp] at e; exact e
/-- a new address may be masked, too -/
theorem msk_new {M : List Addr} {H : Hp} {p : Addr} (n : H p = none) : Same (msk M H) (msk (p :: M) H) := fun b o e => by
  have e' := msk_sub M H b o e
  unfold msk at e ⊢
  by_cases hp : b ∈ M
  · rw [if_pos hp] at e; cases e
  · rw [if_neg hp] at e
    rw [if_neg (fun z => by
      rcases List.mem_cons.mp z with rfl | z
      · rw [n] at e; cases e
      · exact hp z)]
    exact e
theorem msk_less {M M' : List Addr} {H : Hp} (s : ∀ p ∈ M', p ∈ M) : Same (msk M H) (msk M' H) := fun p o e => by
  unfold msk at e ⊢
  by_cases hp : p ∈ M
  · rw [if_pos hp] at e; cases e
  · rw [if_neg hp] at e
    rw [if_neg (fun z => hp (s p z))]; exact e

/-! ### data -/
theorem sameT {K : PySem.W.Frag} {H H' : Hp} {a : Addr} {xs : List V} (e : Same H H') (h : SqT K H a xs) : SqT K H' a xs := by
  rcases h with (h | ⟨o, h⟩) | h
  · exact .inl (.inl (e _ _ h))
  · exact .inl (.inr ⟨o, e _ _ h⟩)
  · exact .inr h
mutual
theorem dp_same {K : PySem.W.Frag} {H H' : Hp} (e : Same H H') : ∀ {d : PyData} {v : V}, Dp K H v d → Dp K H' v d
  | _, _, .non => .non
  | _, _, .bl b => .bl b
  | _, _, .int i => .int i
  | _, _, .str x => .str x
  | _, _, .lst h a => .lst (e.seq h) (dpAll_same e a)
  | _, _, .tup h a => .tup (sameT e h) (dpAll_same e a)
theorem dpAll_same {K : PySem.W.Frag} {H H' : Hp} (e : Same H H') : ∀ {ds : List PyData} {vs : List V}, DpAll K H vs ds → DpAll K H' vs ds
  | _, _, .nil => .nil
  | _, _, .cons h t => .cons (dp_same e h) (dpAll_same e t)
end
theorem dpAll_len {K : PySem.W.Frag} {H : Hp} : ∀ {ds : List PyData} {vs : List V}, DpAll K H vs ds → vs.length = ds.length
  | _, _, .nil => rfl
  | _, _, .cons _ t => congrArg (· + 1) (dpAll_len t)
theorem dpAll_get {K : PySem.W.Frag} {H : Hp} : ∀ {ds : List PyData} {vs : List V} (i : Nat) {v : V}, DpAll K H vs ds → vs[i]? = some v → ∃ d, ds[i]? = some d ∧ Dp K H v d
  | _, _, _, _, .nil, e => by simp at e
  | _, _, 0, _, .cons h _, e => by simp at e; subst e; exact ⟨_, rfl, h⟩
  | _, _, i + 1, v, .cons _ t, e => by
    obtain ⟨d, h1, h2⟩ := dpAll_get i (v := v) t (by simpa using e)
    exact ⟨d, by simpa using h1, h2⟩
theorem dpAll_app {K : PySem.W.Frag} {H : Hp} : ∀ {ds es : List PyData} {vs us : List V}, DpAll K H vs ds → DpAll K H us es → DpAll K H (vs ++ us) (ds ++ es)
  | _, _, _, _, .nil, s => s
  | _, _, _, _, .cons h t, s => .cons h (dpAll_app t s)
theorem dpAll_snoc {K : PySem.W.Frag} {H : Hp} {ds : List PyData} {d : PyData} {vs : List V} {v : V} (a : DpAll K H vs ds) (h : Dp K H v d) : DpAll K H (vs ++ [v]) (ds ++ [d]) := dpAll_app a (.cons h .nil)

/-! ### the state of the draws -/
def kCells : Key := Sum.inr "cells"
def kTurn : Key := Sum.inr "turn"
theorem kne : ¬ (kCells = kTurn) := by decide +kernel
def stD (c : Addr) (t : Int) : List (Key × V) := [(kCells, .ref c), (kTurn, .int t)]
theorem stD_cells (c : Addr) (t : Int) : valV (stD c t) kCells = some (.ref c) := valV_pos rfl
theorem stD_turn (c : Addr) (t : Int) : valV (stD c t) kTurn = some (.int t) := by
  unfold stD
  rw [valV_neg kne, valV_pos rfl]
theorem stD_put (c : Addr) (t i : Int) : putK (stD c t) kTurn (.int i) = stD c i := by
  have h1 : (decide (kCells = kTurn)) = false := decide_eq_false kne
  have h2 : (decide (kTurn = kTurn)) = true := decide_eq_true rfl
  simp [stD, putK, h1, h2, kne]
/-- a state of draws at s, its cells at c, at most T turns -/
structure StAt (H : Hp) (s c : Addr) (T : Nat) : Prop where
  ex : ∃ t : Int, (0 ≤ t ∧ t ≤ (T : Int)) ∧ H s = some (.dK (stD c t))
  cs : ∃ ns : List Int, 0 < ns.length ∧ ns.length ≤ 63 ∧ H c = some (.lst (ns.map V.int))
theorem StAt.mono {H : Hp} {s c : Addr} {T T' : Nat} (h : StAt H s c T) (l : T ≤ T') : StAt H s c T' := ⟨let ⟨t, a, b⟩ := h.ex; ⟨t, ⟨a.1, by omega⟩, b⟩, h.cs⟩
theorem StAt.ne {H : Hp} {s c : Addr} {T : Nat} (h : StAt H s c T) : s ≠ c := by
  obtain ⟨t, _, e⟩ := h.ex
  obtain ⟨ns, _, _, e2⟩ := h.cs
  exact ne_of e e2 (by intro z; cases z)
theorem StAt.same {H H' : Hp} {s c : Addr} {T : Nat} (h : StAt H s c T) (e : Same H H') : StAt H' s c T :=
  ⟨let ⟨t, a, b⟩ := h.ex; ⟨t, a, e _ _ b⟩, let ⟨ns, a, b, q⟩ := h.cs; ⟨ns, a, b, e _ _ q⟩⟩
theorem StAt.nes {H : Hp} {s c p : Addr} {T : Nat} (h : StAt H s c T) (n : H p = none) : s ≠ p := let ⟨_, _, b⟩ := h.ex; ne_of_none b n
theorem StAt.nec {H : Hp} {s c p : Addr} {T : Nat} (h : StAt H s c T) (n : H p = none) : c ≠ p := let ⟨_, _, _, b⟩ := h.cs; ne_of_none b n
theorem StAt.upd {H : Hp} {s c p : Addr} {T : Nat} {o : HO} (h : StAt H s c T) (h1 : s ≠ p) (h2 : c ≠ p) : StAt (upd H p o) s c T :=
  ⟨let ⟨t, a, b⟩ := h.ex; ⟨t, a, by rw [upd_ne h1]; exact b⟩, let ⟨ns, a, b, q⟩ := h.cs; ⟨ns, a, b, by rw [upd_ne h2]; exact q⟩⟩
theorem StAt.upd_new {H : Hp} {s c p : Addr} {T : Nat} {o : HO} (h : StAt H s c T) (n : H p = none) : StAt (L2.upd H p o) s c T := h.upd (h.nes n) (h.nec n)

theorem Kept.seqL {M : List Addr} {H H' : Hp} (h : Kept M H H') {K : PySem.W.Frag} {p : Addr} {xs : List V} (n : p ∉ M) (q : SqL K H p xs) : SqL K H' p xs := by
  rcases q with (q | ⟨o, q⟩) | q
  · exact .inl (.inl (h _ _ q n))
  · exact .inl (.inr ⟨o, h _ _ q n⟩)
  · exact .inr q
theorem Kept.seqT {M : List Addr} {H H' : Hp} (h : Kept M H H') {K : PySem.W.Frag} {p : Addr} {xs : List V} (n : p ∉ M) (q : SqT K H p xs) : SqT K H' p xs := by
  rcases q with (q | ⟨o, q⟩) | q
  · exact .inl (.inl (h _ _ q n))
  · exact .inl (.inr ⟨o, h _ _ q n⟩)
  · exact .inr q
theorem same_upd {H : Hp} {p : Addr} {o : HO} (h : H p = none) : Same H (upd H p o) := fun b x e => by
  rw [upd_ne (ne_of_none e h)]
  exact e

/-! ### what the draws promise -/
def spBegin (K : PySem.W.Frag) : Sp := fun vs H Q _ => ∃ (a : Addr) (ns : List Int), vs = [.ref a] ∧ SqL K H a (ns.map V.int) ∧
  ∀ (s c : Addr) (H' : Hp), StAt H' s c 0 → H s = none → H c = none → Same H H' → Q (.ref s) H'
def spTake : Sp := fun vs H Q _ => ∃ (s c : Addr) (T : Nat) (m : Int), vs = [.ref s, .int m] ∧ StAt H s c T ∧ T ≤ 1000000 ∧ 0 < m ∧ m < 2 ^ 62 ∧
  ∀ (d : Int) (H' : Hp), 0 ≤ d → d < m → StAt H' s c (T + 1) → Kept [s, c] H H' → Q (.int d) H'
end TT

set_option Elab.async false
set_option linter.all false
set_option maxRecDepth 100000
namespace TT
open PySem PySem.Spec PyProof.Rows L2
/-! ### how many unlike texts a list has -/
def addNew (acc : List Str) (v : Str) : List Str := if v ∈ acc then acc else acc ++ [v]
def unlike (xs : List Str) : List Str := xs.foldl addNew []
theorem unlike_snoc (xs : List Str) (v : Str) : unlike (xs ++ [v]) = addNew (unlike xs) v := by
  unfold unlike
  rw [List.foldl_append]
  rfl
theorem addNew_mem (acc : List Str) (v k : Str) : k ∈ addNew acc v ↔ k ∈ acc ∨ k = v := by
  unfold addNew
  by_cases h : v ∈ acc
  · rw [if_pos h]
    exact ⟨.inl, fun q => q.elim id fun e => by rw [e]; exact h⟩
  · rw [if_neg h, List.mem_append, List.mem_singleton]
theorem addNew_len (acc : List Str) (v : Str) : (addNew acc v).length = if v ∈ acc then acc.length else acc.length + 1 := by
  unfold addNew
  split <;> simp
/-- the texts are unlike just where the set is as long as the list -/
theorem unlike_spec : ∀ (n : Nat) (xs : List Str), xs.length = n → (∀ k, k ∈ unlike xs ↔ k ∈ xs) ∧ (unlike xs).length ≤ n ∧ ((unlike xs).length = n ↔ xs.Nodup)
  | 0, xs, h => by
    have e : xs = [] := List.length_eq_zero_iff.mp h
    subst e
    exact ⟨fun _ => Iff.rfl, Nat.le_refl _, by simp [unlike]⟩
  | n + 1, xs, h => by
    have hne : xs ≠ [] := fun z => by rw [z] at h; cases h
    have e : xs = xs.dropLast ++ [xs.getLast hne] := (List.dropLast_concat_getLast hne).symm
    have hl : xs.dropLast.length = n := by rw [List.length_dropLast]; omega
    generalize xs.getLast hne = v at e
    generalize xs.dropLast = ys at e hl
    subst e
    obtain ⟨h1, h2, h3⟩ := unlike_spec n ys hl
    rw [unlike_snoc]
    refine ⟨fun k => ?_, ?_, ?_⟩
    · rw [addNew_mem, h1, List.mem_append, List.mem_singleton]
    · rw [addNew_len]; split <;> omega
    · rw [addNew_len, List.nodup_append]
      by_cases hv : v ∈ unlike ys
      · rw [if_pos hv]
        have hv' := (h1 v).mp hv
        constructor
        · intro z; omega
        · intro ⟨_, _, z⟩
          exact absurd rfl (z v hv' v (List.mem_singleton.mpr rfl))
      · rw [if_neg hv]
        have hv' : v ∉ ys := fun z => hv ((h1 v).mpr z)
        constructor
        · intro z
          refine ⟨h3.mp (by omega), by simp, fun a ha b hb e => hv' ?_⟩
          rw [List.mem_singleton.mp hb] at e
          rw [← e]; exact ha
        · intro ⟨z, _, _⟩
          rw [h3.mpr z]
theorem unlike_nodup (xs : List Str) : decide (((unlike xs).length : Int) = (xs.length : Int)) = decide (xs.Nodup) := by
  obtain ⟨_, _, h⟩ := unlike_spec _ xs rfl
  by_cases e : xs.Nodup
  · rw [decide_eq_true e, h.mpr e]; exact decide_eq_true rfl
  · rw [decide_eq_false e]
    exact decide_eq_false fun z => e (h.mp (by omega))

/-! ### the set's own loop, texts drawn from anything that is walked -/
section
variable {prog : Program} {w : World} {A : Around} {Rs : Result → Shared → Prop} {I : Addr} {fp wr : List Addr} {G : Array GenState → Array GenState → Prop} {n : Nat} {Y : Nat → Value → Prop} {St : Nat → Shared → Prop}
abbrev HasSet (prog : Program) (w : World) (h : Heap) (a : Addr) (xs : List Str) : Prop := h.SetOf (PySem.strKind prog w) a (fun k => decide (k ∈ unlike xs)) (unlike xs).length
theorem draw_texts (W : WalksS prog w A.in1 I fp wr G n Y St) (a : Addr) (ha : a ∉ fp) (xs : List Str) (hn : xs.length = n) (hb : n + 1 < scanBound) (hv : ∀ i v, Y i v → ∃ t x, xs[i]? = some x ∧ v = .str x t) :
    ∀ (m i : Nat) (s : Shared), i + m = n → St i s → HasSet prog w s.heap a (xs.take i) →
      (∀ s', Moved (a :: wr) G s s' → HasSet prog w s'.heap a xs → Rs (.ok (.ret .none)) s') → codeAny (model prog w) A (.builtin "set.update.loop" ⟨[.ref a, .ref I], []⟩) Rs s := by
  have haw : a ∉ wr := fun z => ha (W.sub _ z)
  have more : ∀ b ∈ wr, b ∈ a :: wr := fun b z => List.mem_cons_of_mem _ z
  intro m
  induction m with
  | zero =>
    intro i s him hst hS hR
    obtain rfl : i = n := by omega
    rw [← hn, List.take_length] at hS
    refine codeAny_builtin PyProof.Rows.F.entry_set_update_loop ?_
    rw [Around.under_plainId PyProof.Rows.F.plain_set_update_loop _]
    show wpAny _ A.in1 (pyNext (.ref I) >>= _) _ _ s
    refine wpAny_bind (W.done s _ _ hst fun s' mv => ?_)
    show wpAny _ A.in1 (ret Value.none) _ _ s'
    refine wpAny_pure (hR s' (mv.mono more) ?_)
    obtain ⟨o, es, ep, t, ho, r⟩ := hS
    exact ⟨o, es, ep, t, mv.heap a _ haw ho, r⟩
  | succ m ih =>
    intro i s him hst hS hR
    refine codeAny_builtin PyProof.Rows.F.entry_set_update_loop ?_
    rw [Around.under_plainId PyProof.Rows.F.plain_set_update_loop _]
    show wpAny _ A.in1 (pyNext (.ref I) >>= _) _ _ s
    refine wpAny_bind (W.item i s _ _ (by omega) hst fun v s' hy hst' mv => ?_)
    obtain ⟨t, x, hx, rfl⟩ := hv i v hy
    have hS' : HasSet prog w s'.heap a (xs.take i) := by
      obtain ⟨o, es, ep, tb, ho, r⟩ := hS
      exact ⟨o, es, ep, tb, mv.heap a _ haw ho, r⟩
    show wpAny _ A.in1 (holding [Value.str x t] (setAdd a (.str x t)) >>= _) _ _ s'
    refine wpAny_bind (wpAny_holding ?_)
    unfold setAdd
    refine wpAny_holding (wpAny_bind ((PySem.strKind prog w).pyHash (k := x) (strKind_is _ _ _ _) ?_))
    have len : (unlike (xs.take i)).length ≤ i := by
      have q := (unlike_spec _ (xs.take i) rfl).2.1
      rw [List.length_take] at q
      omega
    refine wpAny_setAddHashed_of (knd := PySem.strKind prog w) (s := { s' with toks := s'.toks + 1 }) (strKind_is _ _ _ _) rfl hS' (by omega) fun h' sb hS2 => ?_
    have et : xs.take (i + 1) = xs.take i ++ [x] := by rw [List.take_add_one, hx]; rfl
    have hS3 : HasSet prog w h' a (xs.take (i + 1)) := by
      refine PyProof.Rows.SetOf_congr hS2 (fun k => ?_) ?_
      · rw [et, unlike_snoc]
        by_cases h1 : k ∈ unlike (xs.take i)
        · simp [addNew_mem, h1]
        · simp [addNew_mem, h1]
      · rw [et, unlike_snoc, addNew_len]
        by_cases h1 : x ∈ unlike (xs.take i)
        · simp [h1]
        · simp [h1]
    refine wpAny_pure ⟨plainId_quiet PyProof.Rows.F.plain_set_update_loop _, ih (i + 1) _ (by omega) (W.frame _ s' _ _ hst' (Nat.le_succ _) fun b hb o e => ?_) hS3 fun s2 mv2 hS4 => ?_⟩
    · rw [sb.2 b fun z => ha (by rw [← z]; exact hb)]; exact e
    · refine hR s2 (Moved.trans W.gtrans ((mv.mono more).then_heap (Nat.le_succ _) fun b o hb e => ?_) mv2) hS4
      rw [sb.2 b fun z => hb (by rw [z]; exact List.mem_cons_self)]; exact e
end
section
variable {prog : Program} {w : World} {A : Around} {E : Value → Shared → Prop} {s : Shared}
/-- what a new set object is -/
abbrev bareSet (led : Bool) : Obj := { cls := .type "set", dict := none, data := .set #[] 0 (.fresh 0 0 led) }
theorem texts_at {us : List Value} {xs : List Str} (r : Vals (xs.map V.str) us) (i : Nat) (v : Value) (e : us[i]? = some v) : ∃ t x, xs[i]? = some x ∧ v = .str x t := by
  have hl : xs.length = us.length := by rw [← r.length, List.length_map]
  have hi : i < xs.length := by rw [hl]; exact (List.getElem?_eq_some_iff.mp e).1
  obtain ⟨u, h1, t, h2⟩ := r.get (i := i) (x := .str xs[i]) (by rw [List.getElem?_map, List.getElem?_eq_getElem hi]; rfl)
  rw [e] at h1
  cases h1
  exact ⟨t, xs[i], List.getElem?_eq_getElem hi, h2⟩
set_option maxHeartbeats 4000000 in
/-- set(xs), xs a list of texts -/
theorem call_set_texts {l : Addr} {items : Array Value} {xs : List Str} {Q : Value → Shared → Prop} (hh : A.handled = none) (hl : s.heap.IsList l items) (hi : Vals (xs.map V.str) items.toList) (hb : xs.length + 1 < scanBound)
    (q : ∀ (h' : Heap) (tk : Nat), HasSet prog w h' s.heap.objs.size xs → (∀ b o, b < s.heap.objs.size → s.heap.get? b = some o → h'.get? b = some o) → Q (.ref s.heap.objs.size) { s with heap := h', toks := tk }) :
    wpAny (model prog w) A (call (.type "set") [.ref l]) Q E s := by
  have size : xs.length = items.size := by rw [← Array.length_toList, ← hi.length, List.length_map]
  obtain ⟨c, tl, hmro⟩ := PySem.F.called_set.mro
  have g1 := PySem.F.called_set.made
  have g2 := PySem.F.called_set.sub
  have g3 := PySem.F.called_set.notType
  have g4 := PySem.F.called_set.canCreate
  have g5 := PySem.F.typeCall_set_1 (.ref l)
  refine wpAny_call (codeAny_of_tree ?_)
  show wpAny _ _ (callAny (.type "set") _) _ _ _
  refine wpAny_pure ⟨Code.quiet_builtin _ (by decide +kernel), codeAny_builtin PySem.F.entry_type_call ?_⟩
  rw [Around.under_plain (weight_type_call_type "set" [.ref l] []) rfl]
  repeat (any_goals (first | assumption | wp_step))
  -- the new object
  refine codeAny_mono (code_set_new_1 (.ref l) (E := E) (Q₁ := fun v s1 => ∃ led : Bool, v = .ref s.heap.objs.size ∧ s1 = { s with heap := s.heap.push (bareSet led) }) fun led => ⟨led, rfl, rfl⟩) fun r s1 hr => ?_
  rcases r with e | fl
  · exact hr
  cases fl with
  | next => exact hr.elim
  | brk => exact hr.elim
  | cont => exact hr.elim
  | ret v =>
    obtain ⟨led, rfl, rfl⟩ := hr
    have gN : (s.heap.push (bareSet led)).get? s.heap.objs.size = some (bareSet led) := Heap.get?_push_size _ rfl
    have gT : Shared.TypeIs { s with heap := s.heap.push (bareSet led) } (.ref s.heap.objs.size) "set" := ⟨_, gN, rfl⟩
    have g6 := PySem.F.called_set.init.lookup
    have g7 := PySem.F.called_set.init.bind (.ref s.heap.objs.size)
    repeat (any_goals (first | assumption | wp_step))
    -- its __init__
    refine codeAny_mono (codeAny_call_builtin (R := wants (fun r s2 => r = .none ∧ ∃ h' tk, s2 = { s with heap := h', toks := tk } ∧ HasSet prog w h' s.heap.objs.size xs ∧ (∀ b o, b < s.heap.objs.size → s.heap.get? b = some o → h'.get? b = some o)) E)
      PySem.F.called_set.init.plain PySem.F.entry_set_init (check_set_init_1 gT ?_)) fun r2 s2 hr2 => ?_
    · obtain ⟨⟨oc, od, oda, osl⟩, go, hc, nl, hd⟩ := hl
      simp only at hc hd
      subst hc
      subst hd
      have go' : (s.heap.push (bareSet led)).get? l = some { cls := .type "list", dict := od, data := .seq items nl, slots := osl } := Heap.get?_push_of_some _ go
      have g8 := PySem.F.sub_list_set
      have g9 := PySem.F.sub_list_frozenset
      have g10 : (Value.type "list" == Value.type "dict") = false := by decide
      have gl : (s.heap.push (bareSet led)).IsList l items := ⟨_, go', rfl, nl, rfl⟩
      unfold Builtin.«set.__init__» noKeywords Builtin.Frozenset.updateFrom
      generalize hPI : pyIter = PI
      wp_walk
      subst hPI
      refine wpAny_pyIter_list gl (wpAny_bind (wpAny_runValue ?_))
      have ll : l < s.heap.objs.size := Heap.lt_size go
      have sz1 : (s.heap.push (bareSet led)).objs.size = s.heap.objs.size + 1 := Heap.size_push ..
      have a1 : l ≠ (s.heap.push (bareSet led)).objs.size := by rw [sz1]; exact Nat.ne_of_lt (Nat.lt_succ_of_lt ll)
      have a2 : s.heap.objs.size ∉ [(s.heap.push (bareSet led)).objs.size, l] := by
        rw [sz1]
        intro z
        rcases List.mem_cons.mp z with z | z
        · exact Nat.ne_of_lt (Nat.lt_succ_self _) z
        · exact Nat.ne_of_gt ll (List.mem_singleton.mp z)
      have a3 : A.in1.in1.in1.handled = none := by simp [hh]
      refine draw_texts (xs := xs) ((Walks.list a3 _ l a1 items).toS) s.heap.objs.size a2 size (by rw [← size]; exact hb) (fun i v e => texts_at hi i v (by rw [Array.getElem?_toList]; exact e)) items.size 0 _ (by omega) ⟨⟨_, Heap.get?_push_size _ rfl, rfl, rfl⟩, gl.push _⟩ ?_ ?_
      · refine PyProof.Rows.SetOf_congr ((PyProof.Rows.setObjOf_fresh (knd := PySem.strKind prog w) led).setOf (Heap.get?_push_of_some _ gN) (by unfold scanBound; omega)) (fun k => ?_) rfl
        simp [unlike]
      · rintro ⟨h', g', d', tk', os'⟩ mv hS
        obtain rfl : g' = s.gens := mv.gens
        obtain rfl : d' = s.drawn := mv.drawn
        obtain rfl : os' = s.os := mv.os
        show wpAny _ _ _ _ _ _
        refine wpAny_pure ?_
        show wpAny _ _ (ret Value.none) _ _ _
        refine wpAny_pure ⟨rfl, h', tk', rfl, hS, fun b o lt e => mv.heap b o ?_ (Heap.get?_push_of_some _ (Heap.get?_push_of_some _ e))⟩
        rw [sz1]
        intro z
        rcases List.mem_cons.mp z with z | z
        · exact Nat.ne_of_lt lt z
        · exact Nat.ne_of_lt (Nat.lt_succ_of_lt lt) (List.mem_singleton.mp z)
    · rcases r2 with e | fl2
      · exact hr2
      cases fl2 with
      | next => exact hr2.elim
      | brk => exact hr2.elim
      | cont => exact hr2.elim
      | ret r =>
        obtain ⟨rfl, h', tk, rfl, hS, keep⟩ := hr2
        repeat (any_goals (first | assumption | wp_step))
        exact q _ _ hS keep
end
/-- len(set(xs)), xs a list of texts -/
def tLenUnlike (K : PySem.W.Frag) (ta : TE) : TE := fun σ H Q => ta σ H fun x H1 => ∃ (l : Addr) (xs : List Str), x = .ref l ∧ SqL K H1 l (xs.map V.str) ∧ xs.length ≤ 1000 ∧ Q (.int (unlike xs).length) H1
theorem pe_lenUnlike {X : Cx} {a : Expr} {ta : TE} {p p2 q pos : Pos} (hm : X.mg "len" = none) (hm2 : X.mg "set" = none) (ha : PE X a ta) (hg : Gl X "len" := by rfl) (hg2 : Gl X "set" := by rfl) (hc : X.calm = true := by rfl)
    (na : starEach [a] X.env = (false, eval a X.env) :: starEach [] X.env := by rfl) : PE X (.Call (.Name "len" p) [.Call (.Name "set" p2) [a] [] q] [] pos) (tLenUnlike X.K ta) := by
  refine ⟨fun pins s σ H Q I h => ?_⟩
  refine Call_ (ld_blt I hg hm boot_len (PyProof.Rows.callWith_builtin1 (PyProof.Rows.args_cons ?_ rfl) rfl rfl))
  refine Call_ (ld_blt I hg2 hm2 boot_set ?_)
  refine PyProof.Rows.callWith_type1 (PyProof.Rows.args_cons (thn (ha.run pins s σ H _ I h) fun v s1 ⟨x, H1, I1, r1, q1⟩ => PyProof.Rows.args_nil ?_) na) na rfl
  obtain ⟨l, xs, rfl, hq, hl, q1⟩ := q1
  cases r1
  obtain ⟨its, r, pl, hz⟩ := I1.list hq
  refine call_set_texts (I1.ok.hd hc) pl.isList (by simpa using r) (by unfold scanBound; omega) fun h' tk hS hk => PyProof.Rows.args_nil ?_
  obtain ⟨o, es, ep, t, ho, hex, hd, _, _, _, hf, hn⟩ := hS
  have I2 : Inv X pins σ H1 { s1 with heap := h', toks := tk } := I1.kept fun b o e => hk b o (Heap.lt_size e) e
  have lu := (unlike_spec _ xs rfl).2.1
  exact call_len_set ho hex hd hf (by rw [hn] <;> omega) ⟨.int (unlike xs).length, H1, I2.tok _, ⟨_, by rw [hn]⟩, q1⟩
end TT

set_option Elab.async false
set_option linter.all false
set_option maxRecDepth 100000
namespace TT
open PySem PySem.Spec PyProof.Rows L2
/-! ### repr of data -/
def rRepr (K : PySem.W.Frag) : List V → Hp → VK → Prop := fun xs H Q => ∃ (v : V) (d : PyData), xs = [v] ∧ Dp K H v d ∧ d.showable = true ∧ d.hasDict = false ∧ d.depth ≤ 60 ∧ d.shown.length ≤ sizeLine ∧ Q (.str d.shown) H
section
variable {X : Cx} {k : Nat}
theorem call_repr_d (hg : X.A.guards = some []) (hr : Room k X.A) : CallR X (.builtin "repr") (rRepr X.K) := by
  intro pins s σ H xs us Q I r h
  obtain ⟨v, d, rfl, hd, h1, h2, h3, h4, q⟩ := h
  obtain ⟨u, rfl, rv⟩ := vals1 r
  obtain ⟨as, rd⟩ := Dp.reads I d v u hd rv
  have hu := hr.units
  have big : ∀ a, u = .ref a → wpAny (model X.prog X.w) X.A (call (.builtin "repr") [u]) (EP X pins σ Q) X.xe s := by
    intro a e
    subst e
    refine repr_of_reads' rd h1 (PyData.noDict_hsm h2) hg (by omega) (fun _ _ e => e) (fun h' t tk hk => ?_) h4
    exact ⟨.str d.shown, H, I.kept (t' := tk) hk, ⟨t, rfl⟩, q⟩
  cases hd with
  | non => cases rv; exact P.repr_of_none ⟨.str _, H, I.tok _, ⟨_, rfl⟩, q⟩
  | bl b => cases rv; exact P.repr_of_bool ⟨.str _, H, I.tok _, ⟨_, by cases b <;> rfl⟩, q⟩
  | int i => obtain ⟨t, rfl⟩ := rv; exact P.repr_of_int (of_decide_eq_true h1) ⟨.str _, H, I.tok _, ⟨_, rfl⟩, q⟩
  | str x => obtain ⟨t, rfl⟩ := rv; exact P.repr_of_str ⟨.str _, H, I.tok _, ⟨_, rfl⟩, q⟩ h4
  | lst _ _ => cases rv; exact big _ rfl
  | tup _ _ => cases rv; exact big _ rfl
end
/-! ### a def's promise where nothing is being shown -/
structure FnG (P : Program) (w : World) (K : PySem.W.Frag) (mg : Str → Option Value) (base : Heap) (CX : CXT) (k : Nat) (f : Addr) (fd : FuncData) (ps : List Str) (sp : Sp) : Prop where
  len : ∀ vs H Q E, sp vs H Q E → vs.length = ps.length
  run : ∀ (A : Around) (outer : List Env) (s : Shared) (H : Hp) (args : Args) (us : List Value) (vs : List V) (Q : VK) (E : XK), Room k A → A.guards = some [] → Env0 P w K mg base A outer s H → BindsTo s fd args (ps.zip us) → Vals vs us → sp vs H Q E →
    codeAny (model P w) A (.call (.ref f) args) (CR CX outer P w H s Q E) s
section
variable {P : Program} {w : World} {K : PySem.W.Frag} {mg : Str → Option Value} {base : Heap} {CX : CXT} {k : Nat}
theorem FnG.of {f : Addr} {fd : FuncData} {ps : List Str} {sp : Sp} (F : FnOk P w K mg base CX k f fd ps sp) : FnG P w K mg base CX k f fd ps sp :=
  ⟨F.len, fun A outer s H args us vs Q E hr _ e0 hb r h => F.run A outer s H args us vs Q E hr e0 hb r h⟩
/-- a def by its body, where nothing is being shown -/
theorem okG {x qual : Str} {st : Stmt} {f : Addr} {fd : FuncData} {N ps : List Str} {sp : Sp} (F : Fun K x qual st f fd) (S : FnScope N ps (defScope st)) (len : ∀ vs H Q E, sp vs H Q E → vs.length = ps.length)
    (body : ∀ (cdv : Value) (A : Around) (outer : List Env) (s : Shared) (H : Hp) (vs : List V) (Q : VK) (E : XK), Room k (A.deeper (envOfC qual (defScope st) s.heap.objs.size f cdv)) → (A.deeper (envOfC qual (defScope st) s.heap.objs.size f cdv)).guards = some [] → sp vs H Q E →
      ∃ t, PSs (cxOf CX0 P w K mg base N qual (defScope st) f cdv A outer s H E).nox (defBody st) t ∧ t { nx := fun _ H' => Q .non H', rt := Q } (L2.start N vs) H) : FnG P w K mg base CX0 (k + 1) f fd ps sp := by
  obtain ⟨oc, od, kV, doc, pm, an, cdv, ct, osl, rfl, lk, hcd⟩ := F.ex
  refine ⟨len, fun A outer s H args us vs Q E hr hg e0 hb r hsp => ?_⟩
  have same : ∀ b o, base.get? b = some o → s.heap.get? b = some o := fun b o e => (e0.bs b o e).1
  have KX : K.In s.heap := e0.mod.kin.keeps same
  have lim : s.heap.NoLimit := e0.mod.nolimit.keeps same
  refine codeAny_call_function hr.depth (KX _ _ lk) rfl S.co S.gen rfl (PySem.W.codeRec_of KX hcd) (hb _ _ _ _ ?_)
  refine wpAny_newFunctionEnv_cells S.kind (fun y hy => ?_) fun env he s1 x => ?_
  · rcases S.par y.1 (List.of_mem_zip (show (y.1, y.2) ∈ ps.zip us from hy)).1 with q | q
    · exact .inl q
    · exact .inr ⟨q, PySem.W.cellsFrom_some _ _ _ (.inl q)⟩
  · subst he
    refine ⟨lim.keeps x.toInCall.keep, codeAny_func ?_⟩
    obtain ⟨t, ht, hq⟩ := body cdv A outer s H vs Q E (hr.deeper _) hg hsp
    have I := inv_start (CX := CX0) (E := E) S hr.hd e0 (len _ _ _ _ hsp) r x
    refine wpAny_mono (ht.nox.run [] s1 (L2.start N vs) H _ I hq) (fun fl s' hs => ?_) fun e s' hs => hs
    cases fl with
    | next => exact let ⟨_, H', J, q⟩ := hs; ⟨V.non, H', J.os, J.bare, J.base, J.hok, rfl, q⟩
    | ret u => exact let ⟨v, _, H', J, rv, q⟩ := hs; ⟨v, H', J.os, J.bare, J.base, J.hok, rv, q⟩
    | brk => exact let ⟨_, _, _, q⟩ := hs; False.elim q
    | cont => exact let ⟨_, _, _, q⟩ := hs; False.elim q
end
/-! ### its call -/
def DefG (P : Program) (w : World) (K : PySem.W.Frag) (mg : Str → Option Value) (base : Heap) (k : Nat) (x : Str) (ps : List Str) (sp : Sp) : Prop :=
  ∃ f fd, mg x = some (.ref f) ∧ PySem.W.keepIn K (.ref f) = true ∧ Binds K fd ps [] ∧ FnG P w K mg base CX0 k f fd ps sp
theorem DefG.mk {P : Program} {w : World} {K : PySem.W.Frag} {mg : Str → Option Value} {base : Heap} {k : Nat} {x : Str} {ps : List Str} {sp : Sp} {f : Addr} {fd : FuncData} (h1 : mg x = some (.ref f)) (h2 : PySem.W.keepIn K (.ref f) = true) (h3 : Binds K fd ps []) (h4 : FnG P w K mg base CX0 k f fd ps sp) : DefG P w K mg base k x ps sp := ⟨f, fd, h1, h2, h3, h4⟩
section
variable {X : Cx} {k j : Nat} {x : Str} {ps : List Str} {sp : Sp} {p pos : Pos} {e : Expr} {es : List Expr} {t : TA}
theorem pe_ownG (D : DefG X.prog X.w X.K X.mg X.base k x ps sp) (hA : X.A.guards = some []) (hr : Room j X.A) (ha : PA X (e :: es) t) (hkj : k ≤ j := by decide) (hg : Gl X x := by rfl) (hdb : (x == ("__debug__" : Str)) = false := by decide)
    (he : starEach (e :: es) X.env = (false, eval e X.env) :: starEach es X.env := by rfl) (hpl : (backTo pos (starEach es X.env)).any (·.1) = false := by rfl) :
    PE X (.Call (.Name x p) (e :: es) [] pos) (tCall sp [] E0 t) := by
  obtain ⟨f, fd, hm, hk, hb, F⟩ := D
  refine ⟨fun pins s σ H Q I h => wpAny_Call_Name_kw (ld_glob I hg hm ?_ hdb)⟩
  refine PySem.W.callWith_K (h₀ := X.base) I.ok.mod.kin hk (thn (ha.run pos pins s σ H _ I h) fun us s1 ⟨vs, H1, I1, r, q⟩ => ⟨I1.kIn, ?_⟩) he hpl
  have q' : sp vs H1 Q E0 := by rw [← List.append_nil vs]; exact q
  have hl : us.length = ps.length := by rw [← r.length]; exact F.len _ _ _ _ q'
  have hbd := hb s1 us I1.kIn (by rw [List.append_nil]; exact hl)
  rw [List.append_nil] at hbd
  refine wpAny_call (codeAny_mono (F.run X.A X.stack s1 H1 ⟨us, []⟩ us vs Q E0 (hr.mono hkj) hA I1.env0 hbd r q') fun rs s' hq => ?_)
  rcases rs with err | fl
  · exact False.elim hq
  · cases fl with
    | ret u => exact I1.after hq
    | next => exact False.elim hq
    | brk => exact False.elim hq
    | cont => exact False.elim hq
end
end TT

set_option Elab.async false
set_option linter.all false
set_option maxRecDepth 100000
namespace TT
open PySem PySem.Spec PyProof.Rows L2
/-! ### the law's call from the caller's own frame, where nothing is being shown -/
/-- what is tracked ahead of the call: the script alone, or nothing where it is one of the module's objects -/
def scr (a : Addr) (o : Obj) (xs : List V) (own : Bool) : Hp := fun b => if own = true ∧ b = a then some (.frz o (.lst xs)) else none
theorem scr_only (a : Addr) (o : Obj) (xs : List V) (own : Bool) : Only (scr a o xs own) := fun b => by
  unfold scr
  split
  · exact .inr ⟨_, _, rfl⟩
  · exact .inl rfl
theorem scr_at {a b : Addr} {o : Obj} {xs : List V} {own : Bool} {u : HO} (h : scr a o xs own b = some u) : own = true ∧ b = a ∧ u = .frz o (.lst xs) := by
  unfold scr at h
  split at h
  · rename_i z
    exact ⟨z.1, z.2, (Option.some.inj h).symm⟩
  · cases h
theorem law_callG {P : Program} {w : World} {K : PySem.W.Frag} {mg mb : Str → Option Value} {k : Nat} {fa a : Addr} {fd : FuncData} {x : Str} {sp : Sp} {s1 : Shared} {vs : List Value} {ns : List Int}
    (KX : K.In s1.heap) (hns : s1.heap.Ns mainGlobals mg) (hb : s1.heap.Ns builtinsNs mb) (hbb : ∀ x : Str, x ≠ "__name__" → mb x = bootBuiltins x) (lim : s1.heap.NoLimit) (bare : s1.gens = #[])
    (ha : s1.heap.get? a = some { cls := .type "list", data := .seq vs.toArray }) (hi : IntsAre vs ns) (hl : ns.length ≤ sizeLine) (hr : Room k callerA)
    (F : ∀ base : Heap, K.In base → base.Ns mainGlobals mg → FnG P w K mg base CX0 k fa fd [x] sp) (bind : ∀ (s : Shared) (u : Value), BindsTo s fd ⟨[u], []⟩ [(x, u)])
    (hsp : ∀ H : Hp, Only H → SqL K H a (ns.map V.int) → sp [.ref a] H (fun v _ => v = .bl true) E0) :
    codeAny (model P w) callerA (.call (.ref fa) ⟨[.ref a], []⟩) (fun r s' => r = .ok (.ret (.bool true)) ∧ OldK s1.heap s'.heap ∧ s'.os = s1.os ∧ AllBare s'.gens) s1 := by
  have rv := vals_ints hi
  have lv := hi.length
  obtain ⟨own, hown, hK⟩ : ∃ own : Bool, (own = true → K.lookup a = none) ∧ (own = false → SqL K (scr a { cls := .type "list", data := .seq vs.toArray } (ns.map V.int) false) a (ns.map V.int)) := by
    cases e : K.lookup a with
    | none => exact ⟨true, ⟨fun _ => rfl, fun z => absurd z (by decide)⟩⟩
    | some o =>
      refine ⟨false, ⟨fun z => absurd z (by decide), fun _ => ?_⟩⟩
      have q := KX a o e
      rw [ha] at q
      cases q
      exact .inr ⟨_, vs.toArray, _, e, rfl, rfl, rfl, by rw [List.size_toArray, lv]; exact hl, by simpa using rv⟩
  generalize hH : scr a { cls := .type "list", data := .seq vs.toArray } (ns.map V.int) own = H
  have at' : ∀ {b u}, H b = some u → own = true ∧ b = a ∧ u = .frz { cls := .type "list", data := .seq vs.toArray } (.lst (ns.map V.int)) := fun {b u} e => scr_at (by rw [hH]; exact e)
  have hO : Only H := by rw [← hH]; exact scr_only a _ _ own
  have hS : SqL K H a (ns.map V.int) := by
    cases e : own with
    | false =>
      rw [← hH, e]
      exact hK e
    | true =>
      refine .inl (.inr ⟨{ cls := .type "list", data := .seq vs.toArray }, ?_⟩)
      rw [← hH, e]
      exact if_pos ⟨rfl, rfl⟩
  have hok : HOk P w H s1.heap := fun b u e => by
    obtain ⟨_, rfl, rfl⟩ := at' e
    exact ⟨ha, by rw [List.length_map]; exact hl, vs, _, rv, ha⟩
  -- what is not the script stands in the heap that is leant on
  have bare' : ∀ {b o es ep}, s1.heap.get? b = some o → o.data = .dict es ep → H b = none := fun {b o es ep} e d => by
    cases q : H b with
    | none => rfl
    | some u =>
      obtain ⟨_, rfl, _⟩ := at' q
      rw [ha] at e
      cases e
      cases d
  have ns' : ∀ {b m}, s1.heap.Ns b m → (hidT s1.heap H).Ns b m := fun {b m} ⟨o, es, ep, e, d, r⟩ => ⟨o, es, ep, hidT_get e (bare' e d), d, r⟩
  have kb : K.In (hidT s1.heap H) := fun b o e => hidT_get (KX b o e) (by
    cases q : H b with
    | none => rfl
    | some u =>
      obtain ⟨z, rfl, _⟩ := at' q
      rw [hown z] at e
      cases e)
  have e0 : Env0 P w K mg (hidT s1.heap H) callerA [] s1 H := ⟨rfl, ⟨kb, ns' hns, ⟨mb, ns' hb, hbb⟩, let ⟨mc, h1, h2⟩ := lim; ⟨mc, ns' h1, h2⟩⟩, fun b o e => of_hidT e, Nat.le_of_eq (hidT_size _ _), trivial,
    fun b z => absurd (show b ∈ ([] : List Addr) from z) (by simp), hok, .of_eq bare⟩
  refine codeAny_mono ((F _ kb (ns' hns)).run callerA [] s1 H ⟨[.ref a], []⟩ [.ref a] [.ref a] _ _ hr rfl e0 (bind s1 (.ref a)) (.cons rfl .nil) (hsp H hO hS)) fun r s' h => ?_
  rcases r with err | fl
  · exact False.elim h
  cases fl with
  | next => exact False.elim h
  | brk => exact False.elim h
  | cont => exact False.elim h
  | ret u =>
    obtain ⟨v, H', os, bg, un, ok', r', q⟩ := h
    obtain rfl : v = .bl true := q
    obtain rfl : u = Value.bool true := r'
    refine ⟨rfl, OldK.of_keep fun b o e => ?_, os, bg⟩
    cases q : H b with
    | none => exact un.keep b o e q (fun z => absurd (show b ∈ ([] : List Addr) from z) (by simp)) (by simp)
    | some u =>
      obtain ⟨_, rfl, rfl⟩ := at' q
      rw [ha] at e
      cases e
      exact (ok' _ _ (un.frzs _ _ _ q)).1
/-- a law by its promise: L2.walk_ofK, where nothing is being shown -/
theorem walk_ofG {l : PySem.W.OpenLaw} {n k : Nat} {q : Program} {loose : List Str} {XP : (Str → Option Value) → Heap → Prop} {YP : World → Heap → Prop} {d : DefRec} {K : Params → PySem.W.Frag} {sp : PySem.W.Frag → Sp} {x : Str}
    (hn : l.most = some n) (hn2 : n ≤ sizeLine) (hdf : d.params.defaults = []) (hr : Room k callerA) (hY : ∀ (w : World) (h : Heap), YP w h → (K w.params).In h)
    (F : ∀ (w : World) (mg : Str → Option Value) (fa : Addr) (h : Heap), (K w.params).In h → h.Ns mainGlobals mg → mg d.name = some (.ref fa) →
      ∃ fd : FuncData, (∀ (s : Shared) (u : Value), BindsTo s fd ⟨[u], []⟩ [(x, u)]) ∧
        ∀ base : Heap, (K w.params).In base → base.Ns mainGlobals mg → FnG l.prog w (K w.params) mg base CX0 k fa fd [x] (sp (K w.params)))
    (hsp : ∀ (K : PySem.W.Frag) (H : Hp) (a : Addr) (ns : List Int), ns.length ≤ n → Only H → SqL K H a (ns.map V.int) → sp K [.ref a] H (fun v _ => v = .bl true) E0) :
    PySem.W.WalkO q loose XP YP l.row.toRowW d [] (fun f vs => PySem.call f vs) := by
  refine Att.attach_call hn hdf fun w s0 s1 mg mb fa o pm cd doc a vs ns G Y ho hd hcd hmg hobj hints hlen hg => ?_
  have KX := hY w _ Y
  obtain ⟨fd, hb, hF⟩ := F w mg fa _ KX G.T.g hmg
  exact law_callG KX G.T.g G.T.b G.T.builtins G.T.nolimit hg hobj hints (Nat.le_trans hlen hn2) hr hF hb fun H hO hS => hsp (K w.params) H a ns hlen hO hS
end TT

set_option Elab.async false
set_option linter.all false
set_option maxRecDepth 100000
namespace TT
open PySem PySem.Spec PyProof.Rows L2
def topS (i : Nat) : Stmt := PySem.Challenge.pw_tiedtables_k01_what_tables_are.main.body.getD i (.Pass ⟨0, 0, 0, 0⟩)
section
variable {P : Program} {w : World} {K : PySem.W.Frag} {mg : Str → Option Value} {base : Heap}
abbrev s_law_begin : Stmt := topS 18
abbrev N_law_begin : List Str := ["script", "cells"]
theorem sc_law_begin : FnScope N_law_begin ["script"] (defScope s_law_begin) := ⟨rfl, rfl, rfl, by decide +kernel, rfl, by decide +kernel, by decide +kernel⟩

theorem cut63 (ns : List Int) : cutV (ns.map V.int) none (some 63) = (ns.take 63).map V.int := by
  unfold cutV
  rw [show HT.sIx (ns.map V.int).length 0 none = 0 from HT.sIx_none .., show HT.sIx (ns.map V.int).length (ns.map V.int).length (some 63) = min 63 (ns.map V.int).length from HT.sIx_nat _ _ 63]
  rw [List.drop_zero, Nat.sub_zero, List.map_take]
  by_cases h : 63 ≤ (ns.map V.int).length
  · rw [Nat.min_eq_left h]
  · rw [Nat.min_eq_right (by omega), List.take_of_length_le (Nat.le_refl _), List.take_of_length_le (by omega)]
theorem dp_ints {K : PySem.W.Frag} {H : Hp} : ∀ ns : List Int, DpAll K H (ns.map V.int) (ns.map PyData.int)
  | [] => .nil
  | n :: ns => .cons (.int n) (dp_ints ns)
theorem canLay_ints : ∀ ns : List Int, PyData.canLayAll0 (ns.map PyData.int) = true
  | [] => rfl
  | _ :: ns => by
    show (PyData.canLay0 (.int _) && PyData.canLayAll0 (ns.map PyData.int)) = true
    rw [canLay_ints ns]
    rfl
theorem depth_ints : ∀ ns : List Int, PyData.depthAll (ns.map PyData.int) = 0
  | [] => rfl
  | _ :: ns => by
    show max 0 (PyData.depthAll (ns.map PyData.int)) = 0
    rw [depth_ints ns]
    rfl
theorem shaped_ints (ns : List Int) : SeqAt.shaped (.list (ns.map PyData.int)) = true := by
  show (PyData.canLayAll0 (ns.map PyData.int) && decide (PyData.depthAll (ns.map PyData.int) + 1 ≤ 64)) = true
  rw [canLay_ints, depth_ints]
  rfl
theorem mkSt (c : Addr) : mergeK [] [(kCells, V.ref c), (kTurn, V.int 0)] = stD c 0 := by
  have h1 : ¬ (kCells = kTurn) := kne
  unfold stD mergeK
  simp [putK, h1]
theorem ok_begin {f : Addr} {fd : FuncData} (F : Fun K "_law_begin" "_law_begin" s_law_begin f fd) (nb : NB mg) : FnOk P w K mg base CX0 1 f fd ["script"] (spBegin K) := by
  refine F.ok sc_law_begin (fun vs H Q E h => ?_) (fun cdv A outer s H vs Q E hr h => ?_)
  · obtain ⟨a, ns, rfl, _⟩ := h
    rfl
  · obtain ⟨a, ns, rfl, hS, q⟩ := h
    have nd := sc_law_begin.nd
    have hu := hu_of hr
    refine ⟨_, (pss_cons (ps_set (i := 1) nd rfl (Or.inl rfl) (pe_callTy call_list_of (by rfl) nb.b_list (by decide +kernel) (pa_cons (pe_slice sl_list (pv 0) po_none (po_some pe_int)) pa_nil)))
      (pss_cons (ps_if (pt_cmpR (op_eqD hr.units) (pv 1) (pe_lst pa_nil) (nomark _))
        (pss_one (ps_set (i := 1) nd rfl (Or.inl rfl) (pe_lst (pa_cons pe_int pa_nil))))
        pss_nil)
      (pss_one (ps_ret (pe_disp (pps_cons pe_str (pv 1) (pps_cons pe_str pe_int pps_nil)) (by rfl) (by rfl) (fun z => by cases z) (by decide)))))), ?_⟩
    -- cells = list(script[:63])
    refine ⟨.ref a, rfl, 63, rfl, a, _, rfl, hS, fun p np => ?_⟩
    rw [cut63]
    refine ⟨p, _, rfl, .inl (.inl (.inl upd_same)), fun c0 nc0 => ?_⟩
    have s1 : Same H (upd H p (.lst ((ns.take 63).map V.int))) := same_upd np
    have s2 : Same (upd H p (.lst ((ns.take 63).map V.int))) (upd (upd H p (.lst ((ns.take 63).map V.int))) c0 (.lst ((ns.take 63).map V.int))) := same_upd nc0
    -- if cells == []
    refine ⟨.ref c0, rfl, Nat.zero_le _, fun e0 ne0 => ?_⟩
    have s3 := same_upd (o := .lst []) ne0
    refine ⟨.list ((ns.take 63).map PyData.int), .list [], .lst (.inl (.inl (s3 _ _ upd_same))) (dp_ints _), .lst (.inl (.inl upd_same)) .nil, shaped_ints _, rfl, _, rfl, ?_⟩
    have fin : ∀ (c : Addr) (H1 : Hp) (ms : List Int), Same H H1 → H c = none → H1 c = some (.lst (ms.map V.int)) → 0 < ms.length → ms.length ≤ 63 →
        tRet (tDisp [(tC (V.str (Str.ofString "cells")), tVar 1), (tC (V.str (Str.ofString "turn")), tC (V.int 0))]) { nx := fun x H' => Q V.non H', rt := Q } [some (.ref a), some (.ref c)] H1 := by
      intro c H1 ms sm nc ec h1 h2 s ns'
      refine ⟨.ref c, rfl, ?_⟩
      refine ⟨upd_same, [(kCells, .ref c), (kTurn, .int 0)], rfl, (by show 2 ≤ 15; decide), ?_⟩
      rw [mkSt, upd_upd]
      have ncs : c ≠ s := ne_of_none ec ns'
      exact q s c _ ⟨⟨0, ⟨Int.le_refl _, Int.le_refl _⟩, upd_same⟩, ⟨ms, h1, h2, by rw [upd_ne ncs]; exact ec⟩⟩ (Same.free sm ns') nc (sm.trans (same_upd ns'))
    refine ite2 (fun h0 => ?_) (fun h0 => ?_)
    · -- cells = [17]
      refine ⟨by decide, fun c1 nc1 => ?_⟩
      exact fin c1 _ [17] (((s1.trans s2).trans s3).trans (same_upd nc1)) (Same.free ((s1.trans s2).trans s3) nc1) upd_same (by decide) (by decide)
    · refine fin c0 _ (ns.take 63) ((s1.trans s2).trans s3) (Same.free s1 nc0) (s3 _ _ upd_same) ?_ (by rw [List.length_take]; omega)
      cases e : ns.take 63 with
      | nil => rw [e] at h0; exact absurd rfl h0
      | cons x r => exact Nat.succ_pos _
abbrev s_law_take : Stmt := topS 19
abbrev N_law_take : List Str := ["state", "many", "turn", "place", "cell", "digit", "wide", "mixed"]
theorem sc_law_take : FnScope N_law_take ["state", "many"] (defScope s_law_take) := ⟨rfl, rfl, rfl, by decide +kernel, rfl, by decide +kernel, by decide +kernel⟩

theorem cdiv_of {i j : Int} (h : 0 < j) (h2 : j < 2 ^ 62) : CDivP i j := ⟨h, PyProof.noPylong_of_log2 (Nat.lt_of_lt_of_le (PySem.Flt.log2_lt_of (k := 62) (by decide) (by omega)) (by decide))⟩
theorem ixN_nat {n j : Nat} (h : j < n) : ixN n (j : Int) = some j := by
  unfold ixN
  rw [if_pos (Int.natCast_nonneg j), if_pos (by omega)]
  rfl
theorem ok_take {f : Addr} {fd : FuncData} (F : Fun K "_law_take" "_law_take" s_law_take f fd) (nb : NB mg) : FnOk P w K mg base CX0 1 f fd ["state", "many"] spTake := by
  refine F.ok sc_law_take (fun vs H Q E h => ?_) (fun cdv A outer sh H vs Q E hr h => ?_)
  · obtain ⟨s, c, T, m, rfl, _⟩ := h
    rfl
  · obtain ⟨s, c, T, m, rfl, S, hT, hm0, hm, q⟩ := h
    have nd := sc_law_take.nd
    have hu := hu_of hr
    obtain ⟨⟨t, ⟨ht0, ht⟩, es⟩, ⟨ns, l0, l63, ec⟩⟩ := id S
    have nsc : s ≠ c := S.ne
    refine ⟨_, (pss_cons (ps_set (i := 2) nd rfl (Or.inl rfl) (pe_op op_add (pe_dget hu (pv 0) pe_str (fun _ _ => rfl)) pe_int))
      (pss_cons (ps_dput hu (pv 0) pe_str (pv 2) rfl)
      (pss_cons (ps_set (i := 3) nd rfl (Or.inl rfl) (pe_op op_mod (pv 2) (pe_callB call_len_seq (by rfl) nb.b_len (by decide +kernel) (pa_cons (pe_dget hu (pv 0) pe_str (fun _ _ => rfl)) pa_nil))))
      (pss_cons (ps_set (i := 4) nd rfl (Or.inl rfl) (pe_ix ix_list (pe_dget hu (pv 0) pe_str (fun _ _ => rfl)) (pv 3) (fun _ _ => rfl)))
      (pss_cons (ps_if (pt_cmpR op_ge (pv 4) (pe_op op_pow pe_int pe_int) (nomark _))
        (pss_cons (ps_asg (pe_callB call_divmodW (by rfl) nb.b_divmod (by decide +kernel) (pa_cons (pv 4) (pa_cons (pv 1) pa_nil))) (pg_tup rfl (pgs_cons (pg_sub (pe_dget hu (pv 0) pe_str (fun _ _ => rfl)) (pv 3) set_list) (pgs_cons (pg_name (i := 5) nd rfl (Or.inl rfl)) pgs_nil))))
        (pss_one (ps_ret (pv 5))))
        pss_nil)
      (pss_cons (ps_set (i := 6) nd rfl (Or.inl rfl) (pe_op op_add (pe_op op_mod (pv 4) pe_int) (pe_op op_mul (pe_op op_mod (pe_op op_fdivW (pv 4) pe_int) pe_int) pe_int)))
      (pss_cons (ps_set (i := 7) nd rfl (Or.inl rfl) (pe_op op_mod (pe_op op_mul (pe_op op_add (pe_op op_add (pv 6) (pe_op op_mul (pe_op op_mul (pv 2) (pv 2)) pe_int)) pe_int) pe_int) pe_int))
      (pss_cons (ps_set (i := 7) nd rfl (Or.inl rfl) (pe_op op_mod (pe_op op_mul (pv 7) (pv 7)) pe_int))
      (pss_one (ps_ret (pe_op op_mod (pe_op op_fdivW (pe_op op_mod (pe_op op_mul (pe_op op_add (pv 7) (pe_op op_mul (pv 2) pe_int)) pe_int) pe_int) pe_int) (pv 1)))))))))))), ?_⟩
    -- turn = state['turn'] + 1; state['turn'] = turn
    refine ⟨.ref s, rfl, s, _, rfl, stD_turn c t ▸ DGet.k (k := kTurn) es, _, _, rfl, rfl, ?_⟩
    refine ⟨_, rfl, .ref s, rfl, s, _, rfl, DPut.k (k := kTurn) es (by show 2 < sizeLine; decide), ?_⟩
    rw [stD_put]
    have es1 : (upd H s (.dK (stD c (t + 1)))) s = some (.dK (stD c (t + 1))) := upd_same
    have ec1 : (upd H s (.dK (stD c (t + 1)))) c = some (.lst (ns.map V.int)) := by rw [upd_ne nsc.symm]; exact ec
    have S1 : StAt (upd H s (.dK (stD c (t + 1)))) s c (T + 1) := ⟨⟨t + 1, ⟨by omega, by omega⟩, es1⟩, ⟨ns, l0, l63, ec1⟩⟩
    have K1 : Kept [s, c] H (upd H s (.dK (stD c (t + 1)))) := Kept.upd_in (List.mem_cons_self ..)
    generalize hH1 : upd H s (.dK (stD c (t + 1))) = H1 at es1 ec1 S1 K1
    have gc1 : DGet H1 s (.str "cells") (some (.ref c)) := stD_cells c (t + 1) ▸ DGet.k (k := kCells) es1
    have lm : (ns.map V.int).length = ns.length := List.length_map ..
    -- place = turn % len(state['cells'])
    refine ⟨_, rfl, .ref s, rfl, s, _, rfl, gc1, c, _, rfl, .inl (.inl (.inl ec1)), _, _, rfl, rfl, (by rw [lm]; omega), ?_⟩
    rw [lm]
    dsimp only
    generalize hpl : (t + 1) % (ns.length : Int) = pl
    have hp0 : 0 ≤ pl := by rw [← hpl]; exact Int.emod_nonneg _ (by omega)
    have hp1 : pl < ns.length := by rw [← hpl]; exact Int.emod_lt_of_pos _ (by omega)
    -- cell = state['cells'][place]
    obtain ⟨j, rfl⟩ : ∃ j : Nat, pl = (j : Int) := ⟨pl.toNat, by omega⟩
    have hj : j < ns.length := by omega
    have gj : (ns.map V.int)[j]? = some (.int ns[j]) := by rw [List.getElem?_map, List.getElem?_eq_getElem hj]; rfl
    refine ⟨.ref s, rfl, s, _, rfl, gc1, _, rfl, c, _, _, .int ns[j], rfl, rfl, .inl (.inl ec1), atI_nat gj, ?_⟩
    generalize ns[j] = x
    -- if cell >= 10 ** 18
    refine ⟨.int x, rfl, 10, 18, rfl, rfl, ⟨by decide, by decide, by decide⟩, _, _, rfl, rfl, _, rfl, ite2 (fun hc => ?_) (fun _ => ?_)⟩
    · -- state['cells'][place], digit = divmod(cell, many)
      refine ⟨.int x, rfl, .int m, rfl, _, _, rfl, cdiv_of hm0 hm, fun p np => ?_⟩
      have nps : s ≠ p := ne_of_none es1 np
      have npc : c ≠ p := ne_of_none ec1 np
      have es2 : (upd H1 p (.tup [.int (x / m), .int (x % m)])) s = some (.dK (stD c (t + 1))) := by rw [upd_ne nps]; exact es1
      have ec2 : (upd H1 p (.tup [.int (x / m), .int (x % m)])) c = some (.lst (ns.map V.int)) := by rw [upd_ne npc]; exact ec1
      have gc2 : DGet (upd H1 p (.tup [.int (x / m), .int (x % m)])) s (.str "cells") (some (.ref c)) := stD_cells c (t + 1) ▸ DGet.k (k := kCells) es2
      refine ⟨p, _, rfl, .inl (.inl upd_same), rfl, .int (x / m), _, rfl, .ref s, rfl, s, _, rfl, gc2, _, rfl, c, _, _, j, rfl, rfl, ec2, by rw [lm]; exact ixN_nat hj, ?_⟩
      refine ⟨.int (x % m), [], rfl, rfl, .int (x % m), rfl, ?_⟩
      have em : ((ns.map V.int).set j (.int (x / m))) = (ns.set j (x / m)).map V.int := by rw [List.map_set]
      rw [em]
      refine q _ _ (Int.emod_nonneg _ (by omega)) (Int.emod_lt_of_pos _ hm0) ⟨⟨t + 1, ⟨by omega, by omega⟩, by rw [upd_ne nsc]; exact es2⟩, ⟨_, by rw [List.length_set]; exact l0, by rw [List.length_set]; exact l63, upd_same⟩⟩ ?_
      exact (K1.trans (Kept.upd_new np)).trans (Kept.upd_in (List.mem_cons_of_mem _ (List.mem_cons_self ..)))
    · have h1 : (0 : Int) ≤ x % 2147483629 ∧ x % 2147483629 < 2147483629 := ⟨Int.emod_nonneg _ (by decide), Int.emod_lt_of_pos _ (by decide)⟩
      have h2 : (0 : Int) ≤ x / 2147483629 % 40009 ∧ x / 2147483629 % 40009 < 40009 := ⟨Int.emod_nonneg _ (by decide), Int.emod_lt_of_pos _ (by decide)⟩
      have ht1 : t + 1 ≤ 1000001 := by omega
      have htt : (t + 1) * (t + 1) ≤ 1000001 * 1000001 := Int.mul_le_mul ht1 ht1 (by omega) (by omega)
      have htt0 : 0 ≤ (t + 1) * (t + 1) := Int.mul_nonneg (by omega) (by omega)
      -- wide
      refine ⟨.int x, rfl, _, _, rfl, rfl, (by decide : (0 : Int) < 2147483629), .int x, rfl, _, _, rfl, rfl, wide_div (b := 32) (by decide) (by decide) (by decide) (by decide), _, _, rfl, rfl, (by decide : (0 : Int) < 40009), _, _, rfl, rfl, .inr ⟨by decide, by decide⟩, _, _, rfl, rfl, ?_⟩
      dsimp only
      generalize hw : x % 2147483629 + x / 2147483629 % 40009 * 977 = wd
      have hw0 : 0 ≤ wd := by omega
      have hw1 : wd < 2 ^ 32 := by omega
      -- mixed
      refine ⟨.int wd, rfl, .int (t + 1), rfl, .int (t + 1), rfl, _, _, rfl, rfl, .inl ⟨by omega, by omega⟩, _, _, rfl, rfl, .inr ⟨by decide, by decide⟩, _, _, rfl, rfl, _, _, rfl, rfl, _, _, rfl, rfl, .inr ⟨by decide, by decide⟩, _, _, rfl, rfl, (by decide : (0 : Int) < 2147483647), ?_⟩
      dsimp only
      generalize hx1 : (wd + (t + 1) * (t + 1) * 6007 + 29) * 48271 % 2147483647 = x1
      have hx1a : 0 ≤ x1 ∧ x1 < 2147483647 := by rw [← hx1]; exact ⟨Int.emod_nonneg _ (by decide), Int.emod_lt_of_pos _ (by decide)⟩
      refine ⟨.int x1, rfl, .int x1, rfl, _, _, rfl, rfl, .inl ⟨by omega, by omega⟩, _, _, rfl, rfl, (by decide : (0 : Int) < 2147483579), ?_⟩
      dsimp only
      generalize hx2 : x1 * x1 % 2147483579 = x2
      have hx2a : 0 ≤ x2 ∧ x2 < 2147483579 := by rw [← hx2]; exact ⟨Int.emod_nonneg _ (by decide), Int.emod_lt_of_pos _ (by decide)⟩
      refine ⟨.int x2, rfl, .int (t + 1), rfl, _, _, rfl, rfl, .inr ⟨by decide, by decide⟩, _, _, rfl, rfl, _, _, rfl, rfl, .inr ⟨by decide, by decide⟩, _, _, rfl, rfl, (by decide : (0 : Int) < 2147483629), _, _, rfl, rfl, wide_div (b := 8) (by decide) (by decide) (by decide) (by decide), .int m, rfl, _, _, rfl, rfl, hm0, ?_⟩
      exact q _ _ (Int.emod_nonneg _ (by omega)) (Int.emod_lt_of_pos _ hm0) S1 K1
theorem take_at {H : Hp} {s c : Addr} {T : Nat} {m : Int} {Q : VK} {E : XK} (S : StAt H s c T) (hT : T ≤ 1000000) (h0 : 0 < m) (h1 : m < 2 ^ 62)
    (q : ∀ (d : Int) (H' : Hp), 0 ≤ d → d < m → StAt H' s c (T + 1) → Kept [s, c] H H' → Q (.int d) H') : spTake [.ref s, .int m] H Q E := ⟨s, c, T, m, rfl, S, hT, h0, h1, q⟩
def spSome (K : PySem.W.Frag) : Sp := fun vs H Q _ => ∃ (s c p : Addr) (T : Nat) (xs : List V), vs = [.ref s, .ref p] ∧ StAt H s c T ∧ T ≤ 1000000 ∧ p ∉ [s, c] ∧ (SqL K H p xs ∨ SqT K H p xs) ∧ 0 < xs.length ∧ xs.length < 2 ^ 62 ∧
  ∀ (j : Nat) (v : V) (H' : Hp), xs[j]? = some v → StAt H' s c (T + 1) → Kept [s, c] H H' → Q v H'
abbrev s_law_some : Stmt := topS 20
abbrev N_law_some : List Str := ["state", "things"]
theorem sc_law_some : FnScope N_law_some ["state", "things"] (defScope s_law_some) := ⟨rfl, rfl, rfl, by decide +kernel, rfl, by decide +kernel, by decide +kernel⟩

theorem ok_some {f : Addr} {fd : FuncData} (F : Fun K "_law_some" "_law_some" s_law_some f fd) (nb : NB mg) (D_law_take : Def P w K mg base 1 "_law_take" ["state", "many"] spTake) : FnOk P w K mg base CX0 2 f fd ["state", "things"] (spSome K) := by
  refine F.ok sc_law_some (fun vs H Q E h => ?_) (fun cdv A outer sh H vs Q E hr h => ?_)
  · obtain ⟨s, c, p, T, xs, rfl, _⟩ := h
    rfl
  · obtain ⟨s, c, p, T, xs, rfl, S, hT, hp, hx, l0, l1, q⟩ := h
    have nd := sc_law_some.nd
    have hu := hu_of hr
    refine ⟨_, (pss_one (ps_ret (pe_ix ix_seq (pv 1) (pe_own D_law_take hr (pa_cons (pv 0) (pa_cons (pe_callB call_len (by rfl) nb.b_len (by decide +kernel) (pa_cons (pv 1) pa_nil)) pa_nil))) (fun _ _ => rfl)))), ?_⟩
    refine ⟨.ref p, rfl, .ref s, rfl, .ref p, rfl, .ref p, xs.length, rfl, ?_, s, c, T, _, rfl, S, hT, by omega, by omega, fun d H1 h0 h1 S1 K1 => ?_⟩
    · rcases hx with hx | hx
      · exact .inl ⟨xs, hx, rfl⟩
      · exact .inr ⟨xs, hx, rfl⟩
    · obtain ⟨j, rfl⟩ : ∃ j : Nat, d = (j : Int) := ⟨d.toNat, by omega⟩
      have hj : j < xs.length := by omega
      have gj : xs[j]? = some xs[j] := List.getElem?_eq_getElem hj
      rcases hx with hx | hx
      · exact .inl ⟨p, xs, _, _, rfl, rfl, K1.seqL hp hx, atI_nat gj, q j _ H1 gj S1 K1⟩
      · exact .inr (.inl ⟨p, xs, _, _, rfl, rfl, K1.seqT hp hx, atI_nat gj, q j _ H1 gj S1 K1⟩)
end
end TT

set_option Elab.async false
set_option linter.all false
set_option maxRecDepth 100000
namespace TT
open PySem PySem.Spec PyProof.Rows L2
/-! ### names: the mathematics -/
def cl (z : Str) : List Nat := z.cps.toList
def ofL (l : List Nat) : Str := ⟨l.toArray⟩
theorem cl_ofL (l : List Nat) : cl (ofL l) = l := rfl
theorem cl_app (a b : Str) : cl (a ++ b) = cl a ++ cl b := by
  show (a.cps ++ b.cps).toList = _
  exact Array.toList_append
theorem cl_inj {a b : Str} (h : cl a = cl b) : a = b := by
  cases a; cases b
  exact congrArg Str.mk (Array.toList_inj.mp h)
theorem ofL_cl (z : Str) : ofL (cl z) = z := cl_inj rfl
theorem cl_len (z : Str) : z.length = (cl z).length := rfl
def low (c : Nat) : Prop := 97 ≤ c ∧ c ≤ 122
structure NameOk (z : Str) : Prop where
  pos : 0 < (cl z).length
  top : (cl z).length ≤ 8
  low : ∀ c ∈ cl z, low c
def abc : Str := "abcdefghijklmnopqrstuvwxyz"
theorem abc_cl : cl abc = (List.range 26).map (· + 97) := by decide +kernel
theorem abc_at {i : Nat} (h : i < 26) : (cl abc)[i]? = some (i + 97) := by
  rw [abc_cl, List.getElem?_map, List.getElem?_range h]
  rfl
def words13 : List Str := ["table", "row", "many", "store", "old", "new", "put", "none", "tie", "drop", "set", "do", "to"]
theorem words_ok : ∀ z ∈ words13, NameOk z := by
  have h : words13.all (fun z => decide (0 < (cl z).length) && decide ((cl z).length ≤ 8) && (cl z).all fun c => decide (97 ≤ c) && decide (c ≤ 122)) = true := by decide +kernel
  intro z hz
  have h1 := List.all_eq_true.mp h z hz
  simp only [Bool.and_eq_true, decide_eq_true_eq, List.all_eq_true] at h1
  exact ⟨h1.1.1, h1.1.2, h1.2⟩
theorem words_nd : words13.Nodup := by decide +kernel
theorem words_len : words13.length = 13 := rfl
/-- the k-th plain name -/
def letterOf (first step : Int) (k : Nat) : Nat := ((first + step * k) % 26).toNat + 97
def plainN (st : List Nat) (at' : Nat) (first step short : Int) (k : Nat) : Str :=
  ofL (st.take at' ++ [letterOf first step k] ++ (if short = 0 then st.drop at' else (st.drop at').take (k % 3)))
theorem letterOf_low (first step : Int) (k : Nat) : low (letterOf first step k) := by
  have h1 := Int.emod_nonneg (first + step * k) (show (26 : Int) ≠ 0 by decide)
  have h2 := Int.emod_lt_of_pos (first + step * k) (show (0 : Int) < 26 by decide)
  unfold low letterOf
  omega
theorem plain_ok {st : List Nat} {at' : Nat} {first step short : Int} {k : Nat} (hs : ∀ c ∈ st, low c) (hl : st.length ≤ 7) : NameOk (plainN st at' first step short k) := by
  have e : (cl (plainN st at' first step short k)) = st.take at' ++ [letterOf first step k] ++ (if short = 0 then st.drop at' else (st.drop at').take (k % 3)) := rfl
  refine ⟨?_, ?_, ?_⟩
  · rw [e]; simp; omega
  · rw [e, List.length_append, List.length_append, List.length_take, List.length_singleton]
    split
    · rw [List.length_drop]; omega
    · rw [List.length_take, List.length_drop]; omega
  · rw [e]
    intro c hc
    rw [List.mem_append, List.mem_append, List.mem_singleton] at hc
    rcases hc with (h | h) | h
    · exact hs c (List.mem_of_mem_take h)
    · rw [h]; exact letterOf_low ..
    · split at h
      · exact hs c (List.mem_of_mem_drop h)
      · exact hs c (List.mem_of_mem_drop (List.mem_of_mem_take h))
theorem plain_inj {st : List Nat} {at' : Nat} {first step short : Int} {i j : Nat} (ha : at' ≤ st.length) (hs : step = 3 ∨ step = 5 ∨ step = 25) (hi : i < 26) (hj : j < 26) (e : plainN st at' first step short i = plainN st at' first step short j) : i = j := by
  have e1 := congrArg cl e
  have e2 : (cl (plainN st at' first step short i))[at']? = (cl (plainN st at' first step short j))[at']? := by rw [e1]
  have key : ∀ k, (cl (plainN st at' first step short k))[at']? = some (letterOf first step k) := fun k => by
    show (st.take at' ++ [letterOf first step k] ++ (if short = 0 then st.drop at' else (st.drop at').take (k % 3)))[at']? = _
    rw [List.append_assoc, List.getElem?_append_right (by rw [List.length_take]; omega), List.length_take, Nat.min_eq_left ha, Nat.sub_self]
    rfl
  rw [key, key] at e2
  have e3 := Option.some.inj e2
  unfold letterOf at e3
  rcases hs with rfl | rfl | rfl <;> omega
theorem str_len_app (a b : Str) : (a ++ b).length = a.length + b.length := by rw [cl_len, cl_app, List.length_append]; rfl
theorem cut_cl (z : Str) (lo hi : Option Int) : cl (cutS z lo hi) = ((cl z).drop (HT.sIx z.length 0 lo)).take (HT.sIx z.length z.length hi - HT.sIx z.length 0 lo) := rfl
def wordAt (first : Int) (k : Nat) : Str := words13.getD ((first + k) % 13).toNat Str.empty
theorem wordAt_get (first : Int) (k : Nat) : words13[((first + k) % 13).toNat]? = some (wordAt first k) := by
  have g0 := Int.emod_nonneg (first + k) (show (13 : Int) ≠ 0 by decide)
  have g1 := Int.emod_lt_of_pos (first + k) (show (0 : Int) < 13 by decide)
  have h : ((first + k) % 13).toNat < words13.length := by rw [words_len]; omega
  unfold wordAt
  rw [List.getD_eq_getElem?_getD, List.getElem?_eq_getElem h]
  rfl
theorem wordAt_mem (first : Int) (k : Nat) : wordAt first k ∈ words13 := List.mem_of_getElem? (wordAt_get first k)
theorem wordAt_inj {first : Int} {i j : Nat} (hi : i < 13) (hj : j < 13) (e : wordAt first i = wordAt first j) : i = j := by
  have g0 := Int.emod_nonneg (first + i) (show (13 : Int) ≠ 0 by decide)
  have g1 := Int.emod_lt_of_pos (first + i) (show (0 : Int) < 13 by decide)
  have g2 := Int.emod_nonneg (first + j) (show (13 : Int) ≠ 0 by decide)
  have g3 := Int.emod_lt_of_pos (first + j) (show (0 : Int) < 13 by decide)
  have h1 := wordAt_get first i
  have h2 := wordAt_get first j
  rw [e] at h1
  have h3 := (List.getElem?_inj (by rw [words_len]; omega) words_nd).mp (h1.trans h2.symm)
  omega
/-- the names, some of them words: the k first ones have been gone through -/
structure Mixed (first : Int) (ps : List Str) (k : Nat) (fs : List Str) : Prop where
  len : fs.length = ps.length
  it : ∀ (i : Nat) (z : Str), fs[i]? = some z → ps[i]? = some z ∨ (i < k ∧ z = wordAt first i ∧ z ∉ ps)
theorem mixed_start (first : Int) {ps : List Str} (_ : ps.Nodup) (_ : ∀ z ∈ ps, NameOk z) : Mixed first ps 0 ps := ⟨rfl, fun _ _ h => .inl h⟩
theorem Mixed.skip {first : Int} {ps fs : List Str} {k : Nat} (h : Mixed first ps k fs) : Mixed first ps (k + 1) fs :=
  ⟨h.len, fun i z e => (h.it i z e).imp id fun q => ⟨by omega, q.2⟩⟩
theorem Mixed.put {first : Int} {ps fs : List Str} {k : Nat} (h : Mixed first ps k fs) (hn : wordAt first k ∉ ps) (_ : k < 13) : Mixed first ps (k + 1) (fs.set k (wordAt first k)) :=
  ⟨by rw [List.length_set]; exact h.len, fun i z e => by
    rw [List.getElem?_set] at e
    split at e
    · rename_i hk
      split at e
      · cases e; subst hk; exact .inr ⟨by omega, rfl, hn⟩
      · cases e
    · exact (h.it i z e).imp id fun q => ⟨by omega, q.2⟩⟩
theorem Mixed.ok {first : Int} {ps fs : List Str} {k : Nat} (h : Mixed first ps k fs) (ok : ∀ z ∈ ps, NameOk z) : ∀ z ∈ fs, NameOk z := by
  intro z hz
  obtain ⟨i, hi⟩ := List.getElem?_of_mem hz
  rcases h.it i z hi with q | ⟨_, rfl, _⟩
  · exact ok z (List.mem_of_getElem? q)
  · exact words_ok _ (wordAt_mem ..)
theorem Mixed.nodup {first : Int} {ps fs : List Str} {k : Nat} (h : Mixed first ps k fs) (nd : ps.Nodup) (hk : k ≤ 13) : fs.Nodup := by
  rw [List.nodup_iff_pairwise_ne, List.pairwise_iff_getElem]
  intro i j hi hj hij e3
  have e1 := List.getElem?_eq_getElem hi
  have e2 := List.getElem?_eq_getElem hj
  rcases h.it i _ e1 with q1 | ⟨k1, w1, n1⟩ <;> rcases h.it j _ e2 with q2 | ⟨k2, w2, n2⟩
  · rw [e3] at q1
    have := (List.getElem?_inj (by rw [← h.len]; exact hi) nd).mp (q1.trans q2.symm)
    omega
  · rw [← e3] at n2
    exact n2 (List.mem_of_getElem? q1)
  · rw [e3] at n1
    exact n1 (List.mem_of_getElem? q2)
  · have := wordAt_inj (by omega) (by omega) (w1.symm.trans (e3.trans w2))
    omega
theorem flat_strs : ∀ zs : List Str, (zs.map V.str).all flatV = true
  | [] => rfl
  | _ :: zs => flat_strs zs
theorem inV_strs (z : Str) (zs : List Str) : inV (.str z) (zs.map V.str) = decide (z ∈ zs) := by
  induction zs with
  | nil => rfl
  | cons y r ih =>
    show (eqV (.str y) (.str z) || inV (.str z) (r.map V.str)) = _
    rw [ih]
    show ((y == z) || decide (z ∈ r)) = _
    by_cases h : y = z
    · subst h; simp
    · have h' : ¬ z = y := fun e => h e.symm
      simp [h, h']
def one (c : Nat) : Str := ⟨#[c]⟩
theorem cl_one (c : Nat) : cl (one c) = [c] := rfl
theorem sum_ones : ∀ l : List Nat, (l.map ((fun x : Str => x.length) ∘ one)).sum = l.length
  | [] => rfl
  | _ :: l => by
    rw [List.map_cons, List.sum_cons, sum_ones l]
    show 1 + l.length = l.length + 1
    omega
theorem join_ones (l : List Nat) : cl (Txt.join (Str.ofString "") (l.map one)) = l := by
  rw [TL.join_eq]
  induction l with
  | nil => rfl
  | cons x r ih =>
    cases r with
    | nil => rfl
    | cons y r =>
      show cl (one x ++ Str.ofString "" ++ Str.join (Str.ofString "") ((y :: r).map one)) = _
      rw [cl_app, cl_app, ih]
      rfl
section
variable {P : Program} {w : World} {K : PySem.W.Frag} {mg : Str → Option Value} {base : Heap}
def spNames : Sp := fun vs H Q _ => ∃ (s c : Addr) (T m : Nat), vs = [.ref s, .int m] ∧ StAt H s c T ∧ T + 30 ≤ 1000000 ∧ m ≤ 26 ∧
  ∀ (p : Addr) (zs : List Str) (H' : Hp), zs.length = m → zs.Nodup → (∀ z ∈ zs, NameOk z) → H p = none → H' p = some (.lst (zs.map V.str)) → StAt H' s c (T + 30) → Kept [s, c] H H' → Q (.ref p) H'
theorem Kept.fresh {M : List Addr} {H H' : Hp} (h : Kept M H H') {p : Addr} (n : H' p = none) (hm : ∀ q ∈ M, q ≠ p) : H p = none := by
  cases e : H p with
  | none => rfl
  | some o =>
    have := h p o e fun z => hm p z rfl
    rw [n] at this
    cases this
abbrev s_law_names : Stmt := topS 21
abbrev N_law_names : List Str := ["state", "many", "letters", "first", "way", "stem", "at", "step", "short", "plain", "some", "k", "name", "found", "word", "turn"]
theorem sc_law_names : FnScope N_law_names ["state", "many"] (defScope s_law_names) := ⟨rfl, rfl, rfl, by decide +kernel, rfl, by decide +kernel, by decide +kernel⟩

theorem ok_names {f : Addr} {fd : FuncData} (F : Fun K "_law_names" "_law_names" s_law_names f fd) (nb : NB mg) (D_law_take : Def P w K mg base 1 "_law_take" ["state", "many"] spTake) : FnOk P w K mg base CX0 2 f fd ["state", "many"] spNames := by
  refine F.ok sc_law_names (fun vs H Q E h => ?_) (fun cdv A outer sh H vs Q E hr h => ?_)
  · obtain ⟨s, c, T, m, rfl, _⟩ := h
    rfl
  · obtain ⟨s, c, T, m, rfl, S, hT, hm, q⟩ := h
    have nd := sc_law_names.nd
    have hu := hu_of hr
    refine ⟨_, (pss_cons (ps_asg (pe_tup (pa_cons pe_str (pa_cons (pe_own D_law_take hr (pa_cons (pv 0) (pa_cons pe_int pa_nil))) (pa_cons (pe_own D_law_take hr (pa_cons (pv 0) (pa_cons pe_int pa_nil))) pa_nil)))) (pg_tup rfl (pgs_cons (pg_name (i := 2) nd rfl (Or.inr rfl)) (pgs_cons (pg_name (i := 3) nd rfl (Or.inl rfl)) (pgs_cons (pg_name (i := 4) nd rfl (Or.inl rfl)) pgs_nil)))))
      (pss_cons (ps_set (i := 5) nd rfl (Or.inl rfl) (pe_join pe_str (pe_lc (own := [("turn", 15)]) (g := gName 15) (tt := tYes) rfl nd (pi_range1 (by rfl) nb.b_range (pa_cons (pe_own D_law_take hr (pa_cons (pv 0) (pa_cons pe_int pa_nil))) pa_nil)) (blkOk_by (N := N_law_names) (sc := defScope s_law_names) (by decide +kernel)) (fun _ _ _ _ _ => (pg_name (i := 15) nd rfl (Or.inl rfl))) (fun _ _ _ _ _ => pts_nil) (fun _ _ _ _ _ => (pe_item_str (pv 2) (pe_own D_law_take hr (pa_cons (pv 0) (pa_cons pe_int pa_nil))) (fun _ _ => rfl))))))
      (pss_cons (ps_par3 (i := 6) (j := 7) (l := 8) (by rfl) nd rfl rfl rfl (by decide) (by decide) (by decide) rfl rfl rfl (pa_cons (pe_own D_law_take hr (pa_cons (pv 0) (pa_cons (pe_op op_add (pe_callB call_len_str (by rfl) nb.b_len (by decide +kernel) (pa_cons (pv 5) pa_nil)) pe_int) pa_nil))) (pa_cons (pe_ix ix_list (pe_lst (pa_cons pe_int (pa_cons pe_int (pa_cons pe_int pa_nil)))) (pe_own D_law_take hr (pa_cons (pv 0) (pa_cons pe_int pa_nil))) (fun _ _ => rfl)) (pa_cons (pe_own D_law_take hr (pa_cons (pv 0) (pa_cons pe_int pa_nil))) pa_nil))) (by rfl))
      (pss_cons (ps_par (i := 9) (j := 10) (by rfl) nd rfl rfl (by decide) rfl rfl (pa_cons (pe_lst pa_nil) (pa_cons (pe_lst (pa_cons pe_str (pa_cons pe_str (pa_cons pe_str (pa_cons pe_str (pa_cons pe_str (pa_cons pe_str (pa_cons pe_str (pa_cons pe_str (pa_cons pe_str (pa_cons pe_str (pa_cons pe_str (pa_cons pe_str (pa_cons pe_str pa_nil)))))))))))))) pa_nil)) (by rfl))
      (pss_cons (ps_for PassesOwn.never rfl (pi_range1 (by rfl) nb.b_range (pa_cons (pv 1) pa_nil)) (pg_name (i := 11) nd rfl (Or.inl rfl))
        (pss_cons (ps_set (i := 12) nd rfl (Or.inl rfl) (pe_op op_add_str (pe_slice sl_str (pv 5) po_none (po_some (pv 6))) (pe_item_str (pv 2) (pe_op op_mod (pe_op op_add (pv 3) (pe_op op_mul (pv 7) (pv 11))) pe_int) (fun _ _ => rfl))))
        (pss_one (ps_expr (pe_bm PySem.F.plainAttrs_list PySem.F.slot_list_append PySem.F.type_list_append mt_append (pv 9) (pa_cons (pe_op op_add_str (pv 12) (pe_ix ix_list (pe_lst (pa_cons (pe_slice sl_str (pv 5) (po_some (pv 6)) po_none) (pa_cons (pe_slice sl_str (pe_slice sl_str (pv 5) (po_some (pv 6)) po_none) po_none (po_some (pe_op op_mod (pv 11) pe_int))) pa_nil))) (pv 8) (fun _ _ => rfl))) pa_nil))))))
      (pss_cons (ps_set (i := 13) nd rfl (Or.inl rfl) (pe_callTy call_list_of (by rfl) nb.b_list (by decide +kernel) (pa_cons (pv 9) pa_nil)))
      (pss_cons (ps_for PassesOwn.never rfl (pi_range1 (by rfl) nb.b_range (pa_cons (pe_op op_mul (pe_callB (call_min2 rfl) (by rfl) nb.b_min (by decide +kernel) (pa_cons (pv 1) (pa_cons pe_int pa_nil))) (pe_callTy call_int1 (by rfl) nb.b_int (by decide +kernel) (pa_cons (pe_cmpR op_eq (pv 4) pe_int (nomark _)) pa_nil))) pa_nil)) (pg_name (i := 11) nd rfl (Or.inl rfl))
        (pss_cons (ps_set (i := 14) nd rfl (Or.inl rfl) (pe_ix ix_list (pv 10) (pe_op op_mod (pe_op op_add (pv 3) (pv 11)) pe_int) (fun _ _ => rfl)))
        (pss_one (ps_if (PW.pt (pw_and (pt_cmpR op_notIn_seq (pv 14) (pv 9) (by rfl)) (pw_and1 (pt_cmpR op_eq (pe_own D_law_take hr (pa_cons (pv 0) (pa_cons pe_int pa_nil))) pe_int (nomark _)))))
          (pss_one (ps_asg (pv 14) (pg_sub (pv 13) (pv 11) set_list)))
          pss_nil))))
      (pss_one (ps_ret (pv 13)))))))))), ?_⟩
    -- letters, first, way
    refine ⟨.ref s, rfl, s, c, T, _, rfl, S, by omega, by decide, by decide, fun first H1 f0 f1 S1 K1 => ?_⟩
    refine ⟨.ref s, rfl, s, c, T + 1, _, rfl, S1, by omega, by decide, by decide, fun way H2 w0 w1 S2 K2 => ?_⟩
    refine ⟨(by show 3 ≤ sizeLine; decide), fun p2 n2 => ?_⟩
    have S2' := S2.upd_new (o := .tup [.str abc, .int first, .int way]) n2
    have K2' : Kept [s, c] H (upd H2 p2 (.tup [.str abc, .int first, .int way])) := (K1.trans K2).trans (Kept.upd_new n2)
    refine ⟨p2, _, rfl, .inl (.inl upd_same), rfl, _, _, rfl, _, _, rfl, _, _, rfl, rfl, ?_⟩
    -- stem
    refine ⟨⟨_, rfl⟩, .ref s, rfl, s, c, T + 2, _, rfl, S2', by omega, by decide, by decide, fun n H4 n0 n1 S4 K4 => ⟨n, rfl, by omega, by omega, fun D nD => ?_⟩⟩
    have nsD : s ≠ D := S4.nes nD
    have ncD : c ≠ D := S4.nec nD
    refine lc_range (lo := 0) (n := n.toNat) (fun i H' => ∃ l : List Nat, l.length = i ∧ (∀ x ∈ l, low x) ∧ H' D = some (.lst ((l.map one).map V.str)) ∧ StAt H' s c (T + 3 + i) ∧ Kept [D, s, c] H4 H') ⟨[], rfl, fun _ h => absurd h List.not_mem_nil, upd_same, S4.upd_new nD, Kept.upd_in (List.mem_cons_self ..)⟩ (fun i H5 hi hP => ?_) (fun H5 hP => ?_)
    · obtain ⟨l, el, hl, eD, S5, K5⟩ := hP
      refine ⟨rfl, ?_⟩
      unfold tYes
      dsimp only
      refine iteT ?_
      refine ⟨.str abc, rfl, .ref s, rfl, s, c, _, _, rfl, S5, by omega, by decide, by decide, fun d H6 d0 d1 S6 K6 => ?_⟩
      obtain ⟨j, rfl⟩ : ∃ j : Nat, d = (j : Int) := ⟨d.toNat, by omega⟩
      have hj : j < 26 := by omega
      have eD6 : H6 D = some (.lst ((l.map one).map V.str)) := K6 D _ eD (by simp [nsD.symm, ncD.symm])
      refine ⟨abc, (j : Int), j + 97, rfl, rfl, by omega, by omega, ?_, ?_, _, eD6, ?_, l ++ [j + 97], ?_, ?_, ?_, ?_, ?_⟩
      · rw [cl_len, abc_cl]; simp; omega
      · show abc.cps[j]? = _
        rw [← Array.getElem?_toList]; exact abc_at hj
      · rw [List.length_map, List.length_map]; exact small1000 (by omega)
      · rw [List.length_append, el]; rfl
      · intro x hx
        rcases List.mem_append.mp hx with h | h
        · exact hl x h
        · rw [List.mem_singleton.mp h]; unfold low; omega
      · rw [upd_same, List.map_append, List.map_append]; rfl
      · exact S6.upd nsD ncD
      · exact (K5.trans (K6.mono (by intro p hp; exact List.mem_cons_of_mem _ hp))).trans (Kept.upd_in (List.mem_cons_self ..))
    obtain ⟨st, el, hlow, eD, S5, K5⟩ := hP
    refine ⟨_, D, st.map one, rfl, rfl, .inl (.inl (.inl eD)), ?_, ?_⟩
    · rw [List.map_map, sum_ones]
      show st.length + (st.map one).length * 0 ≤ _
      omega
    generalize hz5 : Txt.join (Str.ofString "") (st.map one) = z5
    have c5 : cl z5 = st := by rw [← hz5]; exact join_ones st
    have l5 : z5.length = st.length := by rw [cl_len, c5]
    have st7 : st.length ≤ 7 := by omega
    have S5 : StAt H5 s c (T + 10) := S5.mono (by omega)
    have K5 : Kept [s, c] H H5 := K2'.trans (K4.trans (K5.new nD))
    clear eD hz5 nsD ncD K4 S4 nD n1 n0 el
    -- at, step, short
    refine ⟨.ref s, rfl, .str z5, rfl, z5, rfl, (by rw [l5]; exact Nat.le_of_lt (small1000 (by omega))), _, _, rfl, rfl, s, c, _, _, rfl, S5, by omega, ?_, ?_, fun a H6 a0 a1 S6 K6 => ?_⟩
    · show (0 : Int) < z5.length + 1; omega
    · show (z5.length : Int) + 1 < 2 ^ 62; omega
    obtain ⟨a, rfl⟩ : ∃ j : Nat, a = (j : Int) := ⟨a.toNat, by omega⟩
    have ha : a ≤ st.length := by
      have a1' : (a : Int) < z5.length + 1 := a1
      omega
    refine ⟨(by show 3 ≤ sizeLine; decide), fun p7 n7 => ?_⟩
    refine ⟨.ref s, rfl, s, c, _, _, rfl, S6.upd_new n7, by omega, by decide, by decide, fun e7 H7 e0 e1 S7 K7 => ?_⟩
    have h7 : H7 p7 = some (.lst [.int 3, .int 5, .int 25]) := K7 p7 _ upd_same (by simp [(S6.nes n7).symm, (S6.nec n7).symm])
    obtain ⟨step, hst, hat⟩ : ∃ step : Int, (step = 3 ∨ step = 5 ∨ step = 25) ∧ atI [V.int 3, V.int 5, V.int 25] e7 = some (.int step) := by
      have : e7 = 0 ∨ e7 = 1 ∨ e7 = 2 := by omega
      rcases this with rfl | rfl | rfl
      · exact ⟨3, .inl rfl, rfl⟩
      · exact ⟨5, .inr (.inl rfl), rfl⟩
      · exact ⟨25, .inr (.inr rfl), rfl⟩
    refine ⟨p7, _, _, _, rfl, rfl, .inl (.inl h7), hat, .ref s, rfl, s, c, _, _, rfl, S7, by omega, by decide, by decide, fun sh8 H8 s0 s1 S8 K8 => ?_⟩
    have K8 : Kept [s, c] H H8 := K5.trans (K6.trans (((Kept.upd_new n7).trans K7).trans K8))
    refine ⟨_, _, _, rfl, ?_⟩
    clear K7 S7 h7 n7 hat e0 e1 K6 S6 K5 S5 S2' K2'
    -- plain, some
    refine ⟨Nat.zero_le _, fun P9 nP => ?_⟩
    have S9 := S8.upd_new (o := .lst []) nP
    refine ⟨(by show 13 ≤ sizeLine; decide), fun W9 nW => ?_⟩
    have S10 := S9.upd_new (o := .lst (words13.map V.str)) nW
    have nPW : P9 ≠ W9 := ne_of_none upd_same nW
    refine ⟨_, _, rfl, ?_⟩
    have nsP := S8.nes nP
    have ncP := S8.nec nP
    have nsW := S9.nes nW
    have ncW := S9.nec nW
    -- for k in range(many)
    refine ⟨.int m, rfl, (m : Int), rfl, by omega, by omega, ?_⟩
    generalize hN : plainN st a first step sh8 = nm
    refine for_range (lo := 0) (n := (m : Int).toNat) (fun k σ H' => (∃ y11 y12, σ = [some (.ref s), some (.int m), some (.str abc), some (.int first), some (.int way), some (.str z5), some (.int a), some (.int step), some (.int sh8), some (.ref P9), some (.ref W9), y11, y12, none, none, none]) ∧
      H' P9 = some (.lst (((List.range k).map nm).map V.str)) ∧ H' W9 = some (.lst (words13.map V.str)) ∧ StAt H' s c (T + 13) ∧ Kept [P9, W9, s, c] H8 H') ⟨⟨none, none, rfl⟩, by rw [upd_ne nPW]; exact upd_same, upd_same, S10, ?_⟩ (fun k σ H9 hk hP => ?_) (fun σ H9 hP => ?_)
    · exact (Kept.upd_in (List.mem_cons_self ..)).trans (Kept.upd_in (List.mem_cons_of_mem _ (List.mem_cons_self ..)))
    · obtain ⟨⟨y11, y12, rfl⟩, eP, eW, S11, K11⟩ := hP
      have hkm : k < 26 := by omega
      -- name = stem[:at] + letters[..]
      have hz : z5.length ≤ sizeLine := by rw [l5]; exact Nat.le_of_lt (small1000 (by omega))
      have hL := letterOf_low first step k
      have x0 := Int.emod_nonneg (first + step * k) (show (26 : Int) ≠ 0 by decide)
      have x1 := Int.emod_lt_of_pos (first + step * k) (show (0 : Int) < 26 by decide)
      refine ⟨.str z5, rfl, .int a, rfl, _, rfl, z5, rfl, hz, .str abc, rfl, .int first, rfl, .int step, rfl, .int (0 + (k : Int)), rfl, _, _, rfl, rfl, .inl ⟨by omega, by omega⟩, _, _, rfl, rfl, _, _, rfl, rfl, (by decide : (0 : Int) < 26), abc, (first + step * k) % 26, letterOf first step k, rfl, ?_, x0, by omega, ?_, ?_, ?_⟩
      · show V.int ((first + step * (0 + (k : Int))) % 26) = _
        rw [Int.zero_add]
      · rw [cl_len, abc_cl]; simp; omega
      · rw [← Array.getElem?_toList]
        have h := abc_at (i := ((first + step * k) % 26).toNat) (by omega)
        exact h
      have c1 : cl (cutS z5 none (some (a : Int))) = st.take a := by
        rw [cut_cl, c5, HT.sIx_none, HT.sIx_nat, l5, Nat.min_eq_left ha, Nat.sub_zero, List.drop_zero]
      refine ⟨_, _, rfl, rfl, ?_, ?_⟩
      · rw [cl_len, c1, List.length_take]
        exact Nat.le_of_lt (small1000 (by show min a st.length + 1 ≤ 1000; omega))
      generalize hnm : cutS z5 none (some (a : Int)) ++ (⟨#[letterOf first step k]⟩ : Str) = nam
      have cn : cl nam = st.take a ++ [letterOf first step k] := by rw [← hnm, cl_app, c1]; rfl
      -- plain.append(name + [.., ..][short])
      have c2 : cl (cutS z5 (some (a : Int)) none) = st.drop a := by
        rw [cut_cl, c5, HT.sIx_none, HT.sIx_nat, l5, Nat.min_eq_left ha, List.take_of_length_le]
        rw [List.length_drop]
        exact Nat.le_refl _
      have l2 : (cutS z5 (some (a : Int)) none).length = st.length - a := by rw [cl_len, c2, List.length_drop]
      refine ⟨.ref P9, rfl, .inl ⟨rfl, _, .inl (.inl eP)⟩, .str nam, rfl, .str z5, rfl, .int a, rfl, _, rfl, z5, rfl, hz, .str z5, rfl, .int a, rfl, _, rfl, z5, rfl, hz, .int (0 + (k : Int)), rfl, _, _, rfl, rfl, (by decide : (0 : Int) < 3), _, rfl, _, rfl, (by rw [l2]; exact Nat.le_of_lt (small1000 (by omega))), (by show 2 ≤ sizeLine; decide), fun p12 n12 => ?_⟩
      have neP : P9 ≠ p12 := ne_of_none eP n12
      have neW : W9 ≠ p12 := ne_of_none eW n12
      have c3 : cl (cutS (cutS z5 (some (a : Int)) none) none (some ((0 + (k : Int)) % 3))) = (st.drop a).take (k % 3) := by
        have ek : (0 + (k : Int)) % 3 = ((k % 3 : Nat) : Int) := by omega
        rw [ek, cut_cl, c2, HT.sIx_none, HT.sIx_nat, Nat.sub_zero, List.drop_zero, l2, List.take_eq_take_iff, List.length_drop]
        omega
      obtain ⟨tl8, htl, hat8⟩ : ∃ t8 : Str, cl t8 = (if sh8 = 0 then st.drop a else (st.drop a).take (k % 3)) ∧ atI [V.str (cutS z5 (some (a : Int)) none), V.str (cutS (cutS z5 (some (a : Int)) none) none (some ((0 + (k : Int)) % 3)))] sh8 = some (.str t8) := by
        have : sh8 = 0 ∨ sh8 = 1 := by omega
        rcases this with rfl | rfl
        · exact ⟨_, by rw [c2, if_pos rfl], rfl⟩
        · exact ⟨_, by rw [c3, if_neg (by decide)], rfl⟩
      refine ⟨.int sh8, rfl, p12, _, _, _, rfl, rfl, .inl (.inl upd_same), hat8, nam, tl8, rfl, rfl, ?_, P9, _, _, rfl, rfl, (by rw [upd_ne neP]; exact eP), ?_, ?_⟩
      · rw [cl_len, cl_len, cn, htl, List.length_append, List.length_take, List.length_singleton]
        refine Nat.le_of_lt (small1000 ?_)
        split
        · rw [List.length_drop]; omega
        · rw [List.length_take, List.length_drop]; omega
      · rw [List.length_map, List.length_map, List.length_range]; exact small1000 (by omega)
      · have en : nam ++ tl8 = nm k := by
          rw [← hN]
          refine cl_inj ?_
          rw [cl_app, cn, htl]
          rfl
        refine ⟨⟨some (.int (0 + (k : Int))), some (.str nam), rfl⟩, ?_, ?_, ?_, ?_⟩
        · rw [upd_same, List.range_succ, List.map_append, List.map_append, en]; rfl
        · rw [upd_ne nPW.symm, upd_ne neW]; exact eW
        · exact (S11.upd_new n12).upd nsP ncP
        · exact K11.trans ((Kept.upd_new n12).trans (Kept.upd_in (List.mem_cons_self ..)))
    · obtain ⟨⟨y11, y12, rfl⟩, eP, eW, S11, K11⟩ := hP
      have em : ((m : Int).toNat) = m := rfl
      rw [em] at eP
      have nodP : (((List.range m).map nm)).Nodup := by
        rw [List.nodup_iff_pairwise_ne, List.pairwise_map]
        refine List.Pairwise.imp_of_mem (fun {i j} hi hj hij => ?_) List.nodup_range
        intro z
        rw [← hN] at z
        exact hij (plain_inj ha hst (by have := List.mem_range.mp hi; omega) (by have := List.mem_range.mp hj; omega) z)
      have okP : ∀ z ∈ (List.range m).map nm, NameOk z := by
        intro z hz
        obtain ⟨k, _, rfl⟩ := List.mem_map.mp hz
        rw [← hN]
        exact plain_ok hlow st7
      have lenP : ((List.range m).map nm).length = m := by rw [List.length_map, List.length_range]
      generalize (List.range m).map nm = ps at eP nodP okP lenP
      clear hN nm S9 S10
      -- found = list(plain)
      refine ⟨.ref P9, rfl, P9, _, rfl, .inl (.inl (.inl eP)), fun F10 nF => ?_⟩
      have eF : (upd H9 F10 (.lst (ps.map V.str))) F10 = some (.lst (ps.map V.str)) := upd_same
      have nPF : P9 ≠ F10 := ne_of_none eP nF
      have nWF : W9 ≠ F10 := ne_of_none eW nF
      have nsF := S11.nes nF
      have ncF := S11.nec nF
      have eP1 : (upd H9 F10 (.lst (ps.map V.str))) P9 = some (.lst (ps.map V.str)) := by rw [upd_ne nPF]; exact eP
      have eW1 : (upd H9 F10 (.lst (ps.map V.str))) W9 = some (.lst (words13.map V.str)) := by rw [upd_ne nWF]; exact eW
      have S12 := S11.upd_new (o := .lst (ps.map V.str)) nF
      have K12 : Kept [P9, W9, s, c] H8 (upd H9 F10 (.lst (ps.map V.str))) := K11.trans (Kept.upd_new nF)
      have nF8 : H8 F10 = none := K11.fresh nF (by
        intro q hq
        simp only [List.mem_cons, List.not_mem_nil, or_false] at hq
        rcases hq with rfl | rfl | rfl | rfl
        · exact nPF
        · exact nWF
        · exact nsF
        · exact ncF)
      generalize upd H9 F10 (.lst (ps.map V.str)) = H10 at eF eP1 eW1 S12 K12 ⊢
      -- for k in range(min(many, 13) * int(way == 0))
      refine ⟨.int m, rfl, _, _, rfl, .int way, rfl, rfl, .inr ⟨_, rfl, _, _, rfl, rfl, .inl ⟨?_, ?_⟩, _, rfl, ?_, ?_, ?_⟩⟩
      · omega
      · omega
      · show -(2 ^ 62 : Int) ≤ (if (13 : Int) < (m : Int) then 13 else (m : Int)) * (if decide (V.int way = V.int 0) = true then 1 else 0)
        split <;> split <;> omega
      · show (if (13 : Int) < (m : Int) then 13 else (m : Int)) * (if decide (V.int way = V.int 0) = true then 1 else 0) < (2 ^ 62 : Int)
        split <;> split <;> omega
      · obtain ⟨N, hN, hN13, hNm⟩ : ∃ N : Nat, ((if (13 : Int) < (m : Int) then 13 else (m : Int)) * (if decide (V.int way = V.int 0) = true then 1 else 0) : Int).toNat = N ∧ N ≤ 13 ∧ N ≤ m := by
          refine ⟨_, rfl, ?_, ?_⟩ <;> (split <;> split <;> omega)
        rw [show ((if (13 : Int) < (m : Int) then 13 else (m : Int)) * (if decide (V.int way = V.int 0) = true then 1 else 0) : Int).toNat = N from hN]
        refine for_range (lo := 0) (n := N) (fun k σ H' => (∃ y11 y12 y14, σ = [some (.ref s), some (.int m), some (.str abc), some (.int first), some (.int way), some (.str z5), some (.int a), some (.int step), some (.int sh8), some (.ref P9), some (.ref W9), y11, y12, some (.ref F10), y14, none]) ∧
          (∃ fs : List Str, H' F10 = some (.lst (fs.map V.str)) ∧ Mixed first ps k fs) ∧ H' P9 = some (.lst (ps.map V.str)) ∧ H' W9 = some (.lst (words13.map V.str)) ∧ StAt H' s c (T + 13 + k) ∧ Kept [F10, P9, W9, s, c] H8 H') ⟨⟨y11, y12, none, rfl⟩, ⟨ps, eF, mixed_start first nodP okP⟩, eP1, eW1, S12, K12.mono (fun _ h => List.mem_cons_of_mem _ h)⟩ (fun k σ H11 hk hP => ?_) (fun σ H11 hP => ?_)
        · obtain ⟨⟨y11, y12, y14, rfl⟩, ⟨fs, eF, mx⟩, eP, eW, S13, K13⟩ := hP
          -- word = some[(first + k) % 13]
          have g0 := Int.emod_nonneg (first + k) (show (13 : Int) ≠ 0 by decide)
          have g1 := Int.emod_lt_of_pos (first + k) (show (0 : Int) < 13 by decide)
          have gw : (words13.map V.str)[((first + k) % 13).toNat]? = some (.str (wordAt first k)) := by
            rw [List.getElem?_map, wordAt_get first k]
            rfl
          refine ⟨.ref W9, rfl, .int first, rfl, .int (0 + (k : Int)), rfl, _, _, rfl, rfl, _, _, rfl, rfl, (by decide : (0 : Int) < 13), W9, _, _, .str (wordAt first k), rfl, rfl, .inl (.inl eW), ?_, ?_⟩
          · show atI (words13.map V.str) ((first + (0 + (k : Int))) % 13) = _
            rw [Int.zero_add, show (first + k) % 13 = ((((first + k) % 13).toNat : Nat) : Int) by omega]
            exact atI_nat gw
          -- if word not in plain and ..
          refine ⟨.str (wordAt first k), rfl, .ref P9, rfl, P9, _, rfl, .inl (.inl (.inl eP)), rfl, flat_strs ps, _, rfl, ?_⟩
          rw [if_pos rfl, inV_strs]
          refine ite2 (fun hn => ?_) (fun hn => ?_)
          · have hnot : wordAt first k ∉ ps := by simpa using hn
            refine ⟨.ref s, rfl, s, c, _, _, rfl, S13, by omega, by decide, by decide, fun d H12 d0 d1 S14 K14 => ?_⟩
            have out : ∀ q, q = P9 ∨ q = W9 ∨ q = F10 → q ∉ [s, c] := by
              intro q hq hm'
              simp only [List.mem_cons, List.not_mem_nil, or_false] at hm'
              rcases hq with rfl | rfl | rfl <;> rcases hm' with z | z
              · exact nsP z.symm
              · exact ncP z.symm
              · exact nsW z.symm
              · exact ncW z.symm
              · exact nsF z.symm
              · exact ncF z.symm
            have eF' := K14.at eF (out _ (.inr (.inr rfl)))
            have eP' := K14.at eP (out _ (.inl rfl))
            have eW' := K14.at eW (out _ (.inr (.inl rfl)))
            have K15 : Kept [F10, P9, W9, s, c] H8 H12 := K13.trans (K14.mono (by
              intro q hq
              exact List.mem_cons_of_mem _ (List.mem_cons_of_mem _ (List.mem_cons_of_mem _ hq))))
            refine ⟨rfl, _, rfl, ite2 (fun _ => ?_) (fun _ => ?_)⟩
            · -- found[k] = word
              refine ⟨.str (wordAt first k), rfl, .ref F10, rfl, .int (0 + (k : Int)), rfl, F10, _, _, k, rfl, rfl, eF', ?_, ?_⟩
              · rw [Int.zero_add, List.length_map, mx.len, lenP]
                exact ixN_nat (by omega)
              · refine ⟨⟨some (.int (0 + (k : Int))), y12, some (.str (wordAt first k)), rfl⟩, ⟨_, by rw [upd_same, ← List.map_set], mx.put hnot (by omega)⟩, by rw [upd_ne nPF]; exact eP', by rw [upd_ne nWF]; exact eW', (S14.upd nsF ncF).mono (by omega), K15.trans (Kept.upd_in (List.mem_cons_self ..))⟩
            · exact ⟨⟨some (.int (0 + (k : Int))), y12, some (.str (wordAt first k)), rfl⟩, ⟨fs, eF', mx.skip⟩, eP', eW', S14.mono (by omega), K15⟩
          · refine iteF ?_
            exact ⟨⟨some (.int (0 + (k : Int))), y12, some (.str (wordAt first k)), rfl⟩, ⟨fs, eF, mx.skip⟩, eP, eW, S13.mono (by omega), K13⟩
        · obtain ⟨⟨y11, y12, y14, rfl⟩, ⟨fs, eF, mx⟩, eP, eW, S13, K13⟩ := hP
          refine ⟨.ref F10, rfl, ?_⟩
          refine q F10 fs H11 (by rw [mx.len, lenP]) (mx.nodup nodP (by omega)) (mx.ok okP) (K8.fresh nF8 ?_) eF (S13.mono (by omega)) (K8.trans ?_)
          · intro z hz
            simp only [List.mem_cons, List.not_mem_nil, or_false] at hz
            rcases hz with rfl | rfl
            · exact nsF
            · exact ncF
          · intro p o e hp
            exact K13 p o e (by
              intro z
              simp only [List.mem_cons, List.not_mem_nil, or_false] at z hp
              rcases z with rfl | rfl | rfl | z
              · rw [nF8] at e; cases e
              · rw [nP] at e; cases e
              · rw [Same.free (same_upd nP) nW] at e; cases e
              · exact hp z)
end
end TT

set_option Elab.async false
set_option linter.all false
set_option maxRecDepth 100000
namespace TT
open PySem PySem.Spec PyProof.Rows L2
/-! ### worths -/
def wV : Option Int → V
  | none => .non
  | some i => .int i
def wD : Option Int → PyData
  | none => .none
  | some i => .int i
def WOk : Option Int → Prop
  | none => True
  | some i => -1000000000 ≤ i ∧ i ≤ 1000000000
theorem dp_w {K : PySem.W.Frag} {H : Hp} : ∀ o : Option Int, Dp K H (wV o) (wD o)
  | none => .non
  | some i => .int i
section
variable {P : Program} {w : World} {K : PySem.W.Frag} {mg : Str → Option Value} {base : Heap}
def spWorth : Sp := fun vs H Q _ => ∃ (s c : Addr) (T : Nat), vs = [.ref s] ∧ StAt H s c T ∧ T + 3 ≤ 1000000 ∧
  ∀ (o : Option Int) (H' : Hp), WOk o → StAt H' s c (T + 3) → Kept [s, c] H H' → Q (wV o) H'
abbrev s_law_worth : Stmt := topS 22
abbrev N_law_worth : List Str := ["state", "way"]
theorem sc_law_worth : FnScope N_law_worth ["state"] (defScope s_law_worth) := ⟨rfl, rfl, rfl, by decide +kernel, rfl, by decide +kernel, by decide +kernel⟩

theorem ok_worth {f : Addr} {fd : FuncData} (F : Fun K "_law_worth" "_law_worth" s_law_worth f fd) (D_law_take : Def P w K mg base 1 "_law_take" ["state", "many"] spTake) : FnOk P w K mg base CX0 2 f fd ["state"] spWorth := by
  refine F.ok sc_law_worth (fun vs H Q E h => ?_) (fun cdv A outer sh H vs Q E hr h => ?_)
  · obtain ⟨s, c, T, rfl, _⟩ := h
    rfl
  · obtain ⟨s, c, T, rfl, S, hT, q⟩ := h
    have nd := sc_law_worth.nd
    have hu := hu_of hr
    refine ⟨_, (pss_cons (ps_set (i := 1) nd rfl (Or.inl rfl) (pe_own D_law_take hr (pa_cons (pv 0) (pa_cons pe_int pa_nil))))
      (pss_cons (ps_if (pt_cmpR op_lt (pv 1) pe_int (nomark _))
        (pss_one (ps_ret (pe_ix ix_list (pe_lst (pa_cons pe_non (pa_cons pe_int pa_nil))) (pv 1) (fun _ _ => rfl))))
        pss_nil)
      (pss_cons (ps_if (pt_cmpR op_lt (pv 1) pe_int (nomark _))
        (pss_one (ps_ret (pe_op op_sub (pe_own D_law_take hr (pa_cons (pv 0) (pa_cons pe_int pa_nil))) pe_int)))
        pss_nil)
      (pss_one (ps_ret (pe_ix ix_list (pe_lst (pa_cons (pe_op op_sub (pe_own D_law_take hr (pa_cons (pv 0) (pa_cons (pe_op op_add (pe_op op_mul pe_int (pe_op op_pow pe_int pe_int)) pe_int) pa_nil))) (pe_op op_pow pe_int pe_int)) (pa_cons (pe_op op_sub (pe_op op_pow pe_int pe_int) (pe_op op_mul (pe_op op_mul pe_int (pe_op op_pow pe_int pe_int)) (pe_own D_law_take hr (pa_cons (pv 0) (pa_cons pe_int pa_nil))))) pa_nil))) (pe_op op_sub (pv 1) pe_int) (fun _ _ => rfl))))))), ?_⟩
    refine ⟨.ref s, rfl, s, c, T, _, rfl, S, by omega, by decide, by decide, fun way H1 w0 w1 S1 K1 => ?_⟩
    refine ⟨.int way, rfl, _, _, rfl, rfl, _, rfl, ite2 (fun h1 => ?_) (fun h1 => ?_)⟩
    · have h1 : way < 2 := of_decide_eq_true h1
      refine ⟨(by show 2 ≤ sizeLine; decide), fun p np => ?_⟩
      have : way = 0 ∨ way = 1 := by omega
      rcases this with rfl | rfl
      · exact ⟨.int 0, rfl, p, _, _, .non, rfl, rfl, .inl (.inl upd_same), rfl, q none _ trivial ((S1.upd_new np).mono (by omega)) (K1.trans (Kept.upd_new np))⟩
      · exact ⟨.int 1, rfl, p, _, _, .int 0, rfl, rfl, .inl (.inl upd_same), rfl, q (some 0) _ ⟨by decide, by decide⟩ ((S1.upd_new np).mono (by omega)) (K1.trans (Kept.upd_new np))⟩
    · have h1 : ¬ way < 2 := fun h => h1 (decide_eq_true h)
      refine ⟨.int way, rfl, _, _, rfl, rfl, _, rfl, ite2 (fun h2 => ?_) (fun h2 => ?_)⟩
      · refine ⟨.ref s, rfl, s, c, _, _, rfl, S1, by omega, by decide, by decide, fun d H2 d0 d1 S2 K2 => ⟨_, _, rfl, rfl, ?_⟩⟩
        exact q (some (d - 4)) _ ⟨by omega, by omega⟩ (S2.mono (by omega)) (K1.trans K2)
      · have h2 : ¬ way < 6 := fun h => h2 (decide_eq_true h)
        refine ⟨.ref s, rfl, 10, 9, rfl, rfl, ⟨by decide, by decide, by decide⟩, _, _, rfl, rfl, .inl ⟨by decide, by decide⟩, _, _, rfl, rfl, s, c, _, _, rfl, S1, by omega, by decide, by decide, fun d H2 d0 d1 S2 K2 => ?_⟩
        refine ⟨10, 9, rfl, rfl, ⟨by decide, by decide, by decide⟩, _, _, rfl, rfl, ?_⟩
        refine ⟨10, 9, rfl, rfl, ⟨by decide, by decide, by decide⟩, 10, 9, rfl, rfl, ⟨by decide, by decide, by decide⟩, _, _, rfl, rfl, .inl ⟨by decide, by decide⟩, .ref s, rfl, s, c, _, _, rfl, S2, by omega, by decide, by decide, fun e H3 e0 e1 S3 K3 => ?_⟩
        refine ⟨_, _, rfl, rfl, .inl ⟨by decide, by decide⟩, _, _, rfl, rfl, (by show 2 ≤ sizeLine; decide), fun p np => ?_⟩
        have e9 : (10 : Int) ^ (9 : Int).toNat = 1000000000 := by decide
        have d1' : d < 2 * 1000000000 + 1 := by rw [← e9]; exact d1
        have S4 := (S3.upd_new (o := .lst [.int (d - 10 ^ (9 : Int).toNat), .int (10 ^ (9 : Int).toNat - 2 * 10 ^ (9 : Int).toNat * e)]) np).mono (T' := T + 3) (by omega)
        have K4 : Kept [s, c] H (upd H3 p (.lst [.int (d - 10 ^ (9 : Int).toNat), .int (10 ^ (9 : Int).toNat - 2 * 10 ^ (9 : Int).toNat * e)])) := K1.trans (K2.trans (K3.trans (Kept.upd_new np)))
        have : way = 6 ∨ way = 7 := by omega
        rcases this with rfl | rfl
        · exact ⟨.int 6, rfl, _, _, rfl, rfl, p, _, _, .int (d - 10 ^ (9 : Int).toNat), rfl, rfl, .inl (.inl upd_same), rfl, q (some (d - 10 ^ (9 : Int).toNat)) _ ⟨by rw [e9]; omega, by rw [e9]; omega⟩ S4 K4⟩
        · exact ⟨.int 7, rfl, _, _, rfl, rfl, p, _, _, .int (10 ^ (9 : Int).toNat - 2 * 10 ^ (9 : Int).toNat * e), rfl, rfl, .inl (.inl upd_same), rfl, q (some (10 ^ (9 : Int).toNat - 2 * 10 ^ (9 : Int).toNat * e)) _ ⟨by rw [e9]; omega, by rw [e9]; omega⟩ S4 K4⟩
end
end TT

set_option Elab.async false
set_option linter.all false
set_option maxRecDepth 100000
namespace TT
open PySem PySem.Spec PyProof.Rows L2
/-! ### tables as plain data -/
abbrev Col := Str × Option Int
abbrev Tab := Str × List Col
def colD (x : Col) : PyData := .tuple [.str x.1, wD x.2]
def tabD (x : Tab) : PyData := .tuple [.str x.1, .tuple (x.2.map colD)]
structure ColsOk (n : Nat) (cs : List Col) : Prop where
  top : cs.length ≤ n
  nd : (cs.map (·.1)).Nodup
  nm : ∀ x ∈ cs, NameOk x.1
  w : ∀ x ∈ cs, WOk x.2
  key : ∀ x, cs[0]? = some x → x.2 = none
structure TabsOk (n : Nat) (ts : List Tab) : Prop where
  nd : (ts.map (·.1)).Nodup
  nm : ∀ x ∈ ts, NameOk x.1
  cs : ∀ x ∈ ts, ColsOk n x.2 ∧ 0 < x.2.length
theorem strOk_name {z : Str} (h : NameOk z) : PyData.strOk z = true := by
  unfold PyData.strOk
  rw [Array.all_eq_true']
  intro x hx
  have := h.low x (by unfold cl; exact Array.mem_toList_iff.mpr hx)
  unfold low at this
  simp; omega
theorem lay_w : ∀ o : Option Int, (wD o).canLay0 = true ∧ (wD o).depth = 0
  | none => ⟨rfl, rfl⟩
  | some _ => ⟨rfl, rfl⟩
theorem lay_cols : ∀ cs : List Col, (∀ x ∈ cs, NameOk x.1) → PyData.canLayAll0 (cs.map colD) = true ∧ PyData.depthAll (cs.map colD) ≤ 1
  | [], _ => ⟨rfl, Nat.zero_le _⟩
  | x :: cs, h => by
    obtain ⟨h1, h2⟩ := lay_cols cs fun y hy => h y (List.mem_cons_of_mem _ hy)
    have h3 := strOk_name (h x (List.mem_cons_self ..))
    obtain ⟨h4, h5⟩ := lay_w x.2
    constructor
    · show ((PyData.strOk x.1 && ((wD x.2).canLay0 && true)) && PyData.canLayAll0 (cs.map colD)) = true
      rw [h3, h4, h1]; rfl
    · show max (max 0 (max (wD x.2).depth 0) + 1) (PyData.depthAll (cs.map colD)) ≤ 1
      rw [h5]
      exact Nat.max_le.mpr ⟨Nat.le_refl _, h2⟩
theorem shaped_cols {cs : List Col} (h : ∀ x ∈ cs, NameOk x.1) : SeqAt.shaped (.list (cs.map colD)) = true := by
  obtain ⟨h1, h2⟩ := lay_cols cs h
  show (PyData.canLayAll0 (cs.map colD) && decide (PyData.depthAll (cs.map colD) + 1 ≤ 64)) = true
  rw [h1, decide_eq_true (by omega)]; rfl
theorem eqv_nil (ds : List PyData) : PyData.eqv (.list ds) (.list []) = ds.isEmpty := by
  cases ds <;> rfl
section
variable {P : Program} {w : World} {K : PySem.W.Frag} {mg : Str → Option Value} {base : Heap}
def spTables (K : PySem.W.Frag) : Sp := fun vs H Q _ => ∃ (s c : Addr) (T m n : Nat), vs = [.ref s, .int m, .int n] ∧ StAt H s c T ∧ T + 1000 ≤ 1000000 ∧ m ≤ 8 ∧ 0 < n ∧ n ≤ 8 ∧
  ∀ (p : Addr) (ts : List Tab) (H' : Hp), ts.length = m → TabsOk n ts → H p = none → Dp K (msk [s, c] H') (.ref p) (.tuple (ts.map tabD)) → StAt H' s c (T + 1000) → Kept [s, c] H H' → Q (.ref p) H'
abbrev s_law_tables : Stmt := topS 23
abbrev N_law_tables : List Str := ["state", "many", "wide", "found", "all_wide", "name", "columns", "column"]
theorem sc_law_tables : FnScope N_law_tables ["state", "many", "wide"] (defScope s_law_tables) := ⟨rfl, rfl, rfl, by decide +kernel, rfl, by decide +kernel, by decide +kernel⟩

theorem ok_tables {f : Addr} {fd : FuncData} (F : Fun K "_law_tables" "_law_tables" s_law_tables f fd) (nb : NB mg) (D_law_take : Def P w K mg base 1 "_law_take" ["state", "many"] spTake)
    (D_law_names : Def P w K mg base 2 "_law_names" ["state", "many"] spNames) (D_law_worth : Def P w K mg base 2 "_law_worth" ["state"] spWorth) : FnOk P w K mg base CX0 3 f fd ["state", "many", "wide"] (spTables K) := by
  refine F.ok sc_law_tables (fun vs H Q E h => ?_) (fun cdv A outer sh H vs Q E hr h => ?_)
  · obtain ⟨s, c, T, m, n, rfl, _⟩ := h
    rfl
  · obtain ⟨s, c, T, m, n, rfl, S, hT, hm, hn0, hn, q⟩ := h
    have nd := sc_law_tables.nd
    have hu := hu_of hr
    refine ⟨_, (pss_cons (ps_par (i := 3) (j := 4) (by rfl) nd rfl rfl (by decide) rfl rfl (pa_cons (pe_lst pa_nil) (pa_cons (pe_cmpR op_eq (pe_own D_law_take hr (pa_cons (pv 0) (pa_cons pe_int pa_nil))) pe_int (nomark _)) pa_nil)) (by rfl))
      (pss_cons (ps_for PassesOwn.never rfl (pi_list (pe_own D_law_names hr (pa_cons (pv 0) (pa_cons (pv 1) pa_nil)))) (pg_name (i := 5) nd rfl (Or.inl rfl))
        (pss_cons (ps_set (i := 6) nd rfl (Or.inl rfl) (pe_lst pa_nil))
        (pss_cons (ps_for PassesOwn.never rfl (pi_list (pe_own D_law_names hr (pa_cons (pv 0) (pa_cons (pe_ifExp (pt_val (pv 4)) (pv 2) (pe_op op_add pe_int (pe_own D_law_take hr (pa_cons (pv 0) (pa_cons (pv 2) pa_nil))))) pa_nil)))) (pg_name (i := 7) nd rfl (Or.inl rfl))
          (pss_one (ps_expr (pe_bm PySem.F.plainAttrs_list PySem.F.slot_list_append PySem.F.type_list_append mt_append (pv 6) (pa_cons (pe_tup (pa_cons (pv 7) (pa_cons (pe_ifExp (pt_cmpR (op_neD hr.units) (pv 6) (pe_lst pa_nil) (nomark _)) (pe_own D_law_worth hr (pa_cons (pv 0) pa_nil)) pe_non) pa_nil))) pa_nil)))))
        (pss_one (ps_expr (pe_bm PySem.F.plainAttrs_list PySem.F.slot_list_append PySem.F.type_list_append mt_append (pv 3) (pa_cons (pe_tup (pa_cons (pv 5) (pa_cons (pe_callTy call_tuple_of (by rfl) nb.b_tuple (by decide +kernel) (pa_cons (pv 6) pa_nil)) pa_nil))) pa_nil)))))))
      (pss_one (ps_ret (pe_callTy call_tuple_of (by rfl) nb.b_tuple (by decide +kernel) (pa_cons (pv 3) pa_nil)))))), ?_⟩
    -- found, all_wide = [], ..
    refine ⟨Nat.zero_le _, fun P3 n3 => ⟨.ref s, rfl, s, c, T, _, rfl, S.upd_new n3, by omega, by decide, by decide, fun d H1 d0 d1 S1 K1 => ?_⟩⟩
    have ns3 := S.nes n3
    have nc3 := S.nec n3
    have out3 : P3 ∉ [s, c] := by
      intro z
      simp only [List.mem_cons, List.not_mem_nil, or_false] at z
      rcases z with z | z
      · exact ns3 z.symm
      · exact nc3 z.symm
    have e3 : H1 P3 = some (.lst []) := K1.at upd_same out3
    have K01 : Kept [P3, s, c] H H1 := (Kept.upd_new n3).trans (K1.mono (by intro p hp; exact List.mem_cons_of_mem _ hp))
    refine ⟨rfl, _, _, rfl, ?_⟩
    generalize hb : decide (V.int d = V.int 0) = bw
    -- for name in ..
    refine ⟨.ref s, rfl, .int m, rfl, s, c, _, m, rfl, S1, by omega, by omega, fun pn zs H2 lz ndz okz nfz ez S2 K2 => ⟨pn, rfl, ⟨_, .inl (.inl ez)⟩, ?_⟩⟩
    have e3' : H2 P3 = some (.lst []) := K2.at e3 out3
    have ncn : pn ≠ P3 := fun z => by
      rw [z, e3] at nfz
      cases nfz
    have nsn : s ≠ pn := S1.nes nfz
    have ncp : c ≠ pn := S1.nec nfz
    have outn : pn ∉ [P3, s, c] := by
      intro z
      simp only [List.mem_cons, List.not_mem_nil, or_false] at z
      rcases z with z | z | z
      · exact ncn z
      · exact nsn z.symm
      · exact ncp z.symm
    have K02 : Kept [P3, s, c] H H2 := K01.trans (K2.mono (by intro p hp; exact List.mem_cons_of_mem _ hp))
    refine for_list (K := K) (a := pn) (xs := zs.map V.str) (fun i σ H' => (∃ y5 y6 y7, σ = [some (.ref s), some (.int m), some (.int n), some (.ref P3), some (.bl bw), y5, y6, y7]) ∧
      (∃ (vs : List V) (ts : List Tab), H' P3 = some (.lst vs) ∧ DpAll K (msk [P3, s, c] H') vs (ts.map tabD) ∧ ts.map (·.1) = zs.take i ∧ ∀ x ∈ ts, ColsOk n x.2 ∧ 0 < x.2.length) ∧ H' pn = some (.lst (zs.map V.str)) ∧ StAt H' s c (T + 31 + i * 100) ∧ Kept [P3, s, c] H H')
      ⟨⟨none, none, none, rfl⟩, ⟨[], [], e3', .nil, rfl, fun _ h => absurd h List.not_mem_nil⟩, ez, S2.mono (by omega), K02⟩ (fun i σ H' _ hP => .inl (.inl hP.2.2.1)) (fun i x σ H3 hx hP => ?_) (fun σ H3 hP => ?_)
    · obtain ⟨⟨y5, y6, y7, rfl⟩, ⟨vs, ts, eP, dp, em, okc⟩, en, S3, K3⟩ := hP
      rw [List.getElem?_map] at hx
      obtain ⟨z, hz, rfl⟩ := Option.map_eq_some_iff.mp hx
      have hi : i < zs.length := (List.getElem?_eq_some_iff.mp hz).1
      -- columns = []
      refine ⟨Nat.zero_le _, fun P6 n6 => ?_⟩
      have ns6 := S3.nes n6
      have nc6 := S3.nec n6
      have n36 : P3 ≠ P6 := ne_of_none eP n6
      have nn6 : pn ≠ P6 := ne_of_none en n6
      have S4 := S3.upd_new (o := .lst []) n6
      have K4 : Kept [P6, P3, s, c] H3 (upd H3 P6 (.lst [])) := Kept.upd_new n6
      have e6 : (upd H3 P6 (.lst [])) P6 = some (.lst []) := upd_same
      have n6H : H P6 = none := K3.fresh n6 (by
        intro q hq
        simp only [List.mem_cons, List.not_mem_nil, or_false] at hq
        rcases hq with rfl | rfl | rfl
        · exact n36
        · exact ns6
        · exact nc6)
      -- for column in ..
      refine ⟨.ref s, rfl, _, rfl, ?_⟩
      have im : i < 8 := by omega
      cases bw
      case' true =>
        refine ⟨_, rfl, iteT ?_⟩
        refine ⟨.int n, rfl, s, c, _, n, rfl, S4, by omega, by omega, fun pq ys H5 ly ndy oky nfy ey S5 K5 => ⟨pq, rfl, ⟨_, .inl (.inl ey)⟩, ?_⟩⟩
        have ly2 : 0 < ys.length ∧ ys.length ≤ n := by omega
        have n5 : P6 ≠ pq := ne_of_none e6 nfy
        have n35 : P3 ≠ pq := ne_of_none (show (upd H3 P6 (.lst [])) P3 = some _ by rw [upd_ne n36]; exact eP) nfy
        have nn5 : pn ≠ pq := ne_of_none (show (upd H3 P6 (.lst [])) pn = some _ by rw [upd_ne nn6]; exact en) nfy
        have K6 : Kept [s, c] (upd H3 P6 (.lst [])) H5 := K5
        have S6 : StAt H5 s c (T + 62 + i * 100) := S5.mono (by omega)
        have nsq : s ≠ pq := S4.nes nfy
        have ncq : c ≠ pq := S4.nec nfy
      case' false =>
        refine ⟨_, rfl, iteF ?_⟩
        refine ⟨.ref s, rfl, .int n, rfl, s, c, _, _, rfl, S4, by omega, by omega, by omega, fun e H7 g0 g1 S7 K7 => ⟨_, _, rfl, rfl, ?_⟩⟩
        obtain ⟨kk, hkk⟩ : ∃ kk : Nat, 1 + e = (kk : Int) := ⟨(1 + e).toNat, by omega⟩
        refine ⟨s, c, _, kk, congrArg (fun z => [V.ref s, V.int z]) hkk, S7, by omega, by omega, fun pq ys H5 ly ndy oky nfy ey S5 K5 => ⟨pq, rfl, ⟨_, .inl (.inl ey)⟩, ?_⟩⟩
        have ly2 : 0 < ys.length ∧ ys.length ≤ n := by omega
        have n5 : P6 ≠ pq := ne_of_none (K7.at e6 (by simp [ns6.symm, nc6.symm])) nfy
        have n35 : P3 ≠ pq := ne_of_none (K7.at (show (upd H3 P6 (.lst [])) P3 = some _ by rw [upd_ne n36]; exact eP) out3) nfy
        have nn5 : pn ≠ pq := ne_of_none (K7.at (show (upd H3 P6 (.lst [])) pn = some _ by rw [upd_ne nn6]; exact en) (by simp [nsn.symm, ncp.symm])) nfy
        have K6 : Kept [s, c] (upd H3 P6 (.lst [])) H5 := K7.trans K5
        have S6 : StAt H5 s c (T + 62 + i * 100) := S5.mono (by omega)
        have nsq : s ≠ pq := S7.nes nfy
        have ncq : c ≠ pq := S7.nec nfy
      all_goals
        have out6 : P6 ∉ [s, c] := by simp [ns6.symm, nc6.symm]
        have eP5 : H5 P3 = some (.lst vs) := K6.at (show (upd H3 P6 (.lst [])) P3 = some _ by rw [upd_ne n36]; exact eP) out3
        have e65 : H5 P6 = some (.lst []) := K6.at e6 out6
        have en5 : H5 pn = some (.lst (zs.map V.str)) := K6.at (show (upd H3 P6 (.lst [])) pn = some _ by rw [upd_ne nn6]; exact en) (by simp [nsn.symm, ncp.symm])
        have K36 : Kept [P6, P3, s, c] H3 H5 := K4.trans (K6.mono (by intro p hp; exact List.mem_cons_of_mem _ (List.mem_cons_of_mem _ hp)))
        refine for_list (K := K) (a := pq) (xs := ys.map V.str) (fun j σ H' => (∃ y7, σ = [some (.ref s), some (.int m), some (.int n), some (.ref P3), some (.bl _), some (.str z), some (.ref P6), y7]) ∧
          (∃ (us : List V) (cs : List Col), H' P6 = some (.lst us) ∧ DpAll K (msk [P6, P3, s, c] H') us (cs.map colD) ∧ cs.map (·.1) = ys.take j ∧ (∀ x ∈ cs, WOk x.2) ∧ ∀ x, cs[0]? = some x → x.2 = none) ∧ H' pq = some (.lst (ys.map V.str)) ∧ StAt H' s c (T + 62 + i * 100 + j * 3) ∧ Kept [P6, P3, s, c] H3 H' ∧ H' P3 = some (.lst vs))
          ⟨⟨y7, rfl⟩, ⟨[], [], e65, .nil, rfl, fun _ h => absurd h List.not_mem_nil, fun _ h => nomatch h⟩, ey, S6, K36, eP5⟩ (fun j σ H' _ hP => .inl (.inl hP.2.2.1)) (fun j x σ H8 hx8 hP => ?_) (fun σ H8 hP => ?_)
        · obtain ⟨⟨y7, rfl⟩, ⟨us, cs, e6, dpu, emu, okw, oky0⟩, eq, S8, K8, eP8⟩ := hP
          rw [List.getElem?_map] at hx8
          obtain ⟨y, hy, rfl⟩ := Option.map_eq_some_iff.mp hx8
          have hj : j < ys.length := (List.getElem?_eq_some_iff.mp hy).1
          have hcl : cs.length = j := by
            have := congrArg List.length emu
            rw [List.length_map, List.length_take] at this
            omega
          have okn : ∀ x ∈ cs, NameOk x.1 := fun x hx => oky x.1 (by
            have h : x.1 ∈ cs.map (·.1) := List.mem_map.mpr ⟨x, hx, rfl⟩
            rw [emu] at h
            exact List.mem_of_mem_take h)
          have uslen : us.length = j := by rw [dpAll_len dpu, List.length_map, hcl]
          -- columns.append((column, worth if columns != [] else None))
          refine ⟨.ref P6, rfl, .inl ⟨rfl, _, .inl (.inl e6)⟩, .str y, rfl, .ref P6, rfl, Nat.zero_le _, fun q9 n9 => ?_⟩
          have n69 : P6 ≠ q9 := ne_of_none e6 n9
          have n39 : P3 ≠ q9 := ne_of_none eP8 n9
          have nq9 : pq ≠ q9 := ne_of_none eq n9
          have S9 := S8.upd_new (o := .lst []) n9
          have K9 : Kept [P6, P3, s, c] H3 (upd H8 q9 (.lst [])) := K8.trans (Kept.upd_new n9)
          have sm9 : Same H8 (upd H8 q9 (.lst [])) := same_upd n9
          refine ⟨.list (cs.map colD), .list [], .lst (.inl (.inl (sm9 _ _ e6))) (dpAll_same sm9 (dpAll_same (msk_sub _ _) dpu)), .lst (.inl (.inl upd_same)) .nil, shaped_cols okn, rfl, _, rfl, ?_⟩
          rw [eqv_nil]
          cases hE : (cs.map colD).isEmpty
          case' false =>
            have hcs : ¬ cs = [] := fun z => by rw [z] at hE; cases hE
            refine iteT ?_
            refine ⟨.ref s, rfl, s, c, _, rfl, S9, by omega, fun o H10 wo S10 K10 => ?_⟩
            have hon : cs = [] → o = none := fun z => absurd z hcs
          case' true =>
            have hcs : cs = [] := by
              cases cs with
              | nil => rfl
              | cons a r => cases hE
            refine iteF ?_
            obtain ⟨o, ho, wo⟩ : ∃ o : Option Int, o = none ∧ WOk o := ⟨none, rfl, trivial⟩
            have hon : cs = [] → o = none := fun _ => ho
            obtain ⟨H10, hH10⟩ : ∃ H10, H10 = upd H8 q9 (.lst []) := ⟨_, rfl⟩
            have S10 : StAt H10 s c (T + 62 + i * 100 + j * 3 + 3) := by rw [hH10]; exact S9.mono (by omega)
            have K10 : Kept [s, c] (upd H8 q9 (.lst [])) H10 := by rw [hH10]; exact Kept.refl _ _
            rw [← hH10]
            have hv : (V.non) = wV o := by rw [ho]; rfl
            rw [hv]
          all_goals
            refine ⟨(by show 2 ≤ sizeLine; decide), fun t nt => ?_⟩
            have outq : pq ∉ [s, c] := by
              intro hz
              simp only [List.mem_cons, List.not_mem_nil, or_false] at hz
              rcases hz with hz | hz
              · exact nsq hz.symm
              · exact ncq hz.symm
            have e6b : H10 P6 = some (.lst us) := K10.at (sm9 _ _ e6) out6
            have eqb : H10 pq = some (.lst (ys.map V.str)) := K10.at (sm9 _ _ eq) outq
            have ePb : H10 P3 = some (.lst vs) := K10.at (sm9 _ _ eP8) out3
            have n6t : P6 ≠ t := ne_of_none e6b nt
            have nqt : pq ≠ t := ne_of_none eqb nt
            have n3t : P3 ≠ t := ne_of_none ePb nt
            have Kb : Kept [P6, P3, s, c] H8 H10 := (Kept.of_same sm9).trans (K10.mono (by intro p hp; exact List.mem_cons_of_mem _ (List.mem_cons_of_mem _ hp)))
            have Kc : Kept [P6, P3, s, c] H8 (upd (upd H10 t (.tup [.str y, wV o])) P6 (.lst (us ++ [.ref t]))) := Kb.trans ((Kept.upd_new nt).trans (Kept.upd_in (List.mem_cons_self ..)))
            refine ⟨P6, us, _, rfl, rfl, (by rw [upd_ne n6t]; exact e6b), by rw [uslen]; exact small1000 (by omega), ⟨some (.str y), rfl⟩, ⟨_, cs ++ [(y, o)], upd_same, ?_, ?_, ?_, ?_⟩, ?_, ((S10.upd_new nt).upd ns6 nc6).mono (by omega), K8.trans Kc, ?_⟩
            · rw [List.map_append]
              refine dpAll_snoc (dpAll_same (msk_same Kc) dpu) ?_
              refine .tup (xs := [.str y, wV o]) (.inl (.inl ?_)) (.cons (.str y) (.cons (dp_w o) .nil))
              unfold msk
              rw [if_neg (by
                intro hz
                simp only [List.mem_cons, List.not_mem_nil, or_false] at hz
                rcases hz with hz | hz | hz | hz
                · exact n6t hz.symm
                · exact n3t hz.symm
                · exact S10.nes nt hz.symm
                · exact S10.nec nt hz.symm), upd_ne n6t.symm, upd_same]
            · rw [List.map_append, emu, List.take_add_one, hy]; rfl
            · intro x hx
              rcases List.mem_append.mp hx with h | h
              · exact okw x h
              · rw [List.mem_singleton.mp h]; exact wo
            · intro x hx
              cases cs with
              | nil =>
                have : x = (y, o) := (Option.some.inj hx).symm
                rw [this]; exact hon rfl
              | cons a r => exact oky0 x hx
            · rw [upd_ne n5.symm, upd_ne nqt]; exact eqb
            · rw [upd_ne n36, upd_ne n3t]; exact ePb
        · obtain ⟨⟨y7, rfl⟩, ⟨us, cs, e6, dpu, emu, okw, oky0⟩, eq, S8, K8, eP8⟩ := hP
          have lyy : (ys.map V.str).length = ys.length := List.length_map ..
          rw [lyy] at emu S8
          rw [List.take_length] at emu
          have hcl : cs.length = ys.length := by rw [← emu, List.length_map]
          have uslen : us.length = cs.length := by rw [dpAll_len dpu, List.length_map]
          -- found.append((name, tuple(columns)))
          refine ⟨.ref P3, rfl, .inl ⟨rfl, _, .inl (.inl eP8)⟩, .str z, rfl, .ref P6, rfl, P6, us, rfl, .inl ⟨.inl (.inl e6), fun t nt => ?_⟩⟩
          have n6t : P6 ≠ t := ne_of_none e6 nt
          have n3t : P3 ≠ t := ne_of_none eP8 nt
          have nst := S8.nes nt
          have nct := S8.nec nt
          refine ⟨(by show 2 ≤ sizeLine; decide), fun t2 nt2 => ?_⟩
          have n3t2 : P3 ≠ t2 := ne_of_none (show (upd H8 t (.tup us)) P3 = some _ by rw [upd_ne n3t]; exact eP8) nt2
          have n6t2 : P6 ≠ t2 := ne_of_none (show (upd H8 t (.tup us)) P6 = some _ by rw [upd_ne n6t]; exact e6) nt2
          have ntt2 : t ≠ t2 := ne_of_none upd_same nt2
          have nst2 := (S8.upd_new (o := .tup us) nt).nes nt2
          have nct2 := (S8.upd_new (o := .tup us) nt).nec nt2
          have Kd : Kept [P6, P3, s, c] H8 (upd (upd (upd H8 t (.tup us)) t2 (.tup [.str z, .ref t])) P3 (.lst (vs ++ [.ref t2]))) := (Kept.upd_new nt).trans ((Kept.upd_new nt2).trans (Kept.upd_in (List.mem_cons_of_mem _ (List.mem_cons_self ..))))
          have Ke : Kept [P3, s, c] H3 (upd (upd (upd H8 t (.tup us)) t2 (.tup [.str z, .ref t])) P3 (.lst (vs ++ [.ref t2]))) := (K8.trans Kd).new n6
          have vlen : vs.length = i := by
            have h1 := congrArg List.length em
            rw [List.length_map, List.length_take] at h1
            rw [dpAll_len dp, List.length_map]; omega
          refine ⟨P3, vs, _, rfl, rfl, (by rw [upd_ne n3t2, upd_ne n3t]; exact eP8), by rw [vlen]; exact small1000 (by omega), ⟨_, _, _, rfl⟩, ⟨_, ts ++ [(z, cs)], upd_same, ?_, ?_, ?_⟩, Ke.at en outn, (((S8.upd_new nt).upd_new nt2).upd ns3 nc3).mono (by omega), K3.trans Ke⟩
          · rw [List.map_append]
            refine dpAll_snoc (dpAll_same (msk_same Ke) dp) ?_
            have at3 : ∀ b o, b ≠ P3 → b ≠ s → b ≠ c → (upd (upd (upd H8 t (.tup us)) t2 (.tup [.str z, .ref t])) P3 (.lst (vs ++ [.ref t2]))) b = some o → msk [P3, s, c] (upd (upd (upd H8 t (.tup us)) t2 (.tup [.str z, .ref t])) P3 (.lst (vs ++ [.ref t2]))) b = some o := by
              intro b o h1 h2 h3 h4
              unfold msk
              rw [if_neg (by simp [h1, h2, h3])]
              exact h4
            refine .tup (xs := [.str z, .ref t]) (.inl (.inl (at3 _ _ n3t2.symm nst2.symm nct2.symm ?_))) (.cons (.str z) (.cons ?_ .nil))
            · rw [upd_ne n3t2.symm, upd_same]
            · refine .tup (xs := us) (.inl (.inl (at3 _ _ n3t.symm nst.symm nct.symm ?_))) ?_
              · rw [upd_ne n3t.symm, upd_ne ntt2, upd_same]
              · exact dpAll_same (msk_less (M := [P6, P3, s, c]) (by intro p hp; exact List.mem_cons_of_mem _ hp)) (dpAll_same (msk_same Kd) dpu)
          · rw [List.map_append, em, List.take_add_one, hz]; rfl
          · intro x hx
            rcases List.mem_append.mp hx with h | h
            · exact okc x h
            · rw [List.mem_singleton.mp h]
              refine ⟨⟨?_, ?_, ?_, okw, oky0⟩, ?_⟩
              · show cs.length ≤ n; omega
              · show (cs.map (·.1)).Nodup; rw [emu]; exact ndy
              · intro x hx
                exact oky x.1 (by rw [← emu]; exact List.mem_map.mpr ⟨x, hx, rfl⟩)
              · show 0 < cs.length; omega
    · obtain ⟨⟨y5, y6, y7, rfl⟩, ⟨vs, ts, eP, dp, em, okc⟩, en, S3, K3⟩ := hP
      have lzz : (zs.map V.str).length = zs.length := List.length_map ..
      rw [lzz] at em S3
      rw [List.take_length] at em
      have tl : ts.length = zs.length := by rw [← em, List.length_map]
      refine ⟨.ref P3, rfl, P3, vs, rfl, .inl ⟨.inl (.inl eP), fun t nt => ?_⟩⟩
      have n3t : P3 ≠ t := ne_of_none eP nt
      have nst := S3.nes nt
      have nct := S3.nec nt
      have Kf : Kept [P3, s, c] H3 (upd H3 t (.tup vs)) := Kept.upd_new nt
      refine q t ts _ (by omega) ⟨by rw [em]; exact ndz, fun x hx => okz x.1 (by rw [← em]; exact List.mem_map.mpr ⟨x, hx, rfl⟩), okc⟩ (K3.fresh nt ?_) ?_ ((S3.upd_new nt).mono (by omega)) ((K3.trans Kf).new n3)
      · intro b hb
        simp only [List.mem_cons, List.not_mem_nil, or_false] at hb
        rcases hb with rfl | rfl | rfl
        · exact n3t
        · exact nst
        · exact nct
      · refine .tup (xs := vs) (.inl (.inl ?_)) ?_
        · unfold msk
          rw [if_neg (by simp [nst.symm, nct.symm]), upd_same]
        · exact dpAll_same (msk_less (M := [P3, s, c]) (by intro p hp; exact List.mem_cons_of_mem _ hp)) (dpAll_same (msk_same Kf) dp)
end
end TT

set_option Elab.async false
set_option linter.all false
set_option maxRecDepth 100000
namespace TT
open PySem PySem.Spec PyProof.Rows L2
/-! ### what is told of data -/
def tyN : PyData → String
  | .none => "NoneType"
  | .bool _ => "bool"
  | .int _ => "int"
  | .str _ => "str"
  | .list _ => "list"
  | .tuple _ => "tuple"
  | .dict _ => "dict"
theorem dp_ty {K : PySem.W.Frag} {H : Hp} {v : V} {d : PyData} (h : Dp K H v d) : TyX K H v (.type (tyN d)) := by
  cases h with
  | non => exact .base .non
  | bl b => exact .base (.bl b)
  | int i => exact .base (.int i)
  | str x => exact .base (.str x)
  | lst h _ =>
    rcases h with (h | ⟨o, h⟩) | ⟨o, _, _, h, c, _⟩
    · exact .base (.lst h)
    · exact .base (.frz h)
    · exact .kList h c
  | tup h _ =>
    rcases h with (h | ⟨o, h⟩) | ⟨o, _, _, h, c, _⟩
    · exact .base (.tup h)
    · exact .fTuple h
    · exact .kTuple h c
def isIB : PyData → Bool
  | .int _ | .bool _ => true
  | _ => false
def isBB : PyData → Bool
  | .bool _ => true
  | _ => false
def isSB : PyData → Bool
  | .str _ => true
  | _ => false
def isTB : PyData → Bool
  | .tuple _ => true
  | _ => false
def isLB : PyData → Bool
  | .list _ => true
  | _ => false
theorem kit_i {K : PySem.W.Frag} (d : PyData) : PySem.W.kitOne K (.type (tyN d)) (.type "int") = some (isIB d) := by
  cases d
  · exact kit_ty (show kitB "NoneType" "int" = some false by decide +kernel)
  · exact kit_ty (show kitB "bool" "int" = some true by decide +kernel)
  · exact kit_ty (show kitB "int" "int" = some true by decide +kernel)
  · exact kit_ty (show kitB "str" "int" = some false by decide +kernel)
  · exact kit_ty (show kitB "list" "int" = some false by decide +kernel)
  · exact kit_ty (show kitB "tuple" "int" = some false by decide +kernel)
  · exact kit_ty (show kitB "dict" "int" = some false by decide +kernel)
theorem kit_b {K : PySem.W.Frag} (d : PyData) : PySem.W.kitOne K (.type (tyN d)) (.type "bool") = some (isBB d) := by
  cases d
  · exact kit_ty (show kitB "NoneType" "bool" = some false by decide +kernel)
  · exact kit_ty (show kitB "bool" "bool" = some true by decide +kernel)
  · exact kit_ty (show kitB "int" "bool" = some false by decide +kernel)
  · exact kit_ty (show kitB "str" "bool" = some false by decide +kernel)
  · exact kit_ty (show kitB "list" "bool" = some false by decide +kernel)
  · exact kit_ty (show kitB "tuple" "bool" = some false by decide +kernel)
  · exact kit_ty (show kitB "dict" "bool" = some false by decide +kernel)
theorem kit_s {K : PySem.W.Frag} (d : PyData) : PySem.W.kitOne K (.type (tyN d)) (.type "str") = some (isSB d) := by
  cases d
  · exact kit_ty (show kitB "NoneType" "str" = some false by decide +kernel)
  · exact kit_ty (show kitB "bool" "str" = some false by decide +kernel)
  · exact kit_ty (show kitB "int" "str" = some false by decide +kernel)
  · exact kit_ty (show kitB "str" "str" = some true by decide +kernel)
  · exact kit_ty (show kitB "list" "str" = some false by decide +kernel)
  · exact kit_ty (show kitB "tuple" "str" = some false by decide +kernel)
  · exact kit_ty (show kitB "dict" "str" = some false by decide +kernel)
theorem kit_t {K : PySem.W.Frag} (d : PyData) : PySem.W.kitOne K (.type (tyN d)) (.type "tuple") = some (isTB d) := by
  cases d
  · exact kit_ty (show kitB "NoneType" "tuple" = some false by decide +kernel)
  · exact kit_ty (show kitB "bool" "tuple" = some false by decide +kernel)
  · exact kit_ty (show kitB "int" "tuple" = some false by decide +kernel)
  · exact kit_ty (show kitB "str" "tuple" = some false by decide +kernel)
  · exact kit_ty (show kitB "list" "tuple" = some false by decide +kernel)
  · exact kit_ty (show kitB "tuple" "tuple" = some true by decide +kernel)
  · exact kit_ty (show kitB "dict" "tuple" = some false by decide +kernel)
theorem kit_l {K : PySem.W.Frag} (d : PyData) : PySem.W.kitOne K (.type (tyN d)) (.type "list") = some (isLB d) := by
  cases d
  · exact kit_ty (show kitB "NoneType" "list" = some false by decide +kernel)
  · exact kit_ty (show kitB "bool" "list" = some false by decide +kernel)
  · exact kit_ty (show kitB "int" "list" = some false by decide +kernel)
  · exact kit_ty (show kitB "str" "list" = some false by decide +kernel)
  · exact kit_ty (show kitB "list" "list" = some true by decide +kernel)
  · exact kit_ty (show kitB "tuple" "list" = some false by decide +kernel)
  · exact kit_ty (show kitB "dict" "list" = some false by decide +kernel)
theorem kit_tl {K : PySem.W.Frag} (d : PyData) : PySem.W.kitAny K (.type (tyN d)) [.type "tuple", .type "list"] = some (isTB d || isLB d) :=
  kitAny_cons (b := isTB d) (kit_t d) (fun h => by
    rw [h]
    exact kitAny_cons (b := isLB d) (kit_l d) (fun h => by rw [h]; exact kitAny_nil) fun h => by rw [h]; rfl) fun h => by rw [h]; rfl
theorem kit_lt {K : PySem.W.Frag} (d : PyData) : PySem.W.kitAny K (.type (tyN d)) [.type "list", .type "tuple"] = some (isLB d || isTB d) :=
  kitAny_cons (b := isLB d) (kit_l d) (fun h => by
    rw [h]
    exact kitAny_cons (b := isTB d) (kit_t d) (fun h => by rw [h]; exact kitAny_nil) fun h => by rw [h]; rfl) fun h => by rw [h]; rfl
/-! sizes -/
mutual
def Fit : PyData → Prop
  | .str z => z.length ≤ 10000
  | .list ds | .tuple ds => ds.length ≤ 900 ∧ FitAll ds
  | _ => True
def FitAll : List PyData → Prop
  | [] => True
  | d :: ds => Fit d ∧ FitAll ds
end
theorem fit_mem : ∀ {ds : List PyData} {d : PyData}, FitAll ds → d ∈ ds → Fit d
  | d :: ds, e, h, m => by
    rcases List.mem_cons.mp m with rfl | m
    · exact h.1
    · exact fit_mem h.2 m
theorem fit_of : ∀ {ds : List PyData}, (∀ d ∈ ds, Fit d) → FitAll ds
  | [], _ => trivial
  | d :: ds, h => ⟨h d (List.mem_cons_self ..), fit_of fun e m => h e (List.mem_cons_of_mem _ m)⟩
theorem dpAll_at {K : PySem.W.Frag} {H : Hp} {ds : List PyData} {vs : List V} {i : Nat} {d : PyData} (a : DpAll K H vs ds) (h : ds[i]? = some d) : ∃ v, vs[i]? = some v ∧ Dp K H v d := by
  have l := dpAll_len a
  have hi : i < vs.length := by rw [l]; exact (List.getElem?_eq_some_iff.mp h).1
  obtain ⟨d', h1, h2⟩ := dpAll_get i a (List.getElem?_eq_getElem hi)
  rw [h] at h1
  cases h1
  exact ⟨_, List.getElem?_eq_getElem hi, h2⟩
/-- the promise of what looks at a thing and tells True or False: new objects alone are laid -/
def spB (R : PyData → Bool) (K : PySem.W.Frag) : Sp := fun vs H Q _ => ∃ (v : V) (d : PyData), vs = [v] ∧ Dp K H v d ∧ Fit d ∧ ∀ H', Same H H' → Q (.bl (R d)) H'
/-! ### the program's words, of data -/
def numB : PyData → Bool
  | .int _ => true
  | _ => false
def worthB : PyData → Bool
  | .none => true
  | .int i => decide (-1000000000 ≤ i) && decide (i ≤ 1000000000)
  | _ => false
def lowB (c : Nat) : Bool := decide (97 ≤ c) && decide (c ≤ 122)
def nameB : PyData → Bool
  | .str z => (decide (1 ≤ z.length) && decide (z.length ≤ 8)) && (cl z).all lowB
  | _ => false
def tupB (lo hi : Int) : PyData → Bool
  | .tuple ds => decide (lo ≤ (ds.length : Int)) && decide ((ds.length : Int) ≤ hi)
  | _ => false
def fstD : PyData → PyData
  | .tuple (a :: _) => a
  | _ => .none
def sndD : PyData → PyData
  | .tuple (_ :: b :: _) => b
  | _ => .none
def strOf : PyData → Str
  | .str z => z
  | _ => Str.empty
def isN : PyData → Bool
  | .none => true
  | _ => false
def colB (d : PyData) : Bool := tupB 2 2 d && (nameB (fstD d) && worthB (sndD d))
def namesOf (ds : List PyData) : List Str := ds.map fun d => strOf (fstD d)
def colsB : PyData → Bool
  | .tuple ds => (decide (1 ≤ ds.length) && decide (ds.length ≤ 5)) && (ds.all colB && (isN (sndD (ds.headD .none)) && decide (namesOf ds).Nodup))
  | _ => false
def tabB (d : PyData) : Bool := tupB 2 2 d && (nameB (fstD d) && colsB (sndD d))
def tabsB : PyData → Bool
  | .tuple ds => (decide (1 ≤ ds.length) && decide (ds.length ≤ 6)) && (ds.all tabB && decide (namesOf ds).Nodup)
  | _ => false
end TT

set_option Elab.async false
set_option linter.all false
set_option maxRecDepth 100000
namespace TT
open PySem PySem.Spec PyProof.Rows L2
structure GC (mg : Str → Option Value) : Prop where
  MOST_LETTERS : ∃ u, mg "MOST_LETTERS" = some (.int 8 u)
  MOST_NUMBER : ∃ u, mg "MOST_NUMBER" = some (.int 1000000000 u)
  MOST_TABLES : ∃ u, mg "MOST_TABLES" = some (.int 6 u)
  MOST_COLUMNS : ∃ u, mg "MOST_COLUMNS" = some (.int 5 u)
section
variable {P : Program} {w : World} {K : PySem.W.Frag} {mg : Str → Option Value} {base : Heap}
def boundB : PyData → Bool
  | .int i => decide (-1000000000 ≤ i) && decide (i ≤ 1000000000)
  | _ => false
theorem spB_len {R : PyData → Bool} {K : PySem.W.Frag} {vs : List V} {H : Hp} {Q : VK} {E : XK} (h : spB R K vs H Q E) : vs.length = 1 := by
  obtain ⟨v, d, rfl, _⟩ := h
  rfl
abbrev s_is_number : Stmt := topS 3
abbrev N_is_number : List Str := ["thing"]
theorem sc_is_number : FnScope N_is_number ["thing"] (defScope s_is_number) := ⟨rfl, rfl, rfl, by decide +kernel, rfl, by decide +kernel, by decide +kernel⟩

theorem ok_is_number {f : Addr} {fd : FuncData} (F : Fun K "is_number" "is_number" s_is_number f fd) (nb : NB mg) : FnOk P w K mg base CX0 1 f fd ["thing"] (spB numB K) := by
  refine F.ok sc_is_number (fun vs H Q E h => spB_len h) (fun cdv A outer sh H vs Q E hr h => ?_)
  obtain ⟨v, d, rfl, hd, hf, q⟩ := h
  have nd := sc_is_number.nd
  refine ⟨_, (pss_one (ps_ret (pe_and (pe_callB call_isi (by rfl) nb.b_isinstance (by decide +kernel) (pa_cons (pv 0) (pa_cons (pe_bltn (v := .ty "int") (by rfl) nb.b_int (by decide +kernel) rfl) pa_nil))) (pe_one (pe_not (pe_callB call_isi (by rfl) nb.b_isinstance (by decide +kernel) (pa_cons (pv 0) (pa_cons (pe_bltn (v := .ty "bool") (by rfl) nb.b_bool (by decide +kernel) rfl) pa_nil)))))))), ?_⟩
  refine ⟨v, rfl, v, .ty "int", _, _, _, rfl, .ty "int", dp_ty hd, kit_i d, _, rfl, ite2 (fun h1 => ?_) (fun h1 => ?_)⟩
  · refine ⟨v, rfl, v, .ty "bool", _, _, _, rfl, .ty "bool", dp_ty hd, kit_b d, _, rfl, ?_⟩
    have e : (!isBB d) = numB d := by cases d <;> simp_all [isIB, isBB, numB]
    have z := q H (Same.refl H)
    rw [← e] at z
    exact z
  · have e : false = numB d := by cases d <;> simp_all [isIB, numB]
    have z := q H (Same.refl H)
    rw [← e] at z
    exact z
abbrev s_is_bounded : Stmt := topS 4
abbrev N_is_bounded : List Str := ["thing"]
theorem sc_is_bounded : FnScope N_is_bounded ["thing"] (defScope s_is_bounded) := ⟨rfl, rfl, rfl, by decide +kernel, rfl, by decide +kernel, by decide +kernel⟩

theorem ok_is_bounded {f : Addr} {fd : FuncData} (F : Fun K "is_bounded" "is_bounded" s_is_bounded f fd) (gc : GC mg) (D_is_number : Def P w K mg base 1 "is_number" ["thing"] (spB numB K)) : FnOk P w K mg base CX0 2 f fd ["thing"] (spB boundB K) := by
  refine F.ok sc_is_bounded (fun vs H Q E h => spB_len h) (fun cdv A outer sh H vs Q E hr h => ?_)
  obtain ⟨v, d, rfl, hd, hf, q⟩ := h
  have nd := sc_is_bounded.nd
  refine ⟨_, (pss_one (ps_ret (pe_and (pe_own D_is_number hr (pa_cons (pv 0) pa_nil)) (pe_one (pe_chain op_le op_le (pe_un un_neg (pe_gint gc.MOST_NUMBER)) (pv 0) (pe_gint gc.MOST_NUMBER)))))), ?_⟩
  refine ⟨v, rfl, v, d, rfl, hd, hf, fun H1 sm => ⟨_, rfl, ite2 (fun h2 => ?_) (fun h2 => ?_)⟩⟩
  · obtain ⟨i, rfl, rfl⟩ : ∃ i, d = .int i ∧ v = .int i := by
      cases hd <;> first | exact ⟨_, rfl, rfl⟩ | cases h2
    refine ⟨_, rfl, .int i, rfl, _, _, rfl, rfl, _, rfl, ite2 (fun h3 => ?_) (fun h3 => ?_)⟩
    · refine ⟨_, _, rfl, rfl, ?_⟩
      have h3 : -1000000000 ≤ i := of_decide_eq_true h3
      have e : decide (i ≤ 1000000000) = boundB (.int i) := by
        show _ = (decide (-1000000000 ≤ i) && decide (i ≤ 1000000000))
        rw [decide_eq_true h3]; rfl
      have z := q H1 sm
      rw [← e] at z
      exact z
    · have h3 : ¬ -1000000000 ≤ i := fun z => h3 (decide_eq_true z)
      have e : false = boundB (.int i) := by
        show _ = (decide (-1000000000 ≤ i) && decide (i ≤ 1000000000))
        rw [decide_eq_false h3]; rfl
      have z := q H1 sm
      rw [← e] at z
      exact z
  · have e : false = boundB d := by cases d <;> first | rfl | exact absurd rfl h2
    have z := q H1 sm
    rw [← e] at z
    exact z
theorem worth_bound (d : PyData) : worthB d = (isN d || boundB d) := by cases d <;> rfl
theorem isN_v {K : PySem.W.Frag} {H : Hp} {v : V} {d : PyData} (h : Dp K H v d) : decide (v = V.non) = isN d := by cases h <;> rfl
abbrev s_is_worth : Stmt := topS 5
abbrev N_is_worth : List Str := ["thing"]
theorem sc_is_worth : FnScope N_is_worth ["thing"] (defScope s_is_worth) := ⟨rfl, rfl, rfl, by decide +kernel, rfl, by decide +kernel, by decide +kernel⟩

theorem ok_is_worth {f : Addr} {fd : FuncData} (F : Fun K "is_worth" "is_worth" s_is_worth f fd) (D_is_bounded : Def P w K mg base 2 "is_bounded" ["thing"] (spB boundB K)) : FnOk P w K mg base CX0 3 f fd ["thing"] (spB worthB K) := by
  refine F.ok sc_is_worth (fun vs H Q E h => spB_len h) (fun cdv A outer sh H vs Q E hr h => ?_)
  obtain ⟨v, d, rfl, hd, hf, q⟩ := h
  have nd := sc_is_worth.nd
  have q' : ∀ H', Same H H' → ∀ b, b = worthB d → Q (.bl b) H' := fun H' s b e => by rw [e]; exact q H' s
  refine ⟨_, (pss_one (ps_ret (pe_or (pe_cmpR op_isN (pv 0) pe_non (nomark _)) (pe_one (pe_own D_is_bounded hr (pa_cons (pv 0) pa_nil)))))), ?_⟩
  refine ⟨v, rfl, rfl, _, rfl, ?_⟩
  rw [isN_v hd]
  refine ite2 (fun h1 => ?_) (fun h1 => ?_)
  · refine q' H (Same.refl H) _ ?_
    rw [worth_bound, h1]; rfl
  · refine ⟨v, rfl, v, d, rfl, hd, hf, fun H1 sm => q' H1 sm _ ?_⟩
    rw [worth_bound, Bool.eq_false_iff.mpr h1]; rfl
def spTup (K : PySem.W.Frag) : Sp := fun vs H Q _ => ∃ (v : V) (d : PyData) (lo hi : Int), vs = [v, .int lo, .int hi] ∧ Dp K H v d ∧ Fit d ∧ ∀ H', Same H H' → Q (.bl (tupB lo hi d)) H'
abbrev s_is_tuple : Stmt := topS 7
abbrev N_is_tuple : List Str := ["thing", "least", "most"]
theorem sc_is_tuple : FnScope N_is_tuple ["thing", "least", "most"] (defScope s_is_tuple) := ⟨rfl, rfl, rfl, by decide +kernel, rfl, by decide +kernel, by decide +kernel⟩

theorem ok_is_tuple {f : Addr} {fd : FuncData} (F : Fun K "is_tuple" "is_tuple" s_is_tuple f fd) (nb : NB mg) : FnOk P w K mg base CX0 1 f fd ["thing", "least", "most"] (spTup K) := by
  refine F.ok sc_is_tuple (fun vs H Q E h => ?_) (fun cdv A outer sh H vs Q E hr h => ?_)
  · obtain ⟨v, d, lo, hi, rfl, _⟩ := h
    rfl
  obtain ⟨v, d, lo, hi, rfl, hd, hf, q⟩ := h
  have nd := sc_is_tuple.nd
  refine ⟨_, (pss_one (ps_ret (pe_and (pe_callB call_isi (by rfl) nb.b_isinstance (by decide +kernel) (pa_cons (pv 0) (pa_cons (pe_bltn (v := .ty "tuple") (by rfl) nb.b_tuple (by decide +kernel) rfl) pa_nil))) (pe_one (pe_chain op_le op_le (pv 1) (pe_callB call_len_seq (by rfl) nb.b_len (by decide +kernel) (pa_cons (pv 0) pa_nil)) (pv 2)))))), ?_⟩
  refine ⟨v, rfl, v, .ty "tuple", _, _, _, rfl, .ty "tuple", dp_ty hd, kit_t d, _, rfl, ite2 (fun h1 => ?_) (fun h1 => ?_)⟩
  · cases hd with
    | non => cases h1
    | bl b => cases h1
    | int i => cases h1
    | str z => cases h1
    | lst _ _ => cases h1
    | tup h a =>
      rename_i p xs ds
      have l := dpAll_len a
      refine ⟨.int lo, rfl, .ref p, rfl, p, xs, rfl, .inr h, _, _, rfl, rfl, _, rfl, ite2 (fun h3 => ?_) (fun h3 => ?_)⟩
      · refine ⟨.int hi, rfl, _, _, rfl, rfl, ?_⟩
        have e : decide ((xs.length : Int) ≤ hi) = tupB lo hi (.tuple ds) := by
          show _ = (decide (lo ≤ (ds.length : Int)) && decide ((ds.length : Int) ≤ hi))
          rw [← l, h3]; rfl
        have z := q H (Same.refl H)
        rw [← e] at z
        exact z
      · have e : false = tupB lo hi (.tuple ds) := by
          show _ = (decide (lo ≤ (ds.length : Int)) && decide ((ds.length : Int) ≤ hi))
          rw [← l, Bool.eq_false_iff.mpr h3]; rfl
        have z := q H (Same.refl H)
        rw [← e] at z
        exact z
  · have e : false = tupB lo hi d := by
      cases hd <;> first | rfl | exact absurd rfl h1
    have z := q H (Same.refl H)
    rw [← e] at z
    exact z
/-- of a list of texts -/
def spUnlike (K : PySem.W.Frag) : Sp := fun vs H Q _ => ∃ (p : Addr) (zs : List Str), vs = [.ref p] ∧ SqL K H p (zs.map V.str) ∧ zs.length ≤ 1000 ∧ ∀ H', Same H H' → Q (.bl (decide zs.Nodup)) H'
abbrev s_are_unlike : Stmt := topS 8
abbrev N_are_unlike : List Str := ["names"]
theorem sc_are_unlike : FnScope N_are_unlike ["names"] (defScope s_are_unlike) := ⟨rfl, rfl, rfl, by decide +kernel, rfl, by decide +kernel, by decide +kernel⟩

theorem ok_are_unlike {f : Addr} {fd : FuncData} (F : Fun K "are_unlike" "are_unlike" s_are_unlike f fd) (nb : NB mg) : FnOk P w K mg base CX0 1 f fd ["names"] (spUnlike K) := by
  refine F.ok sc_are_unlike (fun vs H Q E h => ?_) (fun cdv A outer sh H vs Q E hr h => ?_)
  · obtain ⟨p, zs, rfl, _⟩ := h
    rfl
  obtain ⟨p, zs, rfl, hS, hl, q⟩ := h
  have nd := sc_are_unlike.nd
  refine ⟨_, (pss_one (ps_ret (pe_cmpR op_eq (pe_lenUnlike nb.b_len nb.b_set (pv 0)) (pe_callB call_len_seq (by rfl) nb.b_len (by decide +kernel) (pa_cons (pv 0) pa_nil)) (nomark _)))), ?_⟩
  refine ⟨.ref p, rfl, p, zs, rfl, hS, hl, .ref p, rfl, p, _, rfl, .inl hS, rfl, ?_⟩
  have e : decide (V.int ((unlike zs).length : Int) = V.int ((zs.map V.str).length : Int)) = decide zs.Nodup := by
    rw [← unlike_nodup, List.length_map]
    exact decide_eq_decide.mpr ⟨fun z => V.int.inj z, fun z => by rw [z]⟩
  have z := q H (Same.refl H)
  rw [← e] at z
  exact z
end
end TT

set_option Elab.async false
set_option linter.all false
set_option maxRecDepth 100000
namespace TT
open PySem PySem.Spec PyProof.Rows L2
/-! ### comprehensions that ask item by item -/
def PvM (H1 : Hp) (D : Addr) (f : Nat → V) (i : Nat) (H : Hp) : Prop := H D = some (.lst ((List.range i).map f)) ∧ Kept [D] H1 H
theorem pvm_start (H1 : Hp) (D : Addr) (f : Nat → V) : PvM H1 D f 0 (upd H1 D (.lst [])) := ⟨upd_same, Kept.upd_in (List.mem_cons_self ..)⟩
theorem pvm_step {H1 H H4 : Hp} {D : Addr} {f : Nat → V} {i : Nat} {y : V} (h : PvM H1 D f i H) (s : Same H H4) (e : y = f i) (l : i ≤ 1000) :
    ∃ acc, H4 D = some (.lst acc) ∧ acc.length < sizeLine ∧ PvM H1 D f (i + 1) (upd H4 D (.lst (acc ++ [y]))) := by
  refine ⟨_, s _ _ h.1, ?_, ?_, (h.2.trans (Kept.of_same s)).trans (Kept.upd_in (List.mem_cons_self ..))⟩
  · rw [List.length_map, List.length_range]; exact small1000 l
  · rw [upd_same, List.range_succ, List.map_append, e]; rfl
theorem pvm_same {H1 H : Hp} {D : Addr} {f : Nat → V} {i : Nat} (h : PvM H1 D f i H) (n : H1 D = none) : Same H1 H := fun b o e => h.2 b o e fun z => by
  rw [List.mem_singleton.mp z, n] at e
  cases e
theorem range_all {α : Type} (R : α → Bool) (d : α) : ∀ (l : List α), ((List.range l.length).map fun i => R (l.getD i d)).all id = l.all R := by
  intro l
  have e : (List.range l.length).map (fun i => R (l.getD i d)) = l.map R := by
    refine List.ext_getElem (by simp) fun i h1 h2 => ?_
    simp only [List.length_map, List.length_range] at h1
    simp [List.getD_eq_getElem?_getD, List.getElem?_eq_getElem h1]
  rw [e, List.all_map]
  rfl
theorem range_map {α β : Type} (f : α → β) (d : α) (l : List α) : (List.range l.length).map (fun i => f (l.getD i d)) = l.map f := by
  refine List.ext_getElem (by simp) fun i h1 h2 => ?_
  simp only [List.length_map, List.length_range] at h1
  simp [List.getD_eq_getElem?_getD, List.getElem?_eq_getElem h1]
theorem lt_one (c d : Nat) : decide (([c] : List Nat) < [d]) = decide (c < d) := by
  refine decide_eq_decide.mpr ?_
  rw [List.cons_lt_cons_iff]
  constructor
  · rintro (h | ⟨_, h⟩)
    · exact h
    · exact absurd h (List.not_lt_nil [])
  · intro h; exact .inl h
section
variable {P : Program} {w : World} {K : PySem.W.Frag} {mg : Str → Option Value} {base : Heap}
abbrev s_is_name : Stmt := topS 6
abbrev N_is_name : List Str := ["thing", "letter"]
theorem sc_is_name : FnScope N_is_name ["thing"] (defScope s_is_name) := ⟨rfl, rfl, rfl, by decide +kernel, rfl, by decide +kernel, by decide +kernel⟩

theorem ok_is_name {f : Addr} {fd : FuncData} (F : Fun K "is_name" "is_name" s_is_name f fd) (nb : NB mg) (gc : GC mg) : FnOk P w K mg base CX0 1 f fd ["thing"] (spB nameB K) := by
  refine F.ok sc_is_name (fun vs H Q E h => spB_len h) (fun cdv A outer sh H vs Q E hr h => ?_)
  obtain ⟨v, d, rfl, hd, hf, q⟩ := h
  have nd := sc_is_name.nd
  refine ⟨_, (pss_cons (ps_if (PW.pt (pw_or (pt_not (pt_val (pe_callB call_isi (by rfl) nb.b_isinstance (by decide +kernel) (pa_cons (pv 0) (pa_cons (pe_bltn (v := .ty "str") (by rfl) nb.b_str (by decide +kernel) rfl) pa_nil))))) (pw_or1 (pt_not (pt_chain op_le op_le pe_int (pe_callB call_len_str (by rfl) nb.b_len (by decide +kernel) (pa_cons (pv 0) pa_nil)) (pe_gint gc.MOST_LETTERS))))))
        (pss_one (ps_ret pe_bl))
        pss_nil)
      (pss_one (ps_ret (pe_callB (cr_all rfl) (by rfl) nb.b_all (by decide +kernel) (pa_cons (pe_lc (own := [("letter", 1)]) (g := gName 1) (tt := tYes) rfl nd (pi_str (pv 0)) (blkOk_by (N := N_is_name) (sc := defScope s_is_name) (by decide +kernel)) (fun _ _ _ _ _ => (pg_name (i := 1) nd rfl (Or.inl rfl))) (fun _ _ _ _ _ => pts_nil) (fun _ _ _ _ _ => (pe_chain op_le_str op_le_str pe_str (pv 1) pe_str))) pa_nil))))), ?_⟩
  refine ⟨v, rfl, v, .ty "str", _, _, _, rfl, .ty "str", dp_ty hd, kit_s d, _, rfl, ?_⟩
  by_cases hs : isSB d = true
  · obtain ⟨z, rfl, rfl⟩ : ∃ z, d = .str z ∧ v = .str z := by
      cases hd <;> first | exact ⟨_, rfl, rfl⟩ | cases hs
    have lz : z.length ≤ 10000 := hf
    have q' : ∀ H', Same H H' → ∀ b, b = nameB (.str z) → Q (.bl b) H' := fun H' s b e => by rw [e]; exact q H' s
    refine iteF ?_
    refine ⟨.str z, rfl, z, rfl, Nat.le_trans lz (by decide), _, _, rfl, rfl, _, rfl, ite2 (fun h1 => ?_) (fun h1 => ?_)⟩
    · refine ⟨_, _, rfl, rfl, _, rfl, ?_⟩
      have h1 : (1 : Int) ≤ z.length := of_decide_eq_true h1
      cases h2 : decide ((z.length : Int) ≤ 8) with
      | false =>
        refine iteT (q' H (Same.refl H) _ ?_)
        have h2 := of_decide_eq_false h2
        show false = ((decide (1 ≤ z.length) && decide (z.length ≤ 8)) && (cl z).all lowB)
        rw [decide_eq_false (show ¬ z.length ≤ 8 by omega), Bool.and_false]
        rfl
      | true =>
        have h2 := of_decide_eq_true h2
        refine iteF ?_
        refine ⟨.str z, rfl, z, rfl, fun D nD => ?_⟩
        refine lc_it walk_str (PvM H D fun i => .bl (lowB ((cl z).getD i 0))) (pvm_start ..) (fun _ _ _ _ => trivial) (fun i x H2 H3 hi hP hY => ?_) (fun H2 hP => ?_)
        · obtain ⟨rfl, c, hc, rfl⟩ := hY
          have hc' : (cl z).getD i 0 = c := by
            unfold cl
            rw [List.getD_eq_getElem?_getD, Array.getElem?_toList, hc]
            rfl
          refine ⟨rfl, ?_⟩
          unfold tYes
          dsimp only
          refine iteT ?_
          have ea : (Str.ofString "a").cps.toList = [97] := by decide +kernel
          have ez : (Str.ofString "z").cps.toList = [122] := by decide +kernel
          refine ⟨_, rfl, _, _, rfl, rfl, _, rfl, ?_⟩
          rw [ea]
          show (if (!decide (([c] : List Nat) < [97])) = true then _ else _)
          rw [lt_one]
          have hi8 : i ≤ 1000 := by
            have : i < z.length := hi
            omega
          refine ite2 (fun g1 => ?_) (fun g1 => ?_)
          · refine ⟨_, _, rfl, rfl, ?_⟩
            refine pvm_step hP (Same.refl _) ?_ hi8
            rw [ez, hc']
            show V.bl (!decide (([122] : List Nat) < [c])) = _
            rw [lt_one]
            unfold lowB
            have g2 : decide (97 ≤ c) = true := by
              rw [← g1]
              by_cases h : c < 97
              · rw [decide_eq_true h, decide_eq_false (by omega)]; rfl
              · rw [decide_eq_false h, decide_eq_true (by omega)]; rfl
            rw [g2]
            by_cases h : 122 < c
            · rw [decide_eq_true h, decide_eq_false (by omega)]; rfl
            · rw [decide_eq_false h, decide_eq_true (by omega)]; rfl
          · refine pvm_step hP (Same.refl _) ?_ hi8
            rw [hc']
            unfold lowB
            have g2 : decide (97 ≤ c) = false := by
              by_cases h : c < 97
              · exact decide_eq_false (by omega)
              · rw [decide_eq_false h] at g1
                exact absurd rfl g1
            rw [g2]
            rfl
        · have sm := pvm_same hP nD
          refine ⟨D, (List.range z.cps.size).map fun i => lowB ((cl z).getD i 0), rfl, .inl (.inl ?_), ?_⟩
          · rw [hP.1, List.map_map]; rfl
          · refine q' H2 sm _ ?_
            have el : z.cps.size = (cl z).length := rfl
            rw [el, range_all]
            show _ = ((decide (1 ≤ z.length) && decide (z.length ≤ 8)) && (cl z).all lowB)
            rw [decide_eq_true (show 1 ≤ z.length by omega), decide_eq_true (show z.length ≤ 8 by omega)]
            rfl
    · refine ⟨_, rfl, iteT (q' H (Same.refl H) _ ?_)⟩
      have h1 : ¬ (1 : Int) ≤ z.length := fun z => h1 (decide_eq_true z)
      show false = ((decide (1 ≤ z.length) && decide (z.length ≤ 8)) && (cl z).all lowB)
      rw [decide_eq_false (show ¬ 1 ≤ z.length by omega)]
      rfl
  · have hs' : isSB d = false := by simpa using hs
    rw [hs']
    refine iteT (iteT ?_)
    have e : nameB d = false := by cases d <;> first | rfl | exact absurd rfl hs
    have z := q H (Same.refl H)
    rw [e] at z
    exact z
end
end TT

set_option Elab.async false
set_option linter.all false
set_option maxRecDepth 100000
namespace TT
open PySem PySem.Spec PyProof.Rows L2
theorem two_of {α : Type} : ∀ {l : List α}, l.length = 2 → ∃ a b, l = [a, b]
  | [a, b], _ => ⟨a, b, rfl⟩
  | [], h => by cases h
  | [_], h => by cases h
  | _ :: _ :: _ :: _, h => by simp at h
theorem tup2 {K : PySem.W.Frag} {H : Hp} {v : V} {d : PyData} (hd : Dp K H v d) (h : tupB 2 2 d = true) : ∃ p x y a b, v = .ref p ∧ d = .tuple [a, b] ∧ SqT K H p [x, y] ∧ Dp K H x a ∧ Dp K H y b := by
  cases hd with
  | non => cases h
  | bl b => cases h
  | int i => cases h
  | str z => cases h
  | lst _ _ => cases h
  | tup hs a =>
    rename_i p xs ds
    have h' : (decide ((2 : Int) ≤ (ds.length : Int)) && decide ((ds.length : Int) ≤ 2)) = true := h
    rw [Bool.and_eq_true] at h'
    have g1 := of_decide_eq_true h'.1
    have g2 := of_decide_eq_true h'.2
    have hl : ds.length = 2 := by omega
    obtain ⟨a1, b1, rfl⟩ := two_of hl
    cases a with
    | cons h1 r =>
      cases r with
      | cons h2 r =>
        cases r
        exact ⟨p, _, _, a1, b1, rfl, rfl, hs, h1, h2⟩
theorem isT_of {K : PySem.W.Frag} {H : Hp} {v : V} {d : PyData} (hd : Dp K H v d) (h : isTB d = true) : ∃ p xs ds, v = .ref p ∧ d = .tuple ds ∧ SqT K H p xs ∧ DpAll K H xs ds := by
  cases hd with
  | non => cases h
  | bl b => cases h
  | int i => cases h
  | str z => cases h
  | lst _ _ => cases h
  | tup hs a => exact ⟨_, _, _, rfl, rfl, hs, a⟩
theorem tupB_isT {lo hi : Int} {d : PyData} (h : tupB lo hi d = true) : isTB d = true := by
  cases d <;> first | rfl | cases h
section
variable {P : Program} {w : World} {K : PySem.W.Frag} {mg : Str → Option Value} {base : Heap}
abbrev s_is_column : Stmt := topS 16
abbrev N_is_column : List Str := ["thing", "column", "fallback"]
theorem sc_is_column : FnScope N_is_column ["thing"] (defScope s_is_column) := ⟨rfl, rfl, rfl, by decide +kernel, rfl, by decide +kernel, by decide +kernel⟩

theorem ok_is_column {f : Addr} {fd : FuncData} (F : Fun K "_is_column" "_is_column" s_is_column f fd) (D_is_tuple : Def P w K mg base 1 "is_tuple" ["thing", "least", "most"] (spTup K)) (D_is_name : Def P w K mg base 1 "is_name" ["thing"] (spB nameB K))
    (D_is_worth : Def P w K mg base 3 "is_worth" ["thing"] (spB worthB K)) : FnOk P w K mg base CX0 4 f fd ["thing"] (spB colB K) := by
  refine F.ok sc_is_column (fun vs H Q E h => spB_len h) (fun cdv A outer sh H vs Q E hr h => ?_)
  obtain ⟨v, d, rfl, hd, hf, q⟩ := h
  have nd := sc_is_column.nd
  have q' : ∀ H', Same H H' → ∀ b, b = colB d → Q (.bl b) H' := fun H' s b e => by rw [e]; exact q H' s
  refine ⟨_, (pss_cons (ps_if (pt_not (pt_val (pe_own D_is_tuple hr (pa_cons (pv 0) (pa_cons pe_int (pa_cons pe_int pa_nil))))))
        (pss_one (ps_ret pe_bl))
        pss_nil)
      (pss_cons (ps_asg (pv 0) (pg_tup rfl (pgs_cons (pg_name (i := 1) nd rfl (Or.inl rfl)) (pgs_cons (pg_name (i := 2) nd rfl (Or.inl rfl)) pgs_nil))))
      (pss_one (ps_ret (pe_and (pe_own D_is_name hr (pa_cons (pv 1) pa_nil)) (pe_one (pe_own D_is_worth hr (pa_cons (pv 2) pa_nil)))))))), ?_⟩
  refine ⟨v, rfl, v, d, 2, 2, rfl, hd, hf, fun H1 sm => ⟨_, rfl, ?_⟩⟩
  cases ht : tupB 2 2 d with
  | false =>
    refine iteT (q' H1 sm _ ?_)
    unfold colB
    rw [ht]; rfl
  | true =>
    refine iteF ?_
    obtain ⟨p, x, y, a, b, rfl, rfl, hS, ha, hb⟩ := tup2 hd ht
    refine ⟨.ref p, rfl, p, _, rfl, sameT sm hS, rfl, x, _, rfl, y, _, rfl, rfl, ?_⟩
    refine ⟨x, rfl, x, a, rfl, dp_same sm ha, hf.2.1, fun H2 sm2 => ⟨_, rfl, ite2 (fun h1 => ?_) (fun h1 => ?_)⟩⟩
    · refine ⟨y, rfl, y, b, rfl, dp_same sm2 (dp_same sm hb), hf.2.2.1, fun H3 sm3 => q' H3 ((sm.trans sm2).trans sm3) _ ?_⟩
      show worthB b = (true && (nameB a && worthB b))
      rw [h1]; rfl
    · refine q' H2 (sm.trans sm2) _ ?_
      show false = (true && (nameB a && worthB b))
      rw [Bool.eq_false_iff.mpr h1]; rfl
/-- names of what is told to be pairs, by a comprehension with two targets -/
def strName (d : PyData) : Bool := tupB 2 2 d && isSB (fstD d)
def spNamesOf (K : PySem.W.Frag) : Sp := fun vs H Q _ => ∃ (p : Addr) (xs : List V) (ds : List PyData), vs = [.ref p] ∧ SqT K H p xs ∧ DpAll K H xs ds ∧ ds.length ≤ 900 ∧ ds.all strName = true ∧
  ∀ (D : Addr) (H' : Hp), Same H H' → H' D = some (.lst ((namesOf ds).map V.str)) → Q (.ref D) H'
abbrev s_table_names : Stmt := topS 13
abbrev N_table_names : List Str := ["tables", "table", "_"]
theorem sc_table_names : FnScope N_table_names ["tables"] (defScope s_table_names) := ⟨rfl, rfl, rfl, by decide +kernel, rfl, by decide +kernel, by decide +kernel⟩

theorem ok_table_names {f : Addr} {fd : FuncData} (F : Fun K "table_names" "table_names" s_table_names f fd) : FnOk P w K mg base CX0 1 f fd ["tables"] (spNamesOf K) := by
  refine F.ok sc_table_names (fun vs H Q E h => ?_) (fun cdv A outer sh H vs Q E hr h => ?_)
  · obtain ⟨p, xs, ds, rfl, _⟩ := h
    rfl
  obtain ⟨p, xs, ds, rfl, hS, hA, hl, hn, q⟩ := h
  have nd := sc_table_names.nd
  refine ⟨_, (pss_one (ps_ret (pe_lc (own := [("table", 1), ("_", 2)]) (g := (gTup _ 2 (gCons (gName 1) (gCons (gName 2) gNil)))) (tt := tYes) rfl nd (pi_tup (pv 0)) (blkOk_by (N := N_table_names) (sc := defScope s_table_names) (by decide +kernel)) (fun _ _ _ _ _ => (pg_tup rfl (pgs_cons (pg_name (i := 1) nd rfl (Or.inl rfl)) (pgs_cons (pg_name (i := 2) nd rfl (Or.inl rfl)) pgs_nil)))) (fun _ _ _ _ _ => pts_nil) (fun _ _ _ _ _ => (pv 1))))), ?_⟩
  have l := dpAll_len hA
  refine ⟨.ref p, rfl, p, rfl, ⟨_, hS⟩, fun D nD => ?_⟩
  refine lc_it walk_tup (PvM H D fun i => .str (strOf (fstD (ds.getD i .none)))) (pvm_start ..) (fun i H2 _ hP => sameT (pvm_same hP nD) hS) (fun i x H2 H3 hi hP hY => ?_) (fun H2 hP => ?_)
  · obtain ⟨rfl, hx⟩ := hY
    have sm := pvm_same hP nD
    obtain ⟨d, h1, h2⟩ := dpAll_get i hA hx
    have hd := List.all_eq_true.mp hn d (List.mem_of_getElem? h1)
    unfold strName at hd
    rw [Bool.and_eq_true] at hd
    obtain ⟨pt, x1, y1, a, b, rfl, rfl, hT, ha, hb⟩ := tup2 h2 hd.1
    obtain ⟨z, rfl, rfl⟩ : ∃ z, a = .str z ∧ x1 = .str z := by
      have h3 : isSB a = true := hd.2
      cases ha <;> first | exact ⟨_, rfl, rfl⟩ | cases h3
    refine ⟨pt, _, rfl, sameT sm hT, rfl, .str z, _, rfl, y1, _, rfl, rfl, ?_⟩
    refine ⟨rfl, ?_⟩
    unfold tYes
    dsimp only
    refine iteT ?_
    refine ⟨.str z, rfl, pvm_step hP (Same.refl _) ?_ (by omega)⟩
    show V.str z = .str (strOf (fstD (ds.getD i .none)))
    rw [List.getD_eq_getElem?_getD, h1]
    rfl
  · refine q D H2 (pvm_same hP nD) ?_
    rw [hP.1, l]
    unfold namesOf
    rw [List.map_map]
    have e := range_map (fun d => V.str (strOf (fstD d))) .none ds
    rw [e]
    rfl
end
end TT

set_option Elab.async false
set_option linter.all false
set_option maxRecDepth 100000
namespace TT
open PySem PySem.Spec PyProof.Rows L2
theorem getD_of {α : Type} {l : List α} {i : Nat} {a d : α} (h : l[i]? = some a) : l.getD i d = a := by
  rw [List.getD_eq_getElem?_getD, h]; rfl
theorem colB_name {d : PyData} (h : colB d = true) : strName d = true := by
  unfold colB at h
  rw [Bool.and_eq_true, Bool.and_eq_true] at h
  unfold strName
  rw [h.1]
  have h2 := h.2.1
  cases e : fstD d <;> rw [e] at h2 <;> first | rfl | cases h2
theorem tabB_name {d : PyData} (h : tabB d = true) : strName d = true := by
  unfold tabB at h
  rw [Bool.and_eq_true, Bool.and_eq_true] at h
  unfold strName
  rw [h.1]
  have h2 := h.2.1
  cases e : fstD d <;> rw [e] at h2 <;> first | rfl | cases h2
theorem all_imp {R S : PyData → Bool} {ds : List PyData} (h : ds.all R = true) (i : ∀ d, R d = true → S d = true) : ds.all S = true :=
  List.all_eq_true.mpr fun d hd => i d (List.all_eq_true.mp h d hd)
section
variable {P : Program} {w : World} {K : PySem.W.Frag} {mg : Str → Option Value} {base : Heap}
abbrev s_is_columns : Stmt := topS 15
abbrev N_is_columns : List Str := ["thing", "part", "column", "_"]
theorem sc_is_columns : FnScope N_is_columns ["thing"] (defScope s_is_columns) := ⟨rfl, rfl, rfl, by decide +kernel, rfl, by decide +kernel, by decide +kernel⟩

theorem ok_is_columns {f : Addr} {fd : FuncData} (F : Fun K "_is_columns" "_is_columns" s_is_columns f fd) (nb : NB mg) (gc : GC mg) (D_is_tuple : Def P w K mg base 1 "is_tuple" ["thing", "least", "most"] (spTup K))
    (D_is_column : Def P w K mg base 4 "_is_column" ["thing"] (spB colB K)) (D_are_unlike : Def P w K mg base 1 "are_unlike" ["names"] (spUnlike K)) : FnOk P w K mg base CX0 5 f fd ["thing"] (spB colsB K) := by
  refine F.ok sc_is_columns (fun vs H Q E h => spB_len h) (fun cdv A outer sh H vs Q E hr h => ?_)
  obtain ⟨v, d, rfl, hd, hf, q⟩ := h
  have nd := sc_is_columns.nd
  have q' : ∀ H', Same H H' → ∀ b, b = colsB d → Q (.bl b) H' := fun H' s b e => by rw [e]; exact q H' s
  refine ⟨_, (pss_cons (ps_if (pt_not (pt_val (pe_own D_is_tuple hr (pa_cons (pv 0) (pa_cons pe_int (pa_cons (pe_gint gc.MOST_COLUMNS) pa_nil))))))
        (pss_one (ps_ret pe_bl))
        pss_nil)
      (pss_cons (ps_if (pt_not (pt_val (pe_callB (cr_all rfl) (by rfl) nb.b_all (by decide +kernel) (pa_cons (pe_lc (own := [("part", 1)]) (g := (gName 1)) (tt := tYes) rfl nd (pi_tup (pv 0)) (blkOk_by (N := N_is_columns) (sc := defScope s_is_columns) (by decide +kernel)) (fun _ _ _ _ _ => (pg_name (i := 1) nd rfl (Or.inl rfl))) (fun _ _ _ _ _ => pts_nil) (fun _ _ _ _ _ => (pe_own D_is_column hr (pa_cons (pv 1) pa_nil)))) pa_nil))))
        (pss_one (ps_ret pe_bl))
        pss_nil)
      (pss_one (ps_ret (pe_and (pe_cmpR op_isN (pe_ix ix_seq (pe_ix ix_tup (pv 0) pe_int (fun _ _ => rfl)) pe_int (fun _ _ => rfl)) pe_non (nomark _)) (pe_one (pe_own D_are_unlike hr (pa_cons (pe_lc (own := [("column", 2), ("_", 3)]) (g := (gTup _ 2 (gCons (gName 2) (gCons (gName 3) gNil)))) (tt := tYes) rfl nd (pi_tup (pv 0)) (blkOk_by (N := N_is_columns) (sc := defScope s_is_columns) (by decide +kernel)) (fun _ _ _ _ _ => (pg_tup rfl (pgs_cons (pg_name (i := 2) nd rfl (Or.inl rfl)) (pgs_cons (pg_name (i := 3) nd rfl (Or.inl rfl)) pgs_nil)))) (fun _ _ _ _ _ => pts_nil) (fun _ _ _ _ _ => (pv 2))) pa_nil)))))))), ?_⟩
  refine ⟨v, rfl, v, d, 1, 5, rfl, hd, hf, fun H1 sm => ⟨_, rfl, ?_⟩⟩
  cases ht : tupB 1 5 d with
  | false =>
    refine iteT (q' H1 sm _ ?_)
    cases d with
    | tuple ds =>
      show false = ((decide (1 ≤ ds.length) && decide (ds.length ≤ 5)) && _)
      have h' : (decide ((1 : Int) ≤ (ds.length : Int)) && decide ((ds.length : Int) ≤ 5)) = false := ht
      have e : (decide (1 ≤ ds.length) && decide (ds.length ≤ 5)) = false := by
        rw [Bool.and_eq_false_iff] at h' ⊢
        exact h'.imp (fun z => decide_eq_false (by have := of_decide_eq_false z; omega)) fun z => decide_eq_false (by have := of_decide_eq_false z; omega)
      rw [e]; rfl
    | _ => rfl
  | true =>
    refine iteF ?_
    obtain ⟨p, xs, ds, rfl, rfl, hS, hA⟩ := isT_of hd (tupB_isT ht)
    have l := dpAll_len hA
    have lb : 1 ≤ ds.length ∧ ds.length ≤ 5 := by
      have h' : (decide ((1 : Int) ≤ (ds.length : Int)) && decide ((ds.length : Int) ≤ 5)) = true := ht
      rw [Bool.and_eq_true] at h'
      have g1 := of_decide_eq_true h'.1
      have g2 := of_decide_eq_true h'.2
      omega
    have eC : colsB (.tuple ds) = (ds.all colB && (isN (sndD (ds.headD .none)) && decide (namesOf ds).Nodup)) := by
      show ((decide (1 ≤ ds.length) && decide (ds.length ≤ 5)) && _) = _
      rw [decide_eq_true lb.1, decide_eq_true lb.2]; rfl
    -- all([_is_column(part) for part in thing])
    refine ⟨.ref p, rfl, p, rfl, ⟨_, sameT sm hS⟩, fun D nD => ?_⟩
    refine lc_it walk_tup (PvM H1 D fun i => .bl (colB (ds.getD i .none))) (pvm_start ..) (fun i H2 _ hP => sameT (pvm_same hP nD) (sameT sm hS)) (fun i x H2 H3 hi hP hY => ?_) (fun H2 hP => ?_)
    · obtain ⟨rfl, hx⟩ := hY
      obtain ⟨d1, h1, h2⟩ := dpAll_get i hA hx
      refine ⟨rfl, ?_⟩
      unfold tYes
      dsimp only
      refine iteT ?_
      refine ⟨x, rfl, x, d1, rfl, dp_same (sm.trans (pvm_same hP nD)) h2, fit_mem hf.2 (List.mem_of_getElem? h1), fun H4 s4 => pvm_step hP s4 ?_ (by omega)⟩
      show V.bl (colB d1) = .bl (colB (ds.getD i .none))
      rw [getD_of h1]
    · have sm2 : Same H H2 := sm.trans (pvm_same hP nD)
      refine ⟨D, (List.range xs.length).map fun i => colB (ds.getD i .none), rfl, .inl (.inl ?_), _, rfl, ?_⟩
      · rw [hP.1, List.map_map]; rfl
      rw [l, range_all]
      cases hc : ds.all colB with
      | false =>
        refine iteT (q' H2 sm2 _ ?_)
        rw [eC, hc]; rfl
      | true =>
        refine iteF ?_
        -- thing[0][1] is None
        obtain ⟨d0, r, rfl⟩ : ∃ d0 r, ds = d0 :: r := by
          cases ds with
          | nil => exact absurd lb.1 (by decide)
          | cons a r => exact ⟨a, r, rfl⟩
        obtain ⟨x0, hx0, hd0⟩ := dpAll_at (i := 0) hA rfl
        have c0 := List.all_eq_true.mp hc d0 (List.mem_cons_self ..)
        unfold colB at c0
        rw [Bool.and_eq_true] at c0
        obtain ⟨p0, x1, y1, a1, b1, rfl, rfl, hT, ha, hb⟩ := tup2 hd0 c0.1
        refine ⟨.ref p, rfl, p, xs, 0, .ref p0, rfl, rfl, sameT sm2 hS, atI_nat (j := 0) hx0, .inr (.inl ⟨p0, _, 1, y1, rfl, rfl, sameT sm2 hT, rfl, rfl, _, rfl, ?_⟩)⟩
        have eN : decide (y1 = V.non) = isN b1 := by cases hb <;> rfl
        rw [eN]
        refine ite2 (fun g1 => ?_) (fun g1 => ?_)
        · -- are_unlike([column for column, _ in thing])
          refine ⟨.ref p, rfl, p, rfl, ⟨_, sameT sm2 hS⟩, fun D2 nD2 => ?_⟩
          have hn := all_imp hc fun d h => colB_name h
          refine lc_it walk_tup (PvM H2 D2 fun i => .str (strOf (fstD ((PyData.tuple [a1, b1] :: r).getD i .none)))) (pvm_start ..) (fun i H4 _ hP4 => sameT (pvm_same hP4 nD2) (sameT sm2 hS)) (fun i x H4 H5 hi hP4 hY => ?_) (fun H4 hP4 => ?_)
          · obtain ⟨rfl, hx⟩ := hY
            have sm4 := sm2.trans (pvm_same hP4 nD2)
            obtain ⟨d2, h1, h2⟩ := dpAll_get i hA hx
            have hd2 := List.all_eq_true.mp hn d2 (List.mem_of_getElem? h1)
            unfold strName at hd2
            rw [Bool.and_eq_true] at hd2
            obtain ⟨pt, x3, y3, a3, b3, rfl, rfl, hT3, ha3, hb3⟩ := tup2 h2 hd2.1
            obtain ⟨z, rfl, rfl⟩ : ∃ z, a3 = .str z ∧ x3 = .str z := by
              have h3 : isSB a3 = true := hd2.2
              cases ha3 <;> first | exact ⟨_, rfl, rfl⟩ | cases h3
            refine ⟨pt, _, rfl, sameT sm4 hT3, rfl, .str z, _, rfl, y3, _, rfl, rfl, ?_⟩
            refine ⟨rfl, ?_⟩
            unfold tYes
            dsimp only
            refine iteT ?_
            refine ⟨.str z, rfl, pvm_step hP4 (Same.refl _) ?_ (by omega)⟩
            show V.str z = .str (strOf (fstD ((PyData.tuple [a1, b1] :: r).getD i .none)))
            rw [getD_of h1]
            rfl
          · have sm4 := sm2.trans (pvm_same hP4 nD2)
            refine ⟨D2, namesOf (PyData.tuple [a1, b1] :: r), rfl, .inl (.inl ?_), ?_, fun H5 s5 => q' H5 (sm4.trans s5) _ ?_⟩
            · rw [hP4.1, l]
              unfold namesOf
              rw [List.map_map]
              have e := range_map (fun d => V.str (strOf (fstD d))) .none (PyData.tuple [a1, b1] :: r)
              rw [e]
              rfl
            · unfold namesOf; rw [List.length_map]; omega
            · rw [eC, hc]
              show _ = (true && (isN b1 && _))
              rw [g1]; rfl
        · refine q' H2 sm2 _ ?_
          rw [eC, hc]
          show false = (true && (isN b1 && _))
          rw [Bool.eq_false_iff.mpr g1]; rfl
abbrev s_is_table : Stmt := topS 14
abbrev N_is_table : List Str := ["thing", "table", "columns"]
theorem sc_is_table : FnScope N_is_table ["thing"] (defScope s_is_table) := ⟨rfl, rfl, rfl, by decide +kernel, rfl, by decide +kernel, by decide +kernel⟩

theorem ok_is_table {f : Addr} {fd : FuncData} (F : Fun K "_is_table" "_is_table" s_is_table f fd) (D_is_tuple : Def P w K mg base 1 "is_tuple" ["thing", "least", "most"] (spTup K)) (D_is_name : Def P w K mg base 1 "is_name" ["thing"] (spB nameB K))
    (D_is_columns : Def P w K mg base 5 "_is_columns" ["thing"] (spB colsB K)) : FnOk P w K mg base CX0 6 f fd ["thing"] (spB tabB K) := by
  refine F.ok sc_is_table (fun vs H Q E h => spB_len h) (fun cdv A outer sh H vs Q E hr h => ?_)
  obtain ⟨v, d, rfl, hd, hf, q⟩ := h
  have nd := sc_is_table.nd
  have q' : ∀ H', Same H H' → ∀ b, b = tabB d → Q (.bl b) H' := fun H' s b e => by rw [e]; exact q H' s
  refine ⟨_, (pss_cons (ps_if (pt_not (pt_val (pe_own D_is_tuple hr (pa_cons (pv 0) (pa_cons pe_int (pa_cons pe_int pa_nil))))))
        (pss_one (ps_ret pe_bl))
        pss_nil)
      (pss_cons (ps_asg (pv 0) (pg_tup rfl (pgs_cons (pg_name (i := 1) nd rfl (Or.inl rfl)) (pgs_cons (pg_name (i := 2) nd rfl (Or.inl rfl)) pgs_nil))))
      (pss_one (ps_ret (pe_and (pe_own D_is_name hr (pa_cons (pv 1) pa_nil)) (pe_one (pe_own D_is_columns hr (pa_cons (pv 2) pa_nil)))))))), ?_⟩
  refine ⟨v, rfl, v, d, 2, 2, rfl, hd, hf, fun H1 sm => ⟨_, rfl, ?_⟩⟩
  cases ht : tupB 2 2 d with
  | false =>
    refine iteT (q' H1 sm _ ?_)
    unfold tabB
    rw [ht]; rfl
  | true =>
    refine iteF ?_
    obtain ⟨p, x, y, a, b, rfl, rfl, hS, ha, hb⟩ := tup2 hd ht
    refine ⟨.ref p, rfl, p, _, rfl, sameT sm hS, rfl, x, _, rfl, y, _, rfl, rfl, ?_⟩
    refine ⟨x, rfl, x, a, rfl, dp_same sm ha, hf.2.1, fun H2 sm2 => ⟨_, rfl, ite2 (fun h1 => ?_) (fun h1 => ?_)⟩⟩
    · refine ⟨y, rfl, y, b, rfl, dp_same sm2 (dp_same sm hb), hf.2.2.1, fun H3 sm3 => q' H3 ((sm.trans sm2).trans sm3) _ ?_⟩
      show colsB b = (true && (nameB a && colsB b))
      rw [h1]; rfl
    · refine q' H2 (sm.trans sm2) _ ?_
      show false = (true && (nameB a && colsB b))
      rw [Bool.eq_false_iff.mpr h1]; rfl
abbrev s_is_tables : Stmt := topS 12
abbrev N_is_tables : List Str := ["thing", "part"]
theorem sc_is_tables : FnScope N_is_tables ["thing"] (defScope s_is_tables) := ⟨rfl, rfl, rfl, by decide +kernel, rfl, by decide +kernel, by decide +kernel⟩

theorem ok_is_tables {f : Addr} {fd : FuncData} (F : Fun K "is_tables" "is_tables" s_is_tables f fd) (nb : NB mg) (gc : GC mg) (D_is_tuple : Def P w K mg base 1 "is_tuple" ["thing", "least", "most"] (spTup K))
    (D_is_table : Def P w K mg base 6 "_is_table" ["thing"] (spB tabB K)) (D_are_unlike : Def P w K mg base 1 "are_unlike" ["names"] (spUnlike K)) (D_table_names : Def P w K mg base 1 "table_names" ["tables"] (spNamesOf K)) : FnOk P w K mg base CX0 7 f fd ["thing"] (spB tabsB K) := by
  refine F.ok sc_is_tables (fun vs H Q E h => spB_len h) (fun cdv A outer sh H vs Q E hr h => ?_)
  obtain ⟨v, d, rfl, hd, hf, q⟩ := h
  have nd := sc_is_tables.nd
  have q' : ∀ H', Same H H' → ∀ b, b = tabsB d → Q (.bl b) H' := fun H' s b e => by rw [e]; exact q H' s
  refine ⟨_, (pss_cons (ps_if (pt_not (pt_val (pe_own D_is_tuple hr (pa_cons (pv 0) (pa_cons pe_int (pa_cons (pe_gint gc.MOST_TABLES) pa_nil))))))
        (pss_one (ps_ret pe_bl))
        pss_nil)
      (pss_cons (ps_if (pt_not (pt_val (pe_callB (cr_all rfl) (by rfl) nb.b_all (by decide +kernel) (pa_cons (pe_lc (own := [("part", 1)]) (g := (gName 1)) (tt := tYes) rfl nd (pi_tup (pv 0)) (blkOk_by (N := N_is_tables) (sc := defScope s_is_tables) (by decide +kernel)) (fun _ _ _ _ _ => (pg_name (i := 1) nd rfl (Or.inl rfl))) (fun _ _ _ _ _ => pts_nil) (fun _ _ _ _ _ => (pe_own D_is_table hr (pa_cons (pv 1) pa_nil)))) pa_nil))))
        (pss_one (ps_ret pe_bl))
        pss_nil)
      (pss_one (ps_ret (pe_own D_are_unlike hr (pa_cons (pe_own D_table_names hr (pa_cons (pv 0) pa_nil)) pa_nil)))))), ?_⟩
  refine ⟨v, rfl, v, d, 1, 6, rfl, hd, hf, fun H1 sm => ⟨_, rfl, ?_⟩⟩
  cases ht : tupB 1 6 d with
  | false =>
    refine iteT (q' H1 sm _ ?_)
    cases d with
    | tuple ds =>
      show false = ((decide (1 ≤ ds.length) && decide (ds.length ≤ 6)) && _)
      have h' : (decide ((1 : Int) ≤ (ds.length : Int)) && decide ((ds.length : Int) ≤ 6)) = false := ht
      have e : (decide (1 ≤ ds.length) && decide (ds.length ≤ 6)) = false := by
        rw [Bool.and_eq_false_iff] at h' ⊢
        exact h'.imp (fun z => decide_eq_false (by have := of_decide_eq_false z; omega)) fun z => decide_eq_false (by have := of_decide_eq_false z; omega)
      rw [e]; rfl
    | _ => rfl
  | true =>
    refine iteF ?_
    obtain ⟨p, xs, ds, rfl, rfl, hS, hA⟩ := isT_of hd (tupB_isT ht)
    have l := dpAll_len hA
    have lb : 1 ≤ ds.length ∧ ds.length ≤ 6 := by
      have h' : (decide ((1 : Int) ≤ (ds.length : Int)) && decide ((ds.length : Int) ≤ 6)) = true := ht
      rw [Bool.and_eq_true] at h'
      have g1 := of_decide_eq_true h'.1
      have g2 := of_decide_eq_true h'.2
      omega
    have eC : tabsB (.tuple ds) = (ds.all tabB && decide (namesOf ds).Nodup) := by
      show ((decide (1 ≤ ds.length) && decide (ds.length ≤ 6)) && _) = _
      rw [decide_eq_true lb.1, decide_eq_true lb.2]; rfl
    refine ⟨.ref p, rfl, p, rfl, ⟨_, sameT sm hS⟩, fun D nD => ?_⟩
    refine lc_it walk_tup (PvM H1 D fun i => .bl (tabB (ds.getD i .none))) (pvm_start ..) (fun i H2 _ hP => sameT (pvm_same hP nD) (sameT sm hS)) (fun i x H2 H3 hi hP hY => ?_) (fun H2 hP => ?_)
    · obtain ⟨rfl, hx⟩ := hY
      obtain ⟨d1, h1, h2⟩ := dpAll_get i hA hx
      refine ⟨rfl, ?_⟩
      unfold tYes
      dsimp only
      refine iteT ?_
      refine ⟨x, rfl, x, d1, rfl, dp_same (sm.trans (pvm_same hP nD)) h2, fit_mem hf.2 (List.mem_of_getElem? h1), fun H4 s4 => pvm_step hP s4 ?_ (by omega)⟩
      show V.bl (tabB d1) = .bl (tabB (ds.getD i .none))
      rw [getD_of h1]
    · have sm2 : Same H H2 := sm.trans (pvm_same hP nD)
      refine ⟨D, (List.range xs.length).map fun i => tabB (ds.getD i .none), rfl, .inl (.inl ?_), _, rfl, ?_⟩
      · rw [hP.1, List.map_map]; rfl
      rw [l, range_all]
      cases hc : ds.all tabB with
      | false =>
        refine iteT (q' H2 sm2 _ ?_)
        rw [eC, hc]; rfl
      | true =>
        refine iteF ?_
        have hn := all_imp hc fun d h => tabB_name h
        refine ⟨.ref p, rfl, p, xs, ds, rfl, sameT sm2 hS, dpAll_same sm2 hA, by omega, hn, fun D3 H3 s3 e3 => ⟨D3, namesOf ds, rfl, .inl (.inl e3), ?_, fun H4 s4 => q' H4 ((sm2.trans s3).trans s4) _ ?_⟩⟩
        · unfold namesOf; rw [List.length_map]; omega
        · rw [eC, hc]; rfl
end
end TT

set_option Elab.async false
set_option linter.all false
set_option maxRecDepth 100000
namespace TT
open PySem PySem.Spec PyProof.Rows L2
/-! ### the law's own look -/
theorem takeWhile_full {α : Type} (p : α → Bool) : ∀ l : List α, l.all p = true → l.takeWhile p = l
  | [], _ => rfl
  | a :: r, h => by
    rw [List.all_cons, Bool.and_eq_true] at h
    rw [List.takeWhile_cons, if_pos h.1, takeWhile_full p r h.2]
theorem takeWhile_short {α : Type} (p : α → Bool) : ∀ l : List α, (l.takeWhile p).length = l.length → l.all p = true
  | [], _ => rfl
  | a :: r, h => by
    rw [List.takeWhile_cons] at h
    by_cases ha : p a = true
    · rw [if_pos ha, List.length_cons, List.length_cons] at h
      rw [List.all_cons, ha, takeWhile_short p r (by omega)]; rfl
    · rw [if_neg ha] at h
      simp at h
theorem takeWhile_le {α : Type} (p : α → Bool) : ∀ l : List α, (l.takeWhile p).length ≤ l.length
  | [] => Nat.le_refl 0
  | a :: r => by
    rw [List.takeWhile_cons]
    split
    · rw [List.length_cons, List.length_cons]
      exact Nat.succ_le_succ (takeWhile_le p r)
    · exact Nat.zero_le _
theorem takeWhile_next {α : Type} (p : α → Bool) : ∀ (l : List α), (l.takeWhile p).length < l.length → ∃ a r, l.drop (l.takeWhile p).length = a :: r ∧ p a = false
  | [], h => by simp at h
  | a :: r, h => by
    rw [List.takeWhile_cons] at h ⊢
    by_cases ha : p a = true
    · rw [if_pos ha, List.length_cons, List.length_cons] at h
      rw [if_pos ha, List.length_cons, List.drop_succ_cons]
      exact takeWhile_next p r (by omega)
    · rw [if_neg ha]
      exact ⟨a, r, rfl, by simpa using ha⟩
/-- nothing is left of a text just where all its signs are among those stripped -/
theorem strip_empty (z y : Str) : Txt.stripChars z y = Str.ofString "" ↔ (cl z).all y.cps.contains = true := by
  have e0 : cl (Str.ofString "") = [] := rfl
  unfold Txt.stripChars
  rw [stripBy_eq]
  generalize y.cps.contains = p
  have cs : ∀ i j, cl (Builtin.Str.strSub z i j) = ((cl z).drop i).take (j - i) := fun i j => StrLaws.strSub_toList ..
  have lo : stripLo p true z = ((cl z).takeWhile p).length := rfl
  constructor
  · intro h
    have h1 := congrArg cl h
    rw [cs, e0, lo] at h1
    have h2 := congrArg List.length h1
    rw [List.length_take, List.length_drop, List.length_nil] at h2
    by_cases hlt : ((cl z).takeWhile p).length < (cl z).length
    · exfalso
      obtain ⟨a, r, hd, hp⟩ := takeWhile_next p _ hlt
      have hi : stripHi p true z ((cl z).takeWhile p).length = z.length - (((cl z).drop ((cl z).takeWhile p).length).reverse.takeWhile p).length := rfl
      rw [hi] at h2
      have hle : (((cl z).drop ((cl z).takeWhile p).length).reverse.takeWhile p).length < ((cl z).drop ((cl z).takeWhile p).length).length := by
        have g := takeWhile_le p ((cl z).drop ((cl z).takeWhile p).length).reverse
        rw [List.length_reverse] at g
        refine Nat.lt_of_le_of_ne g fun e => ?_
        have g2 := takeWhile_short p ((cl z).drop ((cl z).takeWhile p).length).reverse (by rw [List.length_reverse]; exact e)
        rw [List.all_reverse, hd, List.all_cons, hp] at g2
        cases g2
      rw [List.length_drop] at hle
      have el : z.length = (cl z).length := rfl
      omega
    · exact takeWhile_short p _ (by have := takeWhile_le p (cl z); omega)
  · intro h
    refine cl_inj ?_
    rw [cs, e0, lo, takeWhile_full p _ h, List.drop_length, List.take_nil]
theorem abc_low (c : Nat) : abc.cps.contains c = lowB c := by
  rw [Array.contains_eq_mem]
  unfold lowB
  have h : (c ∈ abc.cps) ↔ (97 ≤ c ∧ c ≤ 122) := by
    rw [← Array.mem_toList_iff]
    show c ∈ cl abc ↔ _
    rw [abc_cl, List.mem_map]
    constructor
    · rintro ⟨a, ha, rfl⟩
      have := List.mem_range.mp ha
      omega
    · intro ⟨h1, h2⟩
      exact ⟨c - 97, List.mem_range.mpr (by omega), by omega⟩
  by_cases h1 : c ∈ abc.cps
  · have h2 := h.mp h1
    rw [decide_eq_true h1, decide_eq_true h2.1, decide_eq_true h2.2]; rfl
  · rw [decide_eq_false h1]
    by_cases h3 : 97 ≤ c
    · rw [decide_eq_true h3, decide_eq_false (fun h4 => h1 (h.mpr ⟨h3, h4⟩))]; rfl
    · rw [decide_eq_false h3]; rfl
theorem strip_name (z : Str) : decide (Txt.stripChars z abc = Str.ofString "") = (cl z).all lowB := by
  have e : abc.cps.contains = lowB := funext abc_low
  have h := strip_empty z abc
  rw [e] at h
  cases g : (cl z).all lowB with
  | true => exact decide_eq_true (h.mpr g)
  | false => exact decide_eq_false fun q => by rw [h.mp q] at g; cases g
section
variable {P : Program} {w : World} {K : PySem.W.Frag} {mg : Str → Option Value} {base : Heap}
abbrev s_law_number : Stmt := topS 26
abbrev N_law_number : List Str := ["thing"]
theorem sc_law_number : FnScope N_law_number ["thing"] (defScope s_law_number) := ⟨rfl, rfl, rfl, by decide +kernel, rfl, by decide +kernel, by decide +kernel⟩

theorem ok_law_number {f : Addr} {fd : FuncData} (F : Fun K "_law_number" "_law_number" s_law_number f fd) (nb : NB mg) : FnOk P w K mg base CX0 1 f fd ["thing"] (spB numB K) := by
  refine F.ok sc_law_number (fun vs H Q E h => spB_len h) (fun cdv A outer sh H vs Q E hr h => ?_)
  obtain ⟨v, d, rfl, hd, hf, q⟩ := h
  have nd := sc_law_number.nd
  have q' : ∀ H', Same H H' → ∀ b, b = numB d → Q (.bl b) H' := fun H' s b e => by rw [e]; exact q H' s
  refine ⟨_, (pss_one (ps_ret (pe_and (pe_callB call_isi (by rfl) nb.b_isinstance (by decide +kernel) (pa_cons (pv 0) (pa_cons (pe_bltn (v := .ty "int") (by rfl) nb.b_int (by decide +kernel) rfl) pa_nil))) (pe_one (pe_not (pe_callB call_isi (by rfl) nb.b_isinstance (by decide +kernel) (pa_cons (pv 0) (pa_cons (pe_bltn (v := .ty "bool") (by rfl) nb.b_bool (by decide +kernel) rfl) pa_nil)))))))), ?_⟩
  refine ⟨v, rfl, v, .ty "int", _, _, _, rfl, .ty "int", dp_ty hd, kit_i d, _, rfl, ite2 (fun h1 => ?_) (fun h1 => ?_)⟩
  · refine ⟨v, rfl, v, .ty "bool", _, _, _, rfl, .ty "bool", dp_ty hd, kit_b d, _, rfl, q' H (Same.refl H) _ ?_⟩
    cases d <;> simp_all [isIB, isBB, numB]
  · refine q' H (Same.refl H) _ ?_
    cases d <;> simp_all [isIB, numB]
abbrev s_law_is_worth : Stmt := topS 27
abbrev N_law_is_worth : List Str := ["thing"]
theorem sc_law_is_worth : FnScope N_law_is_worth ["thing"] (defScope s_law_is_worth) := ⟨rfl, rfl, rfl, by decide +kernel, rfl, by decide +kernel, by decide +kernel⟩

theorem ok_law_is_worth {f : Addr} {fd : FuncData} (F : Fun K "_law_is_worth" "_law_is_worth" s_law_is_worth f fd) (D_law_number : Def P w K mg base 1 "_law_number" ["thing"] (spB numB K)) : FnOk P w K mg base CX0 2 f fd ["thing"] (spB worthB K) := by
  refine F.ok sc_law_is_worth (fun vs H Q E h => spB_len h) (fun cdv A outer sh H vs Q E hr h => ?_)
  obtain ⟨v, d, rfl, hd, hf, q⟩ := h
  have nd := sc_law_is_worth.nd
  have q' : ∀ H', Same H H' → ∀ b, b = worthB d → Q (.bl b) H' := fun H' s b e => by rw [e]; exact q H' s
  have e9 : (10 : Int) ^ (9 : Int).toNat = 1000000000 := by decide
  refine ⟨_, (pss_one (ps_ret (pe_or (pe_cmpR op_isN (pv 0) pe_non (nomark _)) (pe_one (pe_and (pe_own D_law_number hr (pa_cons (pv 0) pa_nil)) (pe_one (pe_chain op_le op_le (pe_op op_sub pe_int (pe_op op_pow pe_int pe_int)) (pv 0) (pe_op op_pow pe_int pe_int)))))))), ?_⟩
  refine ⟨v, rfl, rfl, _, rfl, ite2 (fun h1 => ?_) (fun h1 => ?_)⟩
  · have h1 : v = .non := of_decide_eq_true h1
    refine q' H (Same.refl H) _ ?_
    subst h1
    cases hd
    rfl
  · have h1 : ¬ v = .non := fun z => h1 (decide_eq_true z)
    refine ⟨v, rfl, v, d, rfl, hd, hf, fun H1 sm => ⟨_, rfl, ite2 (fun h2 => ?_) (fun h2 => ?_)⟩⟩
    · obtain ⟨i, rfl, rfl⟩ : ∃ i, d = .int i ∧ v = .int i := by
        cases hd <;> first | exact ⟨_, rfl, rfl⟩ | cases h2
      refine ⟨10, 9, rfl, rfl, ⟨by decide, by decide, by decide⟩, _, _, rfl, rfl, .int i, rfl, _, _, rfl, rfl, _, rfl, ite2 (fun h3 => ?_) (fun h3 => ?_)⟩
      · refine ⟨10, 9, rfl, rfl, ⟨by decide, by decide, by decide⟩, _, _, rfl, rfl, q' H1 sm _ ?_⟩
        have h3 : (0 : Int) - 10 ^ (9 : Int).toNat ≤ i := of_decide_eq_true h3
        rw [e9] at h3 ⊢
        show _ = (decide (-1000000000 ≤ i) && decide (i ≤ 1000000000))
        rw [decide_eq_true (show -1000000000 ≤ i by omega)]; rfl
      · refine q' H1 sm _ ?_
        have h3 : ¬ (0 : Int) - 10 ^ (9 : Int).toNat ≤ i := fun z => h3 (decide_eq_true z)
        rw [e9] at h3
        show _ = (decide (-1000000000 ≤ i) && decide (i ≤ 1000000000))
        rw [decide_eq_false (show ¬ -1000000000 ≤ i by omega)]; rfl
    · refine q' H1 sm _ ?_
      cases hd <;> first | rfl | exact absurd rfl h1 | exact absurd rfl h2
abbrev s_law_name : Stmt := topS 28
abbrev N_law_name : List Str := ["thing"]
theorem sc_law_name : FnScope N_law_name ["thing"] (defScope s_law_name) := ⟨rfl, rfl, rfl, by decide +kernel, rfl, by decide +kernel, by decide +kernel⟩

theorem ok_law_name {f : Addr} {fd : FuncData} (F : Fun K "_law_name" "_law_name" s_law_name f fd) (nb : NB mg) : FnOk P w K mg base CX0 1 f fd ["thing"] (spB nameB K) := by
  refine F.ok sc_law_name (fun vs H Q E h => spB_len h) (fun cdv A outer sh H vs Q E hr h => ?_)
  obtain ⟨v, d, rfl, hd, hf, q⟩ := h
  have nd := sc_law_name.nd
  have q' : ∀ H', Same H H' → ∀ b, b = nameB d → Q (.bl b) H' := fun H' s b e => by rw [e]; exact q H' s
  refine ⟨_, (pss_one (ps_ret (pe_and (pe_callB call_isi (by rfl) nb.b_isinstance (by decide +kernel) (pa_cons (pv 0) (pa_cons (pe_bltn (v := .ty "str") (by rfl) nb.b_str (by decide +kernel) rfl) pa_nil))) (pe_and (pe_chain op_lt op_lt pe_int (pe_callB call_len_str (by rfl) nb.b_len (by decide +kernel) (pa_cons (pv 0) pa_nil)) pe_int) (pe_one (pe_cmpR op_eq (pe_bm PySem.F.plainAttrs_str PySem.F.slot_str_strip PySem.F.type_str_strip mt_stripChars (pv 0) (pa_cons pe_str pa_nil)) pe_str (nomark _))))))), ?_⟩
  refine ⟨v, rfl, v, .ty "str", _, _, _, rfl, .ty "str", dp_ty hd, kit_s d, _, rfl, ite2 (fun hs => ?_) (fun hs => ?_)⟩
  · obtain ⟨z, rfl, rfl⟩ : ∃ z, d = .str z ∧ v = .str z := by
      cases hd <;> first | exact ⟨_, rfl, rfl⟩ | cases hs
    have lz : z.length ≤ 10000 := hf
    refine ⟨.str z, rfl, z, rfl, Nat.le_trans lz (by decide), _, _, rfl, rfl, _, rfl, ite2 (fun h1 => ?_) (fun h1 => ?_)⟩
    · have h1 : (0 : Int) < z.length := of_decide_eq_true h1
      refine ⟨_, _, rfl, rfl, _, rfl, ite2 (fun h2 => ?_) (fun h2 => ?_)⟩
      · have h2 : (z.length : Int) < 9 := of_decide_eq_true h2
        refine ⟨.str z, rfl, ?_, z, abc, rfl, rfl, Nat.le_trans lz (by decide), rfl, ?_⟩
        · exact rfl
        · refine q' H (Same.refl H) _ ?_
          have e : decide (V.str (Txt.stripChars z abc) = V.str (Str.ofString "")) = (cl z).all lowB := by
            rw [← strip_name]
            exact decide_eq_decide.mpr ⟨fun q => V.str.inj q, fun q => by rw [q]⟩
          show _ = ((decide (1 ≤ z.length) && decide (z.length ≤ 8)) && (cl z).all lowB)
          rw [decide_eq_true (show 1 ≤ z.length by omega), decide_eq_true (show z.length ≤ 8 by omega)]
          exact e
      · have h2 : ¬ (z.length : Int) < 9 := fun q => h2 (decide_eq_true q)
        refine q' H (Same.refl H) _ ?_
        show _ = ((decide (1 ≤ z.length) && decide (z.length ≤ 8)) && (cl z).all lowB)
        rw [decide_eq_false (show ¬ z.length ≤ 8 by omega), Bool.and_false]; rfl
    · have h1 : ¬ (0 : Int) < z.length := fun q => h1 (decide_eq_true q)
      refine ⟨_, rfl, iteF (q' H (Same.refl H) _ ?_)⟩
      show _ = ((decide (1 ≤ z.length) && decide (z.length ≤ 8)) && (cl z).all lowB)
      rw [decide_eq_false (show ¬ 1 ≤ z.length by omega)]; rfl
  · refine q' H (Same.refl H) _ ?_
    cases d <;> first | rfl | exact absurd rfl hs
end
end TT

set_option Elab.async false
set_option linter.all false
set_option maxRecDepth 100000
namespace TT
open PySem PySem.Spec PyProof.Rows L2
/-! ### the columns of a table, all at once and one behind the other -/
theorem colsB_eq (ds : List PyData) : colsB (.tuple ds) = ((decide (1 ≤ ds.length) && decide (ds.length ≤ 5)) && (ds.all colB && (isN (sndD (ds.headD .none)) && decide (namesOf ds).Nodup))) := rfl
theorem tabsB_eq (ds : List PyData) : tabsB (.tuple ds) = ((decide (1 ≤ ds.length) && decide (ds.length ≤ 6)) && (ds.all tabB && decide (namesOf ds).Nodup)) := rfl
/-- what is known of the first columns that went -/
structure Went (ds : List PyData) (i : Nat) : Prop where
  col : ∀ (j : Nat) (d : PyData), j < i → ds[j]? = some d → colB d = true
  nd : (namesOf (ds.take i)).Nodup
  key : 0 < i → isN (sndD (ds.headD .none)) = true
theorem went_start (ds : List PyData) : Went ds 0 := ⟨fun _ _ h => absurd h (Nat.not_lt_zero _), by simp [namesOf], fun h => absurd h (Nat.lt_irrefl _)⟩
theorem namesOf_succ {ds : List PyData} {i : Nat} {d : PyData} (h : ds[i]? = some d) : namesOf (ds.take (i + 1)) = namesOf (ds.take i) ++ [strOf (fstD d)] := by
  unfold namesOf
  rw [List.take_add_one, h, List.map_append]; rfl
theorem Went.next {ds : List PyData} {i : Nat} {d : PyData} (h : Went ds i) (hd : ds[i]? = some d) (hc : colB d = true) (hn : strOf (fstD d) ∉ namesOf (ds.take i)) (hk : i = 0 → isN (sndD d) = true) : Went ds (i + 1) where
  col := fun j e hj he => by
    by_cases hji : j < i
    · exact h.col j e hji he
    · obtain rfl : j = i := by omega
      rw [hd] at he
      cases he
      exact hc
  nd := by
    rw [namesOf_succ hd, List.nodup_append]
    refine ⟨h.nd, by simp, fun a ha b hb e => hn ?_⟩
    rw [← List.mem_singleton.mp hb, ← e]
    exact ha
  key := fun _ => by
    by_cases hi : i = 0
    · subst hi
      have e : ds.headD .none = d := by
        cases ds with
        | nil => cases hd
        | cons a r => exact Option.some.inj hd
      rw [e]
      exact hk rfl
    · exact h.key (by omega)
theorem Went.end' {ds : List PyData} (h : Went ds ds.length) : colsB (.tuple ds) = (decide (1 ≤ ds.length) && decide (ds.length ≤ 5)) := by
  rw [colsB_eq]
  have h1 : ds.all colB = true := List.all_eq_true.mpr fun d hd => by
    obtain ⟨j, hj⟩ := List.getElem?_of_mem hd
    exact h.col j d (List.getElem?_eq_some_iff.mp hj).1 hj
  have h2 := h.nd
  rw [List.take_length] at h2
  by_cases h0 : ds.length = 0
  · rw [decide_eq_false (show ¬ 1 ≤ ds.length by omega)]; rfl
  · rw [h1, h.key (by omega), decide_eq_true h2]
    simp
/-- where one column is not right, the columns are not -/
theorem cols_no {ds : List PyData} {i : Nat} {d : PyData} (hd : ds[i]? = some d) (h : colB d = false ∨ strOf (fstD d) ∈ namesOf (ds.take i) ∨ (i = 0 ∧ isN (sndD d) = false)) : colsB (.tuple ds) = false := by
  rw [colsB_eq]
  have hm : d ∈ ds := List.mem_of_getElem? hd
  cases ha : ds.all colB with
  | false => simp
  | true =>
    have hc := List.all_eq_true.mp ha d hm
    rcases h with h | h | ⟨h0, h⟩
    · rw [h] at hc; cases hc
    · have : ¬ (namesOf ds).Nodup := fun nd => by
        have hi : i < ds.length := (List.getElem?_eq_some_iff.mp hd).1
        have e : namesOf ds = namesOf (ds.take (i + 1)) ++ namesOf (ds.drop (i + 1)) := by
          unfold namesOf
          rw [← List.map_append, List.take_append_drop]
        rw [e, namesOf_succ hd, List.nodup_append, List.nodup_append] at nd
        exact nd.1.2.2 _ h _ (List.mem_singleton.mpr rfl) rfl
      rw [decide_eq_false this]
      simp
    · subst h0
      have e : ds.headD .none = d := by
        cases ds with
        | nil => cases hd
        | cons a r => exact Option.some.inj hd
      rw [e, h]
      simp
theorem nameB_ok {z : Str} (h : nameB (.str z) = true) : NameOk z := by
  have h' : ((decide (1 ≤ z.length) && decide (z.length ≤ 8)) && (cl z).all lowB) = true := h
  simp only [Bool.and_eq_true, decide_eq_true_eq, List.all_eq_true] at h'
  refine ⟨h'.1.1, h'.1.2, fun c hc => ?_⟩
  have := h'.2 c hc
  unfold lowB at this
  simp only [Bool.and_eq_true, decide_eq_true_eq] at this
  exact this
theorem dp_strs {K : PySem.W.Frag} {H : Hp} : ∀ zs : List Str, DpAll K H (zs.map V.str) (zs.map PyData.str)
  | [] => .nil
  | z :: zs => .cons (.str z) (dp_strs zs)
theorem lay_strs : ∀ zs : List Str, (∀ z ∈ zs, NameOk z) → PyData.canLayAll0 (zs.map PyData.str) = true ∧ PyData.depthAll (zs.map PyData.str) = 0
  | [], _ => ⟨rfl, rfl⟩
  | z :: zs, h => by
    obtain ⟨h1, h2⟩ := lay_strs zs fun y hy => h y (List.mem_cons_of_mem _ hy)
    constructor
    · show (PyData.strOk z && PyData.canLayAll0 (zs.map PyData.str)) = true
      rw [strOk_name (h z (List.mem_cons_self ..)), h1]; rfl
    · show max 0 (PyData.depthAll (zs.map PyData.str)) = 0
      rw [h2]; rfl
theorem shaped_strs {zs : List Str} (h : ∀ z ∈ zs, NameOk z) : SeqAt.shaped (.list (zs.map PyData.str)) = true := by
  obtain ⟨h1, h2⟩ := lay_strs zs h
  show (PyData.canLayAll0 (zs.map PyData.str) && decide (PyData.depthAll (zs.map PyData.str) + 1 ≤ 64)) = true
  rw [h1, h2]; rfl
theorem name_at {K : PySem.W.Frag} {H : Hp} {x : V} {a : PyData} (h : Dp K H x a) (hn : nameB a = true) : ∃ z, a = .str z ∧ x = .str z ∧ NameOk z := by
  cases h with
  | str z => exact ⟨z, rfl, rfl, nameB_ok hn⟩
  | non => cases hn
  | bl b => cases hn
  | int i => cases hn
  | lst _ _ => cases hn
  | tup _ _ => cases hn
section
variable {P : Program} {w : World} {K : PySem.W.Frag} {mg : Str → Option Value} {base : Heap}
abbrev s_law_is_table : Stmt := topS 29
abbrev N_law_is_table : List Str := ["table", "names", "column"]
theorem sc_law_is_table : FnScope N_law_is_table ["table"] (defScope s_law_is_table) := ⟨rfl, rfl, rfl, by decide +kernel, rfl, by decide +kernel, by decide +kernel⟩

theorem ok_law_is_table {f : Addr} {fd : FuncData} (F : Fun K "_law_is_table" "_law_is_table" s_law_is_table f fd) (nb : NB mg) (D_law_name : Def P w K mg base 1 "_law_name" ["thing"] (spB nameB K)) (D_law_is_worth : Def P w K mg base 2 "_law_is_worth" ["thing"] (spB worthB K)) :
    FnOk P w K mg base CX0 3 f fd ["table"] (spB tabB K) := by
  refine F.ok sc_law_is_table (fun vs H Q E h => spB_len h) (fun cdv A outer sh H vs Q E hr h => ?_)
  obtain ⟨v, d, rfl, hd, hf, q⟩ := h
  have nd := sc_law_is_table.nd
  have q' : ∀ H', Same H H' → ∀ b, b = tabB d → Q (.bl b) H' := fun H' s b e => by rw [e]; exact q H' s
  refine ⟨_, (pss_cons (ps_if (PW.pt (pw_or (pt_not (pt_val (pe_callB call_isi (by rfl) nb.b_isinstance (by decide +kernel) (pa_cons (pv 0) (pa_cons (pe_bltn (v := .ty "tuple") (by rfl) nb.b_tuple (by decide +kernel) rfl) pa_nil))))) (pw_or (pt_cmpR op_ne (pe_callB call_len_seq (by rfl) nb.b_len (by decide +kernel) (pa_cons (pv 0) pa_nil)) pe_int (nomark _)) (pw_or (pt_not (pt_val (pe_own D_law_name hr (pa_cons (pe_ix ix_tup (pv 0) pe_int (fun _ _ => rfl)) pa_nil)))) (pw_or1 (pt_not (pt_val (pe_callB call_isi (by rfl) nb.b_isinstance (by decide +kernel) (pa_cons (pe_ix ix_tup (pv 0) pe_int (fun _ _ => rfl)) (pa_cons (pe_bltn (v := .ty "tuple") (by rfl) nb.b_tuple (by decide +kernel) rfl) pa_nil))))))))))
        (pss_one (ps_ret pe_bl))
        pss_nil)
      (pss_cons (ps_set (i := 1) nd rfl (Or.inl rfl) (pe_lst pa_nil))
      (pss_cons (ps_for PassesOwn.never rfl (pi_tup (pe_ix ix_tup (pv 0) pe_int (fun _ _ => rfl))) (pg_name (i := 2) nd rfl (Or.inl rfl))
        (pss_cons (ps_if (PW.pt (pw_or (pt_not (pt_val (pe_callB call_isi (by rfl) nb.b_isinstance (by decide +kernel) (pa_cons (pv 2) (pa_cons (pe_bltn (v := .ty "tuple") (by rfl) nb.b_tuple (by decide +kernel) rfl) pa_nil))))) (pw_or (pt_cmpR op_ne (pe_callB call_len_seq (by rfl) nb.b_len (by decide +kernel) (pa_cons (pv 2) pa_nil)) pe_int (nomark _)) (pw_or (pt_not (pt_val (pe_own D_law_name hr (pa_cons (pe_ix ix_tup (pv 2) pe_int (fun _ _ => rfl)) pa_nil)))) (pw_or1 (pt_cmpR op_in_seq (pe_ix ix_tup (pv 2) pe_int (fun _ _ => rfl)) (pv 1) (by rfl)))))))
          (pss_one (ps_ret pe_bl))
          pss_nil)
        (pss_cons (ps_if (PW.pt (pw_or (pt_not (pt_val (pe_own D_law_is_worth hr (pa_cons (pe_ix ix_tup (pv 2) pe_int (fun _ _ => rfl)) pa_nil)))) (pw_or1 (PW.pt (pw_and (pt_cmpR (op_eqD hr.units) (pv 1) (pe_lst pa_nil) (nomark _)) (pw_and1 (pt_cmpR op_notN (pe_ix ix_tup (pv 2) pe_int (fun _ _ => rfl)) pe_non (nomark _))))))))
          (pss_one (ps_ret pe_bl))
          pss_nil)
        (pss_one (ps_expr (pe_bm PySem.F.plainAttrs_list PySem.F.slot_list_append PySem.F.type_list_append mt_append (pv 1) (pa_cons (pe_ix ix_tup (pv 2) pe_int (fun _ _ => rfl)) pa_nil)))))))
      (pss_one (ps_ret (pe_chain op_lt op_lt pe_int (pe_callB call_len_seq (by rfl) nb.b_len (by decide +kernel) (pa_cons (pv 1) pa_nil)) pe_int)))))), ?_⟩
  refine ⟨v, rfl, v, .ty "tuple", _, _, _, rfl, .ty "tuple", dp_ty hd, kit_t d, _, rfl, ?_⟩
  cases ht : isTB d with
  | false =>
    refine iteT (iteT (q' H (Same.refl H) _ ?_))
    cases d <;> first | rfl | cases ht
  | true =>
    refine iteF ?_
    obtain ⟨p, xs, es, rfl, rfl, hS, hA⟩ := isT_of hd ht
    have l := dpAll_len hA
    -- len(table) != 2
    refine ⟨.ref p, rfl, p, xs, rfl, .inr hS, rfl, _, rfl, ?_⟩
    cases hl : decide (V.int (xs.length : Int) = V.int 2) with
    | false =>
      refine iteT (iteT (q' H (Same.refl H) _ ?_))
      have h1 := of_decide_eq_false hl
      show false = (tupB 2 2 (.tuple es) && _)
      have e : tupB 2 2 (.tuple es) = false := by
        show (decide ((2 : Int) ≤ (es.length : Int)) && decide ((es.length : Int) ≤ 2)) = false
        cases g1 : decide ((2 : Int) ≤ (es.length : Int)) with
        | false => rfl
        | true =>
          cases g2 : decide ((es.length : Int) ≤ 2) with
          | false => rfl
          | true =>
            have := of_decide_eq_true g1
            have := of_decide_eq_true g2
            exact absurd (congrArg V.int (show (xs.length : Int) = 2 by omega)) h1
      rw [e]; rfl
    | true =>
      refine iteF ?_
      have h1 := V.int.inj (of_decide_eq_true hl)
      obtain ⟨a, b, rfl⟩ := two_of (show es.length = 2 by omega)
      cases hA with
      | cons ha r =>
      cases r with
      | cons hb r =>
      cases r
      rename_i x y
      have eT : tabB (.tuple [a, b]) = (nameB a && colsB b) := rfl
      -- not _law_name(table[0])
      refine ⟨.ref p, rfl, p, _, 0, x, rfl, rfl, hS, rfl, x, a, rfl, ha, hf.2.1, fun H1 s1 => ⟨_, rfl, ?_⟩⟩
      cases hn : nameB a with
      | false =>
        refine iteT (iteT (q' H1 s1 _ ?_))
        rw [eT, hn]; rfl
      | true =>
        refine iteF ?_
        -- not isinstance(table[1], tuple)
        refine ⟨.ref p, rfl, p, _, 1, y, rfl, rfl, sameT s1 hS, rfl, y, .ty "tuple", _, _, _, rfl, .ty "tuple", dp_ty (dp_same s1 hb), kit_t b, _, rfl, ?_⟩
        cases hbt : isTB b with
        | false =>
          refine iteT (q' H1 s1 _ ?_)
          rw [eT, hn]
          cases b <;> first | rfl | cases hbt
        | true =>
          refine iteF ?_
          obtain ⟨pc, ys, ds, rfl, rfl, hSc, hAc⟩ := isT_of hb hbt
          have lc := dpAll_len hAc
          have hfc : Fit (.tuple ds) := hf.2.2.1
          have eT2 : ∀ bb, colsB (.tuple ds) = bb → tabB (.tuple [a, .tuple ds]) = bb := fun bb e => by rw [eT, hn, e]; rfl
          -- names = []
          refine ⟨Nat.zero_le _, fun N nN => ?_⟩
          have s2 : Same H (upd H1 N (.lst [])) := s1.trans (same_upd nN)
          refine ⟨.ref p, rfl, p, _, 1, .ref pc, rfl, rfl, sameT s2 hS, rfl, pc, rfl, ⟨_, sameT s2 hSc⟩, ?_⟩
          refine for_tup (K := K) (a := pc) (xs := ys) (fun i σ H' => (∃ y2, σ = [some (.ref p), some (.ref N), y2]) ∧ H' N = some (.lst ((namesOf (ds.take i)).map V.str)) ∧ Kept [N] H1 H' ∧ Went ds i) ⟨⟨none, rfl⟩, upd_same, Kept.upd_in (List.mem_cons_self ..), went_start ds⟩ (fun i σ H' _ hP => ?_) (fun i v σ H2 hv hP => ?_) (fun σ H2 hP => ?_)
          · exact sameT (s1.trans fun b o e => hP.2.2.1 b o e fun z => by rw [List.mem_singleton.mp z, nN] at e; cases e) hSc
          · obtain ⟨⟨y2, rfl⟩, eN, K2, W⟩ := hP
            have s3 : Same H H2 := s1.trans fun b o e => K2 b o e fun z => by rw [List.mem_singleton.mp z, nN] at e; cases e
            obtain ⟨c, hc, hdc⟩ := dpAll_get i hAc hv
            have fc : Fit c := fit_mem hfc.2 (List.mem_of_getElem? hc)
            have i9 : i < ds.length := (List.getElem?_eq_some_iff.mp hc).1
            have no : ∀ H', Same H2 H' → (colB c = false ∨ strOf (fstD c) ∈ namesOf (ds.take i) ∨ (i = 0 ∧ isN (sndD c) = false)) → Q (.bl false) H' := fun H' s h => q' H' (s3.trans s) _ (eT2 _ (cols_no hc h)).symm
            have dc := dp_same s3 hdc
            refine ⟨v, rfl, v, .ty "tuple", _, _, _, rfl, .ty "tuple", dp_ty dc, kit_t c, _, rfl, ?_⟩
            cases hct : isTB c with
            | false =>
              refine iteT (iteT (no H2 (Same.refl _) (.inl ?_)))
              cases c <;> first | rfl | cases hct
            | true =>
              refine iteF ?_
              obtain ⟨q1, zs, fs, rfl, rfl, hS1, hA1⟩ := isT_of dc hct
              have l1 := dpAll_len hA1
              refine ⟨.ref q1, rfl, q1, zs, rfl, .inr hS1, rfl, _, rfl, ?_⟩
              cases hl1 : decide (V.int (zs.length : Int) = V.int 2) with
              | false =>
                refine iteT (iteT (no H2 (Same.refl _) (.inl ?_)))
                have h1 := of_decide_eq_false hl1
                show (tupB 2 2 (.tuple fs) && _) = false
                have e : tupB 2 2 (.tuple fs) = false := by
                  show (decide ((2 : Int) ≤ (fs.length : Int)) && decide ((fs.length : Int) ≤ 2)) = false
                  cases g1 : decide ((2 : Int) ≤ (fs.length : Int)) with
                  | false => rfl
                  | true =>
                    cases g2 : decide ((fs.length : Int) ≤ 2) with
                    | false => rfl
                    | true =>
                      have := of_decide_eq_true g1
                      have := of_decide_eq_true g2
                      exact absurd (congrArg V.int (show (zs.length : Int) = 2 by omega)) h1
                rw [e]; rfl
              | true =>
                refine iteF ?_
                have h1 := V.int.inj (of_decide_eq_true hl1)
                obtain ⟨a1, b1, rfl⟩ := two_of (show fs.length = 2 by omega)
                cases hA1 with
                | cons ha1 r =>
                cases r with
                | cons hb1 r =>
                cases r
                rename_i x1 y1
                have eC : colB (.tuple [a1, b1]) = (nameB a1 && worthB b1) := rfl
                refine ⟨.ref q1, rfl, q1, _, 0, x1, rfl, rfl, hS1, rfl, x1, a1, rfl, ha1, fc.2.1, fun H3 s4 => ⟨_, rfl, ?_⟩⟩
                cases hn1 : nameB a1 with
                | false =>
                  refine iteT (iteT (no H3 s4 (.inl ?_)))
                  rw [eC, hn1]; rfl
                | true =>
                  refine iteF ?_
                  obtain ⟨z, rfl, rfl, okz⟩ := name_at ha1 hn1
                  -- column[0] in names
                  refine ⟨.ref q1, rfl, q1, _, 0, .str z, rfl, rfl, sameT s4 hS1, rfl, .ref N, rfl, N, _, rfl, .inl (.inl (.inl (s4 _ _ eN))), rfl, flat_strs _, _, rfl, ?_⟩
                  rw [if_neg (by decide : ¬ (false = true)), inV_strs]
                  cases hin : decide (z ∈ namesOf (ds.take i)) with
                  | true => exact iteT (no H3 s4 (.inr (.inl (of_decide_eq_true hin))))
                  | false =>
                    refine iteF ?_
                    have hnot := of_decide_eq_false hin
                    -- not _law_is_worth(column[1])
                    refine ⟨.ref q1, rfl, q1, _, 1, y1, rfl, rfl, sameT s4 hS1, rfl, y1, b1, rfl, dp_same s4 hb1, fc.2.2.1, fun H4 s5 => ⟨_, rfl, ?_⟩⟩
                    have s45 := s4.trans s5
                    cases hw : worthB b1 with
                    | false =>
                      refine iteT (iteT (no H4 s45 (.inl ?_)))
                      rw [eC, hn1, hw]; rfl
                    | true =>
                      refine iteF ?_
                      -- names == [] and column[1] is not None
                      have eN4 : H4 N = some (.lst ((namesOf (ds.take i)).map V.str)) := s45 _ _ eN
                      refine ⟨.ref N, rfl, Nat.zero_le _, fun E1 nE => ?_⟩
                      have s6 := same_upd (o := .lst []) nE
                      have okn : ∀ y ∈ namesOf (ds.take i), NameOk y := by
                        intro y hy
                        unfold namesOf at hy
                        obtain ⟨d2, hd2, rfl⟩ := List.mem_map.mp hy
                        obtain ⟨j, hj⟩ := List.getElem?_of_mem hd2
                        rw [List.getElem?_take] at hj
                        split at hj
                        · rename_i hji
                          have h5 := W.col j d2 hji hj
                          unfold colB at h5
                          rw [Bool.and_eq_true, Bool.and_eq_true] at h5
                          have h6 := h5.2.1
                          cases e : fstD d2 <;> rw [e] at h6 <;> first | exact nameB_ok h6 | cases h6
                        · cases hj
                      refine ⟨.list ((namesOf (ds.take i)).map PyData.str), .list [], .lst (.inl (.inl (s6 _ _ eN4))) (dp_strs _), .lst (.inl (.inl upd_same)) .nil, shaped_strs okn, rfl, _, rfl, ?_⟩
                      rw [eqv_nil]
                      have ie : ((namesOf (ds.take i)).map PyData.str).isEmpty = decide (i = 0) := by
                        unfold namesOf
                        cases i with
                        | zero => rfl
                        | succ i =>
                          cases ds with
                          | nil => simp at i9
                          | cons a r => rfl
                      rw [ie]
                      have s46 := s45.trans s6
                      have eNs : (upd H4 E1 (.lst [])) N = some (.lst ((namesOf (ds.take i)).map V.str)) := s6 _ _ eN4
                      have last : (i = 0 → isN b1 = true) → Went ds (i + 1) := fun hk => W.next hc (by rw [eC, hn1, hw]; rfl) hnot hk
                      have lsz : ((namesOf (ds.take i)).map V.str).length < sizeLine := by
                        unfold namesOf
                        rw [List.length_map, List.length_map, List.length_take]
                        have := hfc.1
                        exact small1000 (by omega)
                      cases h0 : decide (i = 0) with
                      | true =>
                        refine iteT ?_
                        refine ⟨.ref q1, rfl, q1, _, 1, y1, rfl, rfl, sameT s46 hS1, rfl, rfl, _, rfl, ?_⟩
                        have eY : decide (y1 = V.non) = isN b1 := by cases hb1 <;> rfl
                        rw [eY]
                        cases hN : isN b1 with
                        | false => exact iteT (no _ s46 (.inr (.inr ⟨of_decide_eq_true h0, hN⟩)))
                        | true =>
                          refine iteF ?_
                          refine ⟨.ref N, rfl, .inl ⟨rfl, _, .inl (.inl eNs)⟩, .ref q1, rfl, q1, _, 0, .str z, rfl, rfl, sameT s46 hS1, rfl, N, _, _, rfl, rfl, eNs, lsz, ⟨_, rfl⟩, ?_, ?_, last fun _ => hN⟩
                          · rw [upd_same, namesOf_succ hc, List.map_append]; rfl
                          · exact (K2.trans (Kept.of_same s46)).trans (Kept.upd_in (List.mem_cons_self ..))
                      | false =>
                        refine iteF (iteF ?_)
                        refine ⟨.ref N, rfl, .inl ⟨rfl, _, .inl (.inl eNs)⟩, .ref q1, rfl, q1, _, 0, .str z, rfl, rfl, sameT s46 hS1, rfl, N, _, _, rfl, rfl, eNs, lsz, ⟨_, rfl⟩, ?_, ?_, last fun z => absurd z (of_decide_eq_false h0)⟩
                        · rw [upd_same, namesOf_succ hc, List.map_append]; rfl
                        · exact (K2.trans (Kept.of_same s46)).trans (Kept.upd_in (List.mem_cons_self ..))
          · obtain ⟨⟨y2, rfl⟩, eN, K2, W⟩ := hP
            have s3 : Same H H2 := s1.trans fun b o e => K2 b o e fun z => by rw [List.mem_singleton.mp z, nN] at e; cases e
            rw [lc] at W eN
            rw [List.take_length] at eN
            have e1 := W.end'
            have ln : ((namesOf ds).map V.str).length = ds.length := by unfold namesOf; rw [List.length_map, List.length_map]
            refine ⟨.ref N, rfl, N, _, rfl, .inl (.inl (.inl eN)), _, _, rfl, rfl, _, rfl, ?_⟩
            rw [ln]
            refine ite2 (fun g1 => ?_) (fun g1 => ?_)
            · have g1 : (0 : Int) < ds.length := of_decide_eq_true g1
              refine ⟨_, _, rfl, rfl, q' H2 s3 _ (Eq.trans ?_ (eT2 _ e1).symm)⟩
              rw [decide_eq_true (show 1 ≤ ds.length by omega), Bool.true_and]
              exact decide_eq_decide.mpr (by omega)
            · have g1 : ¬ (0 : Int) < ds.length := fun z => g1 (decide_eq_true z)
              refine q' H2 s3 _ (Eq.trans ?_ (eT2 _ e1).symm)
              rw [decide_eq_false (show ¬ 1 ≤ ds.length by omega)]; rfl
end
end TT

set_option Elab.async false
set_option linter.all false
set_option maxRecDepth 100000
namespace TT
open PySem PySem.Spec PyProof.Rows L2
/-- what may be shown whole -/
structure Shows (d : PyData) : Prop where
  sh : d.showable = true
  nd : d.hasDict = false
  dp : d.depth ≤ 60
  sz : d.shown.length ≤ sizeLine
section
variable {P : Program} {w : World} {K : PySem.W.Frag} {mg : Str → Option Value} {base : Heap}
abbrev s_law_due : Stmt := topS 30
abbrev N_law_due : List Str := ["thing", "table"]
theorem sc_law_due : FnScope N_law_due ["thing"] (defScope s_law_due) := ⟨rfl, rfl, rfl, by decide +kernel, rfl, by decide +kernel, by decide +kernel⟩

theorem ok_law_due {f : Addr} {fd : FuncData} (F : Fun K "_law_due" "_law_due" s_law_due f fd) (nb : NB mg) (D_law_is_table : Def P w K mg base 3 "_law_is_table" ["table"] (spB tabB K)) : FnOk P w K mg base CX0 4 f fd ["thing"] (spB tabsB K) := by
  refine F.ok sc_law_due (fun vs H Q E h => spB_len h) (fun cdv A outer sh H vs Q E hr h => ?_)
  obtain ⟨v, d, rfl, hd, hf, q⟩ := h
  have nd := sc_law_due.nd
  have q' : ∀ H', Same H H' → ∀ b, b = tabsB d → Q (.bl b) H' := fun H' s b e => by rw [e]; exact q H' s
  refine ⟨_, (pss_cons (ps_if (PW.pt (pw_or (pt_not (pt_val (pe_callB call_isi (by rfl) nb.b_isinstance (by decide +kernel) (pa_cons (pv 0) (pa_cons (pe_bltn (v := .ty "tuple") (by rfl) nb.b_tuple (by decide +kernel) rfl) pa_nil))))) (pw_or (pt_not (pt_chain op_lt op_lt pe_int (pe_callB call_len_seq (by rfl) nb.b_len (by decide +kernel) (pa_cons (pv 0) pa_nil)) pe_int)) (pw_or1 (pt_not (pt_val (pe_callB (cr_all rfl) (by rfl) nb.b_all (by decide +kernel) (pa_cons (pe_lc (own := [("table", 1)]) (g := (gName 1)) (tt := tYes) rfl nd (pi_tup (pv 0)) (blkOk_by (N := N_law_due) (sc := defScope s_law_due) (by decide +kernel)) (fun _ _ _ _ _ => (pg_name (i := 1) nd rfl (Or.inl rfl))) (fun _ _ _ _ _ => pts_nil) (fun _ _ _ _ _ => (pe_own D_law_is_table hr (pa_cons (pv 1) pa_nil)))) pa_nil))))))))
        (pss_one (ps_ret pe_bl))
        pss_nil)
      (pss_one (ps_ret (pe_cmpR op_eq (pe_lenUnlike nb.b_len nb.b_set (pe_lc (own := [("table", 1)]) (g := (gName 1)) (tt := tYes) rfl nd (pi_tup (pv 0)) (blkOk_by (N := N_law_due) (sc := defScope s_law_due) (by decide +kernel)) (fun _ _ _ _ _ => (pg_name (i := 1) nd rfl (Or.inl rfl))) (fun _ _ _ _ _ => pts_nil) (fun _ _ _ _ _ => (pe_ix (r := rIxT K) ix_tup (pv 1) pe_int (fun _ _ => rfl))))) (pe_callB call_len_seq (by rfl) nb.b_len (by decide +kernel) (pa_cons (pv 0) pa_nil)) (nomark _))))), ?_⟩
  refine ⟨v, rfl, v, .ty "tuple", _, _, _, rfl, .ty "tuple", dp_ty hd, kit_t d, _, rfl, ?_⟩
  cases ht : isTB d with
  | false =>
    refine iteT (iteT (q' H (Same.refl H) _ ?_))
    cases d <;> first | rfl | cases ht
  | true =>
    refine iteF ?_
    obtain ⟨p, xs, ds, rfl, rfl, hS, hA⟩ := isT_of hd ht
    have l := dpAll_len hA
    have l9 := hf.1
    -- not 0 < len(thing) < 7
    refine ⟨.ref p, rfl, p, xs, rfl, .inr hS, _, _, rfl, rfl, _, rfl, ?_⟩
    cases g1 : decide ((0 : Int) < (xs.length : Int)) with
    | false =>
      refine iteF ⟨_, rfl, iteT (iteT (q' H (Same.refl H) _ ?_))⟩
      have := of_decide_eq_false g1
      rw [tabsB_eq, decide_eq_false (show ¬ 1 ≤ ds.length by omega)]; rfl
    | true =>
      have g1 := of_decide_eq_true g1
      refine iteT ⟨_, _, rfl, rfl, _, rfl, ?_⟩
      cases g2 : decide ((xs.length : Int) < 7) with
      | false =>
        refine iteT (iteT (q' H (Same.refl H) _ ?_))
        have := of_decide_eq_false g2
        rw [tabsB_eq, decide_eq_false (show ¬ ds.length ≤ 6 by omega), Bool.and_false]; rfl
      | true =>
        refine iteF ?_
        have g2 := of_decide_eq_true g2
        have eC : tabsB (.tuple ds) = (ds.all tabB && decide (namesOf ds).Nodup) := by
          rw [tabsB_eq, decide_eq_true (show 1 ≤ ds.length by omega), decide_eq_true (show ds.length ≤ 6 by omega)]; rfl
        refine ⟨.ref p, rfl, p, rfl, ⟨_, hS⟩, fun D nD => ?_⟩
        refine lc_it walk_tup (PvM H D fun i => .bl (tabB (ds.getD i .none))) (pvm_start ..) (fun i H2 _ hP => sameT (pvm_same hP nD) hS) (fun i x H2 H3 hi hP hY => ?_) (fun H2 hP => ?_)
        · obtain ⟨rfl, hx⟩ := hY
          obtain ⟨d1, h1, h2⟩ := dpAll_get i hA hx
          refine ⟨rfl, ?_⟩
          unfold tYes
          dsimp only
          refine iteT ?_
          refine ⟨x, rfl, x, d1, rfl, dp_same (pvm_same hP nD) h2, fit_mem hf.2 (List.mem_of_getElem? h1), fun H4 s4 => pvm_step hP s4 ?_ (by omega)⟩
          show V.bl (tabB d1) = .bl (tabB (ds.getD i .none))
          rw [getD_of h1]
        · have sm2 : Same H H2 := pvm_same hP nD
          refine ⟨D, (List.range xs.length).map fun i => tabB (ds.getD i .none), rfl, .inl (.inl ?_), _, rfl, ?_⟩
          · rw [hP.1, List.map_map]; rfl
          rw [l, range_all]
          cases hc : ds.all tabB with
          | false =>
            refine iteT (q' H2 sm2 _ ?_)
            rw [eC, hc]; rfl
          | true =>
            refine iteF ?_
            have hn := all_imp hc fun d h => tabB_name h
            -- len(set([table[0] for table in thing])) == len(thing)
            refine ⟨.ref p, rfl, p, rfl, ⟨_, sameT sm2 hS⟩, fun D2 nD2 => ?_⟩
            refine lc_it walk_tup (PvM H2 D2 fun i => .str (strOf (fstD (ds.getD i .none)))) (pvm_start ..) (fun i H4 _ hP4 => sameT (pvm_same hP4 nD2) (sameT sm2 hS)) (fun i x H4 H5 hi hP4 hY => ?_) (fun H4 hP4 => ?_)
            · obtain ⟨rfl, hx⟩ := hY
              have sm4 := sm2.trans (pvm_same hP4 nD2)
              obtain ⟨d2, h1, h2⟩ := dpAll_get i hA hx
              have hd2 := List.all_eq_true.mp hn d2 (List.mem_of_getElem? h1)
              unfold strName at hd2
              rw [Bool.and_eq_true] at hd2
              obtain ⟨pt, x3, y3, a3, b3, rfl, rfl, hT3, ha3, hb3⟩ := tup2 h2 hd2.1
              obtain ⟨z, rfl, rfl⟩ : ∃ z, a3 = .str z ∧ x3 = .str z := by
                have h3 : isSB a3 = true := hd2.2
                cases ha3 <;> first | exact ⟨_, rfl, rfl⟩ | cases h3
              refine ⟨rfl, ?_⟩
              unfold tYes
              dsimp only
              refine iteT ?_
              refine ⟨.ref pt, rfl, pt, _, 0, .str z, rfl, rfl, sameT sm4 hT3, rfl, pvm_step hP4 (Same.refl _) ?_ (by omega)⟩
              show V.str z = .str (strOf (fstD (ds.getD i .none)))
              rw [getD_of h1]
              rfl
            · have sm4 := sm2.trans (pvm_same hP4 nD2)
              have ln : (namesOf ds).length = ds.length := by unfold namesOf; rw [List.length_map]
              refine ⟨D2, namesOf ds, rfl, .inl (.inl ?_), by omega, .ref p, rfl, p, xs, rfl, .inr (sameT sm4 hS), rfl, q' H4 sm4 _ ?_⟩
              · rw [hP4.1, l]
                unfold namesOf
                rw [List.map_map]
                have e := range_map (fun d => V.str (strOf (fstD d))) .none ds
                rw [e]
                rfl
              · rw [eC, hc]
                show decide (V.int ((unlike (namesOf ds)).length : Int) = V.int (xs.length : Int)) = (true && _)
                rw [Bool.true_and, ← unlike_nodup, l, ln]
                exact decide_eq_decide.mpr ⟨fun z => V.int.inj z, fun z => by rw [z]⟩
def spTold (K : PySem.W.Frag) : Sp := fun vs H Q _ => ∃ (v : V) (d : PyData), vs = [v] ∧ Dp K H v d ∧ Fit d ∧ Shows d ∧ ∀ H', Same H H' → Q (.bl true) H'
abbrev s_law_told_right : Stmt := topS 31
abbrev N_law_told_right : List Str := ["thing", "text", "found"]
theorem sc_law_told_right : FnScope N_law_told_right ["thing"] (defScope s_law_told_right) := ⟨rfl, rfl, rfl, by decide +kernel, rfl, by decide +kernel, by decide +kernel⟩

theorem ok_law_told_right {f : Addr} {fd : FuncData} (F : Fun K "_law_told_right" "_law_told_right" s_law_told_right f fd) (nb : NB mg) (D_is_tables : Def P w K mg base 7 "is_tables" ["thing"] (spB tabsB K))
    (D_law_due : Def P w K mg base 4 "_law_due" ["thing"] (spB tabsB K)) : FnG P w K mg base CX0 8 f fd ["thing"] (spTold K) := by
  refine okG F sc_law_told_right (fun vs H Q E h => ?_) (fun cdv A outer sh H vs Q E hr hg h => ?_)
  · obtain ⟨v, d, rfl, _⟩ := h
    rfl
  obtain ⟨v, d, rfl, hd, hf, hs, q⟩ := h
  have nd := sc_law_told_right.nd
  refine ⟨_, (pss_cons (ps_par (i := 1) (j := 2) (by rfl) nd rfl rfl (by decide) rfl rfl (pa_cons (pe_callB (call_repr_d hg hr) (by rfl) nb.b_repr (by decide +kernel) (pa_cons (pv 0) pa_nil)) (pa_cons (pe_own D_is_tables hr (pa_cons (pv 0) pa_nil)) pa_nil)) (by rfl))
      (pss_one (ps_ret (pe_and (pe_callB call_isi (by rfl) nb.b_isinstance (by decide +kernel) (pa_cons (pv 2) (pa_cons (pe_bltn (v := .ty "bool") (by rfl) nb.b_bool (by decide +kernel) rfl) pa_nil))) (pe_and (pe_cmpR op_eq (pv 2) (pe_own D_law_due hr (pa_cons (pv 0) pa_nil)) (nomark _)) (pe_one (pe_cmpR op_eq (pe_callB (call_repr_d hg hr) (by rfl) nb.b_repr (by decide +kernel) (pa_cons (pv 0) pa_nil)) (pv 1) (nomark _)))))))), ?_⟩
  refine ⟨v, rfl, v, d, rfl, hd, hs.sh, hs.nd, hs.dp, hs.sz, v, rfl, v, d, rfl, hd, hf, fun H1 s1 => ⟨_, _, rfl, ?_⟩⟩
  refine ⟨_, rfl, .bl (tabsB d), .ty "bool", _, _, _, rfl, .ty "bool", dp_ty (.bl (tabsB d)), kit_b (.bool (tabsB d)), _, rfl, iteT ?_⟩
  refine ⟨_, rfl, v, rfl, v, d, rfl, dp_same s1 hd, hf, fun H2 s2 => ⟨rfl, _, rfl, ?_⟩⟩
  rw [decide_eq_true rfl]
  refine iteT ?_
  refine ⟨v, rfl, v, d, rfl, dp_same s2 (dp_same s1 hd), hs.sh, hs.nd, hs.dp, hs.sz, _, rfl, rfl, ?_⟩
  rw [decide_eq_true rfl]
  exact q H2 (s1.trans s2)
end
end TT

set_option Elab.async false
set_option linter.all false
set_option maxRecDepth 100000
namespace TT
open PySem PySem.Spec PyProof.Rows L2
/-! ### sizes of data: bounds of its ints, of its lists' lengths, of all its signs -/
mutual
def Nice (B L : Nat) : PyData → Prop
  | .none | .bool _ => True
  | .int i => i.natAbs ≤ B
  | .str z => ∀ c ∈ cl z, c < 128
  | .list ds | .tuple ds => ds.length ≤ L ∧ NiceAll B L ds
  | .dict _ => False
def NiceAll (B L : Nat) : List PyData → Prop
  | [] => True
  | d :: ds => Nice B L d ∧ NiceAll B L ds
end
mutual
def wt : PyData → Nat
  | .none => 4
  | .bool _ => 5
  | .int _ => 25
  | .str z => 10 * z.length + 12
  | .list ds | .tuple ds => 6 + wtAll ds
  | .dict _ => 0
def wtAll : List PyData → Nat
  | [] => 0
  | d :: ds => wt d + 3 + wtAll ds
end
theorem niceAll_iff {B L : Nat} : ∀ {ds : List PyData}, NiceAll B L ds ↔ ∀ d ∈ ds, Nice B L d
  | [] => ⟨fun _ _ h => absurd h List.not_mem_nil, fun _ => trivial⟩
  | d :: ds => by
    constructor
    · intro h e he
      rcases List.mem_cons.mp he with rfl | he
      · exact h.1
      · exact niceAll_iff.mp h.2 e he
    · intro h
      exact ⟨h d (List.mem_cons_self ..), niceAll_iff.mpr fun e he => h e (List.mem_cons_of_mem _ he)⟩
mutual
theorem Nice.mono {B B' L L' : Nat} (hB : B ≤ B') (hL : L ≤ L') : ∀ {d : PyData}, Nice B L d → Nice B' L' d
  | .none, _ => trivial
  | .bool _, _ => trivial
  | .int i, h => Nat.le_trans (show i.natAbs ≤ B from h) hB
  | .str _, h => h
  | .list ds, h => ⟨Nat.le_trans h.1 hL, NiceAll.mono hB hL h.2⟩
  | .tuple ds, h => ⟨Nat.le_trans h.1 hL, NiceAll.mono hB hL h.2⟩
  | .dict _, h => h
theorem NiceAll.mono {B B' L L' : Nat} (hB : B ≤ B') (hL : L ≤ L') : ∀ {ds : List PyData}, NiceAll B L ds → NiceAll B' L' ds
  | [], _ => trivial
  | d :: ds, h => ⟨Nice.mono hB hL h.1, NiceAll.mono hB hL h.2⟩
end
theorem wtAll_app : ∀ (ds es : List PyData), wtAll (ds ++ es) = wtAll ds + wtAll es
  | [], es => by simp [wtAll]
  | d :: ds, es => by
    show wt d + 3 + wtAll (ds ++ es) = wt d + 3 + wtAll ds + wtAll es
    rw [wtAll_app ds es]; omega
theorem wtAll_len : ∀ ds : List PyData, ds.length ≤ wtAll ds
  | [] => Nat.zero_le _
  | d :: ds => by
    have := wtAll_len ds
    show ds.length + 1 ≤ wt d + 3 + wtAll ds
    omega
theorem wt_mem : ∀ {ds : List PyData} {d : PyData}, d ∈ ds → wt d + 3 ≤ wtAll ds
  | e :: ds, d, h => by
    show wt d + 3 ≤ wt e + 3 + wtAll ds
    rcases List.mem_cons.mp h with rfl | h
    · omega
    · have := wt_mem h; omega
theorem depth_mem : ∀ {ds : List PyData} {d : PyData}, d ∈ ds → d.depth ≤ PyData.depthAll ds
  | e :: ds, d, h => by
    show d.depth ≤ max e.depth (PyData.depthAll ds)
    rcases List.mem_cons.mp h with rfl | h
    · exact Nat.le_max_left _ _
    · exact Nat.le_trans (depth_mem h) (Nat.le_max_right _ _)
theorem depthAll_le {n : Nat} : ∀ {ds : List PyData}, (∀ d ∈ ds, d.depth ≤ n) → PyData.depthAll ds ≤ n
  | [], _ => Nat.zero_le _
  | d :: ds, h => Nat.max_le.mpr ⟨h d (List.mem_cons_self ..), depthAll_le fun e he => h e (List.mem_cons_of_mem _ he)⟩
mutual
theorem fit_nice {B L : Nat} (hL : L ≤ 900) : ∀ {d : PyData}, Nice B L d → wt d ≤ 100000 → Fit d
  | .none, _, _ => trivial
  | .bool _, _, _ => trivial
  | .int _, _, _ => trivial
  | .str z, _, h => by
    show z.length ≤ 10000
    have h' : 10 * z.length + 12 ≤ 100000 := h
    omega
  | .list ds, h, hw => ⟨Nat.le_trans h.1 hL, fitAll_nice hL h.2 (by have : 6 + wtAll ds ≤ 100000 := hw; omega)⟩
  | .tuple ds, h, hw => ⟨Nat.le_trans h.1 hL, fitAll_nice hL h.2 (by have : 6 + wtAll ds ≤ 100000 := hw; omega)⟩
  | .dict _, h, _ => h.elim
theorem fitAll_nice {B L : Nat} (hL : L ≤ 900) : ∀ {ds : List PyData}, NiceAll B L ds → wtAll ds ≤ 100000 → FitAll ds
  | [], _, _ => trivial
  | d :: ds, h, hw => by
    have hw' : wt d + 3 + wtAll ds ≤ 100000 := hw
    exact ⟨fit_nice hL h.1 (by omega), fitAll_nice hL h.2 (by omega)⟩
end
theorem int_len {i : Int} (h : i.natAbs ≤ 10 ^ 20) : (Str.ofString (toString i)).length ≤ 22 := by
  by_cases h0 : 0 ≤ i
  · exact Nat.le_trans (toString_length_le (v := i) (k := 21) h0 (by decide) (by omega)) (by decide)
  · have g := len_text_negI (n := i) (by omega)
    have g2 := toString_length_le (v := 0 - i) (k := 21) (by omega) (by decide) (by omega)
    omega
theorem list_len (ts : List Str) : (listText ts).length ≤ piled ts + 4 := by
  unfold listText
  rw [str_len_app]
  cases ts with
  | nil => decide +kernel
  | cons t r =>
    have e : (textFrom 0 "[" (t :: r)).length ≤ piled (t :: r) + 3 := by
      show (textFrom 1 (_ ++ t) r).length ≤ _
      rw [textFrom_length_pos _ _ _ (by decide), str_len_app, piled_cons]
      have : (Str.ofString "[" ++ Str.ofString (if 0 > 0 then ", " else "")).length = 1 := by decide +kernel
      omega
    have : (Str.ofString "]").length = 1 := by decide +kernel
    omega
theorem tup_len (ts : List Str) : (tupleText ts).length ≤ piled ts + 4 := by
  have e1 : (Str.ofString "(").length = 1 := by decide +kernel
  have e3 : (Str.ofString (if ts.length == 1 then ",)" else ")" : String)).length ≤ 2 := by split <;> decide +kernel
  unfold tupleText
  rw [str_len_app, str_len_app]
  by_cases h : ts = []
  · subst h
    decide +kernel
  · have := join_length_add ts h
    omega
mutual
theorem shown_len {B L : Nat} (hB : B ≤ 10 ^ 20) : ∀ {d : PyData}, Nice B L d → d.shown.length ≤ wt d
  | .none, _ => by decide +kernel
  | .bool b, _ => by cases b <;> decide +kernel
  | .int i, h => Nat.le_trans (int_len (Nat.le_trans (show i.natAbs ≤ B from h) hB)) (by show 22 ≤ 25; decide)
  | .str z, h => by
    show (reprText z).length ≤ 10 * z.length + 12
    have := StrLaws.reprText_len z fun c hc => Nat.lt_of_lt_of_le (h c hc) (by decide)
    omega
  | .list ds, h => by
    show (listText (PyData.shownAll ds)).length ≤ 6 + wtAll ds
    have g1 := list_len (PyData.shownAll ds)
    have g2 := shownAll_len hB h.2
    omega
  | .tuple ds, h => by
    show (tupleText (PyData.shownAll ds)).length ≤ 6 + wtAll ds
    have g1 := tup_len (PyData.shownAll ds)
    have g2 := shownAll_len hB h.2
    omega
  | .dict _, h => h.elim
theorem shownAll_len {B L : Nat} (hB : B ≤ 10 ^ 20) : ∀ {ds : List PyData}, NiceAll B L ds → piled (PyData.shownAll ds) ≤ wtAll ds
  | [], _ => Nat.le_refl _
  | d :: ds, h => by
    show piled (d.shown :: PyData.shownAll ds) ≤ wt d + 3 + wtAll ds
    rw [piled_cons]
    have g1 := shown_len hB h.1
    have g2 := shownAll_len hB h.2
    omega
end
mutual
theorem showable_nice {B L : Nat} (hB : B ≤ 10 ^ 20) : ∀ {d : PyData}, Nice B L d → d.showable = true ∧ d.hasDict = false
  | .none, _ => ⟨rfl, rfl⟩
  | .bool _, _ => ⟨rfl, rfl⟩
  | .int i, h => ⟨decide_eq_true (Nat.lt_of_lt_of_le (PySem.Flt.log2_lt_of (k := 70) (by decide) (Nat.lt_of_le_of_lt (Nat.le_trans (show i.natAbs ≤ B from h) hB) (by decide))) (by decide)), rfl⟩
  | .str _, _ => ⟨rfl, rfl⟩
  | .list ds, h => showableAll_nice hB h.2
  | .tuple ds, h => showableAll_nice hB h.2
  | .dict _, h => h.elim
theorem showableAll_nice {B L : Nat} (hB : B ≤ 10 ^ 20) : ∀ {ds : List PyData}, NiceAll B L ds → PyData.showableAll ds = true ∧ PyData.hasDictAll ds = false
  | [], _ => ⟨rfl, rfl⟩
  | d :: ds, h => by
    obtain ⟨a1, a2⟩ := showable_nice hB h.1
    obtain ⟨b1, b2⟩ := showableAll_nice hB h.2
    constructor
    · show (d.showable && PyData.showableAll ds) = true
      rw [a1, b1]; rfl
    · show (d.hasDict || PyData.hasDictAll ds) = false
      rw [a2, b2]; rfl
end
theorem shows_nice {B L : Nat} {d : PyData} (h : Nice B L d) (hB : B ≤ 10 ^ 20) (hd : d.depth ≤ 60) (hw : wt d ≤ 100000) : Shows d :=
  ⟨(showable_nice hB h).1, (showable_nice hB h).2, hd, Nat.le_trans (shown_len hB h) (Nat.le_trans hw (by decide))⟩
/-! ### numbers that may be truths -/
inductive NumV : V → Int → Prop
  | int (i : Int) : NumV (.int i) i
  | bl (b : Bool) : NumV (.bl b) (if b = true then 1 else 0)
section
variable {X : Cx}
theorem op_addN : OpR X (binaryOp .Add) (fun x y H Q => ∃ i j, NumV x i ∧ y = .int j ∧ Q (.int (i + j)) H) := by
  intro pins s σ H x y v u Q I rx ry h
  obtain ⟨i, j, n, rfl, q⟩ := h
  obtain ⟨t, rfl⟩ := ry
  cases n with
  | int i => exact op_add pins s σ H (.int i) (.int j) v _ Q I rx ⟨t, rfl⟩ ⟨i, j, rfl, rfl, q⟩
  | bl b => cases rx; exact IntBool.add_bool_int ⟨.int _, H, I.tok _, ⟨_, rfl⟩, q⟩
theorem op_subN : OpR X (binaryOp .Sub) (fun x y H Q => ∃ i j, NumV x i ∧ y = .int j ∧ Q (.int (i - j)) H) := by
  intro pins s σ H x y v u Q I rx ry h
  obtain ⟨i, j, n, rfl, q⟩ := h
  obtain ⟨t, rfl⟩ := ry
  cases n with
  | int i => exact op_sub pins s σ H (.int i) (.int j) v _ Q I rx ⟨t, rfl⟩ ⟨i, j, rfl, rfl, q⟩
  | bl b => cases rx; exact IntBool.sub_bool_int ⟨.int _, H, I.tok _, ⟨_, rfl⟩, q⟩
theorem op_subIN : OpR X (binaryOp .Sub) (fun x y H Q => ∃ i j, x = .int i ∧ NumV y j ∧ Q (.int (i - j)) H) := by
  intro pins s σ H x y v u Q I rx ry h
  obtain ⟨i, j, rfl, n, q⟩ := h
  obtain ⟨t, rfl⟩ := rx
  cases n with
  | int j => exact op_sub pins s σ H (.int i) (.int j) _ u Q I ⟨t, rfl⟩ ry ⟨i, j, rfl, rfl, q⟩
  | bl b => cases ry; exact IntBool.sub_int_bool ⟨.int _, H, I.tok _, ⟨_, rfl⟩, q⟩
/-- str of such -/
def numText : V → Str
  | .int i => Str.ofString (toString i)
  | .bl b => if b = true then Str.ofString "True" else Str.ofString "False"
  | _ => Str.empty
theorem call_str_num : CallR X (.type "str") (fun xs H Q => ∃ x i, xs = [x] ∧ NumV x i ∧ i.natAbs.log2 < 1920 ∧ Q (.str (numText x)) H) := by
  intro pins s σ H xs us Q I r h
  obtain ⟨x, i, rfl, n, hi, q⟩ := h
  cases n with
  | int i => exact call_str_int pins s σ H _ us Q I r ⟨i, rfl, hi, q⟩
  | bl b =>
    obtain ⟨u, rfl, rx⟩ := vals1 r
    cases rx
    exact P.str_of_bool ⟨.str _, H, I.tok _, ⟨_, rfl⟩, q⟩
end
end TT

set_option Elab.async false
set_option linter.all false
set_option maxRecDepth 100000
namespace TT
open PySem PySem.Spec PyProof.Rows L2
/-! ### what may be put in another's place -/
structure Good (B W : Nat) (e : PyData) : Prop where
  nice : Nice B 1 e
  wt : wt e ≤ W
  dep : e.depth ≤ 1
theorem msk_at {M : List Addr} {H : Hp} {p : Addr} {o : HO} (h : H p = some o) (n : p ∉ M) : msk M H p = some o := by
  unfold msk
  rw [if_neg n]
  exact h
/-- a mask over the state of the draws and more, all of it there -/
structure Mask (M : List Addr) (H : Hp) (s c : Addr) : Prop where
  sc : ∀ p ∈ [s, c], p ∈ M
  tr : ∀ p ∈ M, H p ≠ none
theorem Mask.new {M : List Addr} {H : Hp} {s c p : Addr} (h : Mask M H s c) (n : H p = none) : p ∉ M := fun z => h.tr p z n
theorem Mask.up {M : List Addr} {H : Hp} {s c p : Addr} {o : HO} (h : Mask M H s c) : Mask M (upd H p o) s c := ⟨h.sc, fun b hb => by
  unfold upd
  split
  · exact fun z => nomatch z
  · exact h.tr b hb⟩
theorem Mask.kept {M : List Addr} {H H' : Hp} {s c : Addr} {T : Nat} (h : Mask M H s c) (k : Kept [s, c] H H') (S : StAt H' s c T) : Mask M H' s c := ⟨h.sc, fun b hb z => by
  by_cases hm : b ∈ [s, c]
  · simp only [List.mem_cons, List.not_mem_nil, or_false] at hm
    rcases hm with rfl | rfl
    · obtain ⟨t, _, e⟩ := S.ex
      rw [z] at e; cases e
    · obtain ⟨ns, _, _, e⟩ := S.cs
      rw [z] at e; cases e
  · cases e : H b with
    | none => exact h.tr b hb e
    | some o =>
      have := k b o e hm
      rw [z] at this; cases this⟩
theorem Mask.same {M : List Addr} {H H' : Hp} {s c : Addr} (h : Mask M H s c) (k : Kept [s, c] H H') : Same (msk M H) (msk M H') := msk_same (k.mono h.sc)
/-- a list of such, at an address of its own -/
structure Bag (K : PySem.W.Frag) (M : List Addr) (s c : Addr) (T B W : Nat) (H0 H : Hp) (L : Addr) (vs : List V) (ds : List PyData) : Prop where
  at' : H L = some (.lst vs)
  dp : DpAll K (msk M H) vs ds
  good : ∀ e ∈ ds, Good B W e
  kept : Kept [s, c] H0 H
  st : StAt H s c T
  out : L ∉ M
  mask : Mask M H s c
section
variable {K : PySem.W.Frag} {M : List Addr} {s c L L' p : Addr} {T B W : Nat} {H0 H : Hp} {vs us : List V} {ds es : List PyData} {o : HO}
theorem Bag.up (b : Bag K M s c T B W H0 H L vs ds) (n : H p = none) : Bag K M s c T B W H0 (upd H p o) L vs ds :=
  ⟨by rw [upd_ne (ne_of_none b.at' n)]; exact b.at', dpAll_same (msk_same (Kept.upd_new n)) b.dp, b.good, b.kept.trans (Kept.upd_new n), b.st.upd_new n, b.out, b.mask.up⟩
theorem Bag.mk' (dp : DpAll K (msk M H) vs ds) (good : ∀ e ∈ ds, Good B W e) (kept : Kept [s, c] H0 H) (S : StAt H s c T) (hM : Mask M H s c) (n : H L = none) : Bag K M s c T B W H0 (upd H L (.lst vs)) L vs ds :=
  ⟨upd_same, dpAll_same (msk_same (Kept.upd_new n)) dp, good, kept.trans (Kept.upd_new n), S.upd_new n, hM.new n, hM.up⟩
theorem Bag.cat (a : Bag K M s c T B W H0 H L vs ds) (b : Bag K M s c T B W H0 H L' us es) (n : H p = none) : Bag K M s c T B W H0 (upd H p (.lst (vs ++ us))) p (vs ++ us) (ds ++ es) :=
  Bag.mk' (dpAll_app a.dp b.dp) (fun e he => (List.mem_append.mp he).elim (a.good e) (b.good e)) a.kept a.st a.mask n
theorem dp_tup_new {v : List V} {d : List PyData} (hM : Mask M H s c) (n : H p = none) (h : DpAll K (msk M H) v d) : Dp K (msk M (upd H p (.tup v))) (.ref p) (.tuple d) :=
  .tup (.inl (.inl (msk_at upd_same (hM.new n)))) (dpAll_same (msk_same (Kept.upd_new n)) h)
theorem dp_lst_new {v : List V} {d : List PyData} (hM : Mask M H s c) (n : H p = none) (h : DpAll K (msk M H) v d) : Dp K (msk M (upd H p (.lst v))) (.ref p) (.list d) :=
  .lst (.inl (.inl (msk_at upd_same (hM.new n)))) (dpAll_same (msk_same (Kept.upd_new n)) h)
theorem dp_up {v : V} {d : PyData} (n : H p = none) (h : Dp K (msk M H) v d) : Dp K (msk M (upd H p o)) v d := dp_same (msk_same (Kept.upd_new n)) h
end
def ascB (z : Str) : Bool := (cl z).all (fun c => decide (c < 128)) && decide (z.length ≤ 10)
theorem asc_of {z : Str} (h : ascB z = true) {B W : Nat} (hW : 112 ≤ W) : Good B W (.str z) := by
  unfold ascB at h
  simp only [Bool.and_eq_true, List.all_eq_true, decide_eq_true_eq] at h
  exact ⟨h.1, by show 10 * z.length + 12 ≤ W; omega, Nat.zero_le _⟩
theorem int_of {i : Int} {B W : Nat} (h : i.natAbs ≤ B) (hW : 112 ≤ W) : Good B W (.int i) := ⟨h, by show 25 ≤ W; omega, Nat.zero_le _⟩
theorem good_one {B W : Nat} {e : PyData} (h : Nice B 1 e) (hd : e.depth = 0) (hw : wt e + 9 ≤ W) : Good B W (.tuple [e]) ∧ Good B W (.list [e]) := by
  have g : 6 + (wt e + 3 + 0) ≤ W := by omega
  have d1 : max e.depth 0 + 1 ≤ 1 := by rw [hd]; decide
  exact ⟨⟨⟨Nat.le_refl 1, h, trivial⟩, g, d1⟩, ⟨⟨Nat.le_refl 1, h, trivial⟩, g, d1⟩⟩
theorem name_asc {z : Str} (h : NameOk z) {B W : Nat} (hW : 112 ≤ W) : Good B W (.str z) := by
  have l : z.length ≤ 8 := h.top
  exact ⟨fun c hc => by have := h.low c hc; unfold low at this; omega, by show 10 * z.length + 12 ≤ W; omega, Nat.zero_le _⟩
/-- the first fifteen -/
def first15V (t1 l1 t2 : Addr) : List V := [.non, .bl true, .bl false, .str "", .str "a1", .str "Ab", .str "abcdefghi", .str "a b", .ref t1, .ref l1, .ref t2, .int 0, .int (-1), .int (10 ^ (9 : Int).toNat), .str "none"]
def first15D : List PyData := [.none, .bool true, .bool false, .str "", .str "a1", .str "Ab", .str "abcdefghi", .str "a b", .tuple [], .list [], .tuple [.int 0], .int 0, .int (-1), .int (10 ^ (9 : Int).toNat), .str "none"]
theorem first15_good {B W : Nat} (hB : 2000000000 ≤ B) (hW : 200 ≤ W) : ∀ e ∈ first15D, Good B W e := by
  have e9 : (10 : Int) ^ (9 : Int).toNat = 1000000000 := by decide
  intro e he
  unfold first15D at he
  simp only [List.mem_cons, List.not_mem_nil, or_false] at he
  rcases he with rfl | rfl | rfl | rfl | rfl | rfl | rfl | rfl | rfl | rfl | rfl | rfl | rfl | rfl | rfl
  · exact ⟨trivial, by show 4 ≤ W; omega, Nat.zero_le _⟩
  · exact ⟨trivial, by show 5 ≤ W; omega, Nat.zero_le _⟩
  · exact ⟨trivial, by show 5 ≤ W; omega, Nat.zero_le _⟩
  · exact asc_of (by decide +kernel) (by omega)
  · exact asc_of (by decide +kernel) (by omega)
  · exact asc_of (by decide +kernel) (by omega)
  · exact asc_of (by decide +kernel) (by omega)
  · exact asc_of (by decide +kernel) (by omega)
  · exact ⟨⟨Nat.zero_le _, trivial⟩, by show 6 ≤ W; omega, Nat.le_refl _⟩
  · exact ⟨⟨Nat.zero_le _, trivial⟩, by show 6 ≤ W; omega, Nat.le_refl _⟩
  · exact (good_one (e := .int 0) (Nat.zero_le _) rfl (by show 34 ≤ W; omega)).1
  · exact int_of (Nat.zero_le _) (by omega)
  · exact int_of (by show 1 ≤ B; omega) (by omega)
  · exact int_of (by rw [e9]; show 1000000000 ≤ B; omega) (by omega)
  · exact asc_of (by decide +kernel) (by omega)
theorem upper_asc {z : Str} (h : ∀ c ∈ cl z, c < 128) : (∀ c ∈ cl (Txt.upper z), c < 128) ∧ (Txt.upper z).length = z.length := by
  rw [upper_ascii h]
  constructor
  · intro c hc
    have hc' : c ∈ (cl z).map up1 := by
      have e : cl (⟨z.cps.map up1⟩ : Str) = (cl z).map up1 := by
        show (z.cps.map up1).toList = z.cps.toList.map up1
        exact Array.toList_map
      rw [e] at hc; exact hc
    obtain ⟨a, ha, rfl⟩ := List.mem_map.mp hc'
    have := h a ha
    unfold up1
    split <;> omega
  · show (z.cps.map up1).size = z.cps.size
    exact Array.size_map
theorem cut_asc {z : Str} (h : ∀ c ∈ cl z, c < 128) (lo hi : Option Int) : (∀ c ∈ cl (cutS z lo hi), c < 128) ∧ (cutS z lo hi).length ≤ z.length := by
  constructor
  · intro c hc
    rw [cut_cl] at hc
    exact h c (List.mem_of_mem_drop (List.mem_of_mem_take hc))
  · rw [cl_len, cut_cl, List.length_take, List.length_drop]
    have : (cl z).length = z.length := rfl
    omega
theorem num_asc {v : V} {i : Int} (h : NumV v i) (hi : i.natAbs ≤ 10 ^ 20) : (∀ c ∈ cl (numText v), c < 128) ∧ (numText v).length ≤ 22 := by
  cases h with
  | bl b => cases b <;> exact ⟨by decide +kernel, by decide +kernel⟩
  | int i =>
    refine ⟨?_, int_len hi⟩
    have all : ∀ m : Nat, ∀ ch ∈ (toString (Int.ofNat m)).toList, ch.toNat < 128 := fun m ch hch => by
      have e1 := text_ofNat m
      rw [Str.ofString_eq_toList] at e1
      have e2 : (toString (Int.ofNat m)).toList.map Char.toNat = (Nat.toDigits 10 m).map Char.toNat := congrArg (fun z : Str => z.cps.toList) e1
      have hm : ch.toNat ∈ (Nat.toDigits 10 m).map Char.toNat := by rw [← e2]; exact List.mem_map.mpr ⟨ch, hch, rfl⟩
      obtain ⟨c2, h2, e3⟩ := List.mem_map.mp hm
      rw [← e3]
      have h3 := Nat.isDigit_of_mem_toDigits (by decide) (by decide) h2
      simp only [Char.isDigit, Bool.and_eq_true, decide_eq_true_eq] at h3
      have h4 : c2.val.toNat ≤ 57 := h3.2
      show c2.val.toNat < 128
      omega
    intro c hc
    have hc' : c ∈ (toString i).toList.map Char.toNat := by
      have e : cl (Str.ofString (toString i)) = (toString i).toList.map Char.toNat := by
        unfold cl
        rw [Str.ofString_eq_toList]
      rw [← e]; exact hc
    obtain ⟨ch, hch, rfl⟩ := List.mem_map.mp hc'
    by_cases h0 : 0 ≤ i
    · obtain ⟨m, rfl⟩ : ∃ m : Nat, i = Int.ofNat m := ⟨i.toNat, by show i = ((i.toNat : Nat) : Int); omega⟩
      exact all m ch hch
    · rw [toString_neg (by omega), String.toList_append] at hch
      obtain ⟨m, hm⟩ : ∃ m : Nat, 0 - i = Int.ofNat m := ⟨(0 - i).toNat, by show 0 - i = (((0 - i).toNat : Nat) : Int); omega⟩
      rcases List.mem_append.mp hch with h | h
      · have e : ("-" : String).toList = ['-'] := by decide
        rw [e] at h
        rw [List.mem_singleton.mp h]
        decide
      · rw [hm] at h
        exact all m ch h
end TT

set_option Elab.async false
set_option linter.all false
set_option maxRecDepth 100000
namespace TT
open PySem PySem.Spec PyProof.Rows L2
/-- the names handed along -/
structure NamesAt (H : Hp) (M : List Addr) (p : Addr) (zs : List Str) : Prop where
  out : p ∉ M
  at' : H p = some (.lst (zs.map V.str))
  ok : ∀ z ∈ zs, NameOk z
  len : zs.length ≤ 100
theorem NamesAt.kept {H H' : Hp} {M : List Addr} {p : Addr} {zs : List Str} (h : NamesAt H M p zs) (k : Kept M H H') : NamesAt H' M p zs := ⟨h.out, k.at h.at' h.out, h.ok, h.len⟩
theorem numV_of {K : PySem.W.Frag} {H : Hp} {v : V} {d : PyData} {B L : Nat} (hd : Dp K H v d) (h : isIB d = true) (n : Nice B L d) (hB : 1 ≤ B) : ∃ i, NumV v i ∧ i.natAbs ≤ B ∧ isSB d = false ∧ d.depth = 0 ∧ wt d ≤ 25 ∧ Nice B 1 d ∧ ∀ H', Dp K H' v d := by
  cases hd with
  | bl b => exact ⟨_, .bl b, (by cases b; exact Nat.zero_le _; exact hB), rfl, rfl, (by show 5 ≤ 25; decide), trivial, fun _ => .bl b⟩
  | int i => exact ⟨i, .int i, n, rfl, rfl, Nat.le_refl _, n, fun _ => .int i⟩
  | non => cases h
  | str z => cases h
  | lst _ _ => cases h
  | tup _ _ => cases h
section
variable {P : Program} {w : World} {K : PySem.W.Frag} {mg : Str → Option Value} {base : Heap}
def spOther (K : PySem.W.Frag) : Sp := fun vs H Q _ => ∃ (M : List Addr) (s c p : Addr) (T B L : Nat) (v : V) (d : PyData) (zs : List Str), vs = [.ref s, v, .ref p] ∧ StAt H s c T ∧ Mask M H s c ∧ T ≤ 1000000 ∧ Dp K (msk M H) v d ∧ Nice B L d ∧ 1 ≤ B ∧ B ≤ 10 ^ 12 ∧ wt d ≤ 50000 ∧ NamesAt H M p zs ∧
  ∀ (u : V) (e : PyData) (H' : Hp), Dp K (msk M H') u e → Good (B + 2000000000) (wt d + 300) e → StAt H' s c (T + 1) → Kept [s, c] H H' → Q u H'
abbrev s_law_other : Stmt := topS 24
abbrev N_law_other : List Str := ["state", "thing", "names", "some"]
theorem sc_law_other : FnScope N_law_other ["state", "thing", "names"] (defScope s_law_other) := ⟨rfl, rfl, rfl, by decide +kernel, rfl, by decide +kernel, by decide +kernel⟩

theorem ok_other {f : Addr} {fd : FuncData} (F : Fun K "_law_other" "_law_other" s_law_other f fd) (nb : NB mg) (D_law_some : Def P w K mg base 2 "_law_some" ["state", "things"] (spSome K)) : FnOk P w K mg base CX0 3 f fd ["state", "thing", "names"] (spOther K) := by
  refine F.ok sc_law_other (fun vs H Q E h => ?_) (fun cdv A outer sh H vs Q E hr h => ?_)
  · obtain ⟨M, s, c, p, T, B, L, v, d, zs, rfl, _⟩ := h
    rfl
  · obtain ⟨M, s, c, p, T, B, L, v, d, zs, rfl, S, hM, hT, hd, hn, hB0, hB, hw, N, q⟩ := h
    have nd := sc_law_other.nd
    have hu := hu_of hr
    have e9 : (10 : Int) ^ (9 : Int).toNat = 1000000000 := by decide
    refine ⟨_, (pss_cons (ps_set (i := 3) nd rfl (Or.inl rfl) (pe_lst (pa_cons pe_non (pa_cons pe_bl (pa_cons pe_bl (pa_cons pe_str (pa_cons pe_str (pa_cons pe_str (pa_cons pe_str (pa_cons pe_str (pa_cons (pe_tup pa_nil) (pa_cons (pe_lst pa_nil) (pa_cons (pe_tup (pa_cons pe_int pa_nil)) (pa_cons pe_int (pa_cons (pe_un un_neg pe_int) (pa_cons (pe_op op_pow pe_int pe_int) (pa_cons pe_str pa_nil)))))))))))))))))
      (pss_cons (ps_if (pt_val (pe_callB call_isi (by rfl) nb.b_isinstance (by decide +kernel) (pa_cons (pv 1) (pa_cons (pe_bltn (v := .ty "int") (by rfl) nb.b_int (by decide +kernel) rfl) pa_nil))))
        (pss_cons (ps_set (i := 3) nd rfl (Or.inl rfl) (pe_op op_cat (pv 3) (pe_lst (pa_cons (pe_op op_addN (pv 1) pe_int) (pa_cons (pe_op op_subN (pv 1) pe_int) (pa_cons (pe_op op_addN (pv 1) pe_int) (pa_cons (pe_op op_subN (pv 1) pe_int) (pa_cons (pe_op op_subIN pe_int (pv 1)) (pa_cons (pe_callTy call_str_num (by rfl) nb.b_str (by decide +kernel) (pa_cons (pv 1) pa_nil)) (pa_cons (pe_tup (pa_cons (pv 1) pa_nil)) (pa_cons (pe_lst (pa_cons (pv 1) pa_nil)) pa_nil)))))))))))
        (pss_one (ps_set (i := 3) nd rfl (Or.inl rfl) (pe_op op_cat (pv 3) (pe_lst (pa_cons pe_int (pa_cons (pe_op op_add (pe_op op_pow pe_int pe_int) pe_int) (pa_cons (pe_op op_sub pe_int (pe_op op_pow pe_int pe_int)) (pa_cons (pe_op op_sub (pe_op op_sub pe_int (pe_op op_pow pe_int pe_int)) pe_int) pa_nil)))))))))
        pss_nil)
      (pss_cons (ps_if (pt_val (pe_callB call_isi (by rfl) nb.b_isinstance (by decide +kernel) (pa_cons (pv 1) (pa_cons (pe_bltn (v := .ty "str") (by rfl) nb.b_str (by decide +kernel) rfl) pa_nil))))
        (pss_cons (ps_set (i := 3) nd rfl (Or.inl rfl) (pe_op op_cat (pe_op op_cat (pe_op op_cat (pv 3) (pe_lst (pa_cons (pe_op op_add_str (pv 1) pe_str) (pa_cons (pe_slice sl_str (pv 1) po_none (po_some (pe_un un_neg pe_int))) (pa_cons (pe_upper (pv 1)) (pa_cons (pe_op op_add_str (pv 1) pe_str) (pa_cons (pe_lst (pa_cons (pv 1) pa_nil)) (pa_cons (pe_tup (pa_cons (pv 1) pa_nil)) pa_nil)))))))) (pv 2)) (pv 2)))
        (pss_one (ps_set (i := 3) nd rfl (Or.inl rfl) (pe_op op_cat (pv 3) (pe_lst (pa_cons pe_str (pa_cons pe_str (pa_cons pe_str (pa_cons pe_str (pa_cons pe_str (pa_cons pe_str (pa_cons pe_str pa_nil))))))))))))
        pss_nil)
      (pss_one (ps_ret (pe_own D_law_some hr (pa_cons (pv 0) (pa_cons (pv 3) pa_nil)))))))), ?_⟩
    have small : ∀ n : Nat, n ≤ 1000 → n ≤ sizeLine := fun n h => Nat.le_of_lt (small1000 h)
    -- the end: _law_some of a bag
    have fin : ∀ (Lx : Addr) (H1 : Hp) (us : List V) (ds : List PyData), Bag K M s c T (B + 2000000000) (wt d + 300) H H1 Lx us ds → 0 < ds.length → ds.length ≤ 1000 →
        tRet (tCall (spSome K) [] E0 (tCons (tVar 0) (tCons (tVar 3) tNil))) { nx := fun x H' => Q V.non H', rt := Q } [some (.ref s), some v, some (.ref p), some (.ref Lx)] H1 := by
      intro Lx H1 us ds b l0 l1
      have l := dpAll_len b.dp
      refine ⟨.ref s, rfl, .ref Lx, rfl, s, c, Lx, T, us, rfl, b.st, hT, (fun z => b.out (b.mask.sc _ z)), .inl (.inl (.inl b.at')), by omega, by omega, fun j u H2 hj S2 K2 => ?_⟩
      obtain ⟨e, he, hde⟩ := dpAll_get j b.dp hj
      exact q u e H2 (dp_same (b.mask.same K2) hde) (b.good e (List.mem_of_getElem? he)) S2 (b.kept.trans K2)
    -- the first fifteen
    refine ⟨Nat.zero_le _, fun t1 n1 => ⟨Nat.zero_le _, fun l1 m1 => ⟨(by show 1 ≤ sizeLine; decide), fun t2 n2 => ⟨1, rfl, 10, 9, rfl, rfl, ⟨by decide, by decide, by decide⟩, (by show 15 ≤ sizeLine; decide), fun L0 nL0 => ?_⟩⟩⟩⟩
    have S1 := S.upd_new (o := .tup []) n1
    have S2 := S1.upd_new (o := .lst []) m1
    have S3 := S2.upd_new (o := .tup [.int 0]) n2
    have K3 : Kept [s, c] H (upd (upd (upd H t1 (.tup [])) l1 (.lst [])) t2 (.tup [.int 0])) := (Kept.upd_new n1).trans ((Kept.upd_new m1).trans (Kept.upd_new n2))
    have b0 : Bag K M s c T (B + 2000000000) (wt d + 300) H (upd (upd (upd (upd H t1 (.tup [])) l1 (.lst [])) t2 (.tup [.int 0])) L0 (.lst (first15V t1 l1 t2))) L0 (first15V t1 l1 t2) first15D := by
      refine Bag.mk' ?_ (first15_good (by omega) (by omega)) K3 S3 hM.up.up.up nL0
      refine .cons .non (.cons (.bl true) (.cons (.bl false) (.cons (.str _) (.cons (.str _) (.cons (.str _) (.cons (.str _) (.cons (.str _) (.cons ?_ (.cons ?_ (.cons ?_ (.cons (.int _) (.cons (.int _) (.cons (.int _) (.cons (.str _) .nil))))))))))))))
      · exact dp_up n2 (dp_up m1 (dp_tup_new hM n1 .nil))
      · exact dp_up n2 (dp_lst_new hM.up m1 .nil)
      · exact dp_tup_new hM.up.up n2 (.cons (.int 0) .nil)
    have eL0 : (upd (upd (upd (upd H t1 (.tup [])) l1 (.lst [])) t2 (.tup [.int 0])) L0 (.lst (first15V t1 l1 t2))) L0 = some (.lst (first15V t1 l1 t2)) := upd_same
    show tSeq _ _ _ _ (upd (upd (upd (upd H t1 (.tup [])) l1 (.lst [])) t2 (.tup [.int 0])) L0 (.lst (first15V t1 l1 t2)))
    generalize upd (upd (upd (upd H t1 (.tup [])) l1 (.lst [])) t2 (.tup [.int 0])) L0 (.lst (first15V t1 l1 t2)) = H1 at b0 eL0
    have hd1 : Dp K (msk M H1) v d := dp_same (hM.same b0.kept) hd
    -- if isinstance(thing, int)
    refine ⟨v, rfl, v, .ty "int", _, _, _, rfl, .ty "int", dp_ty (dp_same (msk_sub _ _) hd1), kit_i d, _, rfl, ite2 (fun h1 => ?_) (fun h1 => ?_)⟩
    · obtain ⟨i, hN, hi, hs, dd, dw, dn, dv⟩ := numV_of hd h1 hn hB0
      have hi20 : i.natAbs ≤ 10 ^ 20 := Nat.le_trans hi (Nat.le_trans hB (by decide))
      refine ⟨.ref L0, rfl, v, rfl, i, 1, hN, rfl, v, rfl, i, 1, hN, rfl, v, rfl, i, 1, hN, rfl, v, rfl, i, 1, hN, rfl, v, rfl, 0, i, rfl, hN, v, rfl, v, i, rfl, hN, Nat.lt_of_lt_of_le (PySem.Flt.log2_lt_of (k := 70) (by decide) (Nat.lt_of_le_of_lt hi20 (by decide))) (by decide), v, rfl, (by show 1 ≤ sizeLine; decide), fun t3 n3 => ?_⟩
      refine ⟨v, rfl, (by show 1 ≤ sizeLine; decide), fun l3 m3 => ⟨(by show 8 ≤ sizeLine; decide), fun L1 nL1 => ?_⟩⟩
      have b1 := (b0.up (o := .tup [v]) n3)
      have b2 := (b1.up (o := .lst [v]) m3)
      have b3 := b2.up (o := .lst [.int (i + 1), .int (i - 1), .int (i + 1), .int (i - 1), .int (0 - i), .str (numText v), .ref t3, .ref l3]) nL1
      have gI : ∀ j : Int, j.natAbs ≤ B + 2000000000 → Good (B + 2000000000) (wt d + 300) (.int j) := fun j hj => int_of hj (by omega)
      obtain ⟨ga, gl⟩ := num_asc hN hi20
      have gone := good_one (B := B + 2000000000) (W := wt d + 300) (e := d) (dn.mono (by omega) (Nat.le_refl _)) dd (by omega)
      have c3 : Bag K M s c T (B + 2000000000) (wt d + 300) H (upd (upd (upd H1 t3 (.tup [v])) l3 (.lst [v])) L1 (.lst [.int (i + 1), .int (i - 1), .int (i + 1), .int (i - 1), .int (0 - i), .str (numText v), .ref t3, .ref l3])) L1 [.int (i + 1), .int (i - 1), .int (i + 1), .int (i - 1), .int (0 - i), .str (numText v), .ref t3, .ref l3] [.int (i + 1), .int (i - 1), .int (i + 1), .int (i - 1), .int (0 - i), .str (numText v), .tuple [d], .list [d]] := by
        refine Bag.mk' ?_ ?_ b2.kept b2.st b2.mask nL1
        · refine .cons (.int _) (.cons (.int _) (.cons (.int _) (.cons (.int _) (.cons (.int _) (.cons (.str _) (.cons ?_ (.cons ?_ .nil)))))))
          · exact dp_up m3 (dp_tup_new b0.mask n3 (.cons (dv _) .nil))
          · exact dp_lst_new b1.mask m3 (.cons (dv _) .nil)
        · intro e he
          simp only [List.mem_cons, List.not_mem_nil, or_false] at he
          rcases he with rfl | rfl | rfl | rfl | rfl | rfl | rfl | rfl
          · exact gI _ (by omega)
          · exact gI _ (by omega)
          · exact gI _ (by omega)
          · exact gI _ (by omega)
          · exact gI _ (by omega)
          · exact ⟨ga, by show 10 * (numText v).length + 12 ≤ _; omega, Nat.zero_le _⟩
          · exact gone.1
          · exact gone.2
      refine ⟨L0, L1, _, _, rfl, rfl, b3.at', c3.at', small _ (by show 15 + 8 ≤ 1000; decide), fun L2 nL2 => ?_⟩
      have b4 := b3.cat c3 nL2
      -- some + [1, ..]
      refine ⟨.ref L2, rfl, 10, 9, rfl, rfl, ⟨by decide, by decide, by decide⟩, _, _, rfl, rfl, 10, 9, rfl, rfl, ⟨by decide, by decide, by decide⟩, _, _, rfl, rfl, 10, 9, rfl, rfl, ⟨by decide, by decide, by decide⟩, _, _, rfl, rfl, _, _, rfl, rfl, (by show 4 ≤ sizeLine; decide), fun L3 nL3 => ?_⟩
      have b5 := b4.up (o := .lst [.int 1, .int (10 ^ (9 : Int).toNat + 1), .int (0 - 10 ^ (9 : Int).toNat), .int (0 - 10 ^ (9 : Int).toNat - 1)]) nL3
      have c5 := Bag.mk' (K := K) (B := B + 2000000000) (W := wt d + 300) (H0 := H) (vs := [.int 1, .int (10 ^ (9 : Int).toNat + 1), .int (0 - 10 ^ (9 : Int).toNat), .int (0 - 10 ^ (9 : Int).toNat - 1)]) (.cons (.int _) (.cons (.int _) (.cons (.int _) (.cons (.int _) .nil)))) (by
        intro e he
        simp only [List.mem_cons, List.not_mem_nil, or_false] at he
        rcases he with rfl | rfl | rfl | rfl
        · exact gI _ (by show 1 ≤ _; omega)
        · exact gI _ (by rw [e9]; omega)
        · exact gI _ (by rw [e9]; omega)
        · exact gI _ (by rw [e9]; omega)) b4.kept b4.st b4.mask nL3
      refine ⟨L2, L3, _, _, rfl, rfl, b5.at', c5.at', small _ (by show 15 + 8 + 4 ≤ 1000; decide), fun L4 nL4 => ?_⟩
      have b6 := b5.cat c5 nL4
      refine ⟨v, rfl, v, .ty "str", _, _, _, rfl, .ty "str", dp_ty (dv _), kit_s d, _, rfl, ?_⟩
      rw [hs]
      exact iteF (fin L4 _ _ _ b6 (by show 0 < 27; decide) (by show 27 ≤ 1000; decide))
    · refine ⟨v, rfl, v, .ty "str", _, _, _, rfl, .ty "str", dp_ty (dp_same (msk_sub _ _) hd1), kit_s d, _, rfl, ite2 (fun h2 => ?_) (fun h2 => ?_)⟩
      · obtain ⟨z, rfl, rfl⟩ : ∃ z, d = .str z ∧ v = .str z := by
          cases hd <;> first | exact ⟨_, rfl, rfl⟩ | cases h2
        have hA : ∀ x ∈ cl z, x < 128 := hn
        have hwz : wt (.str z) = 10 * z.length + 12 := rfl
        rw [hwz] at hw
        have zl : z.length ≤ 5000 := by omega
        have zs' : z.length ≤ sizeLine := Nat.le_trans zl (by decide)
        have l1 : (Str.ofString "z").length = 1 := by decide +kernel
        have l2 : (Str.ofString " ").length = 1 := by decide +kernel
        have cut := cut_asc hA none (some (-1))
        have up := upper_asc hA
        refine ⟨.ref L0, rfl, .str z, rfl, z, _, rfl, rfl, (by rw [l1]; exact Nat.le_trans (Nat.succ_le_succ zl) (by decide)), .str z, rfl, 1, rfl, _, rfl, z, rfl, zs', .str z, rfl, ⟨_, rfl⟩, z, rfl, rfl, Nat.le_trans zl (by decide), .str z, rfl, z, _, rfl, rfl, (by rw [l2]; exact Nat.le_trans (Nat.succ_le_succ zl) (by decide)), .str z, rfl, (by show 1 ≤ sizeLine; decide), fun l3 m3 => ?_⟩
        refine ⟨.str z, rfl, (by show 1 ≤ sizeLine; decide), fun t3 n3 => ⟨(by show 6 ≤ sizeLine; decide), fun L1 nL1 => ?_⟩⟩
        have b1 := (b0.up (o := .lst [.str z]) m3)
        have b2 := (b1.up (o := .tup [.str z]) n3)
        have b3 := b2.up (o := .lst [.str (z ++ Str.ofString "z"), .str (cutS z none (some (-1))), .str (Txt.upper z), .str (z ++ Str.ofString " "), .ref l3, .ref t3]) nL1
        have gS : ∀ y : Str, (∀ x ∈ cl y, x < 128) → y.length ≤ z.length + 1 → Good (B + 2000000000) (wt (.str z) + 300) (.str y) := fun y h1 h2 => ⟨h1, by show 10 * y.length + 12 ≤ 10 * z.length + 12 + 300; omega, Nat.zero_le _⟩
        have gone := good_one (B := B + 2000000000) (W := wt (.str z) + 300) (e := .str z) hA rfl (by omega)
        have app : ∀ a : Str, (∀ x ∈ cl a, x < 128) → ∀ x ∈ cl (z ++ a), x < 128 := fun a ha x hx => by
          rw [cl_app] at hx
          exact (List.mem_append.mp hx).elim (hA x) (ha x)
        have c3 : Bag K M s c T (B + 2000000000) (wt (.str z) + 300) H (upd (upd (upd H1 l3 (.lst [.str z])) t3 (.tup [.str z])) L1 (.lst [.str (z ++ Str.ofString "z"), .str (cutS z none (some (-1))), .str (Txt.upper z), .str (z ++ Str.ofString " "), .ref l3, .ref t3])) L1
            [.str (z ++ Str.ofString "z"), .str (cutS z none (some (-1))), .str (Txt.upper z), .str (z ++ Str.ofString " "), .ref l3, .ref t3] [.str (z ++ Str.ofString "z"), .str (cutS z none (some (-1))), .str (Txt.upper z), .str (z ++ Str.ofString " "), .list [.str z], .tuple [.str z]] := by
          refine Bag.mk' ?_ ?_ b2.kept b2.st b2.mask nL1
          · refine .cons (.str _) (.cons (.str _) (.cons (.str _) (.cons (.str _) (.cons ?_ (.cons ?_ .nil)))))
            · exact dp_up n3 (dp_lst_new b0.mask m3 (.cons (.str z) .nil))
            · exact dp_tup_new b1.mask n3 (.cons (.str z) .nil)
          · intro e he
            simp only [List.mem_cons, List.not_mem_nil, or_false] at he
            rcases he with rfl | rfl | rfl | rfl | rfl | rfl
            · exact gS _ (app _ (by decide +kernel)) (by rw [str_len_app, l1]; exact Nat.le_refl _)
            · exact gS _ cut.1 (by have := cut.2; omega)
            · exact gS _ up.1 (by rw [up.2]; omega)
            · exact gS _ (app _ (by decide +kernel)) (by rw [str_len_app, l2]; exact Nat.le_refl _)
            · exact gone.2
            · exact gone.1
        have bag : ∀ {H2 L2 us es}, Bag K M s c T (B + 2000000000) (wt (.str z) + 300) H H2 L2 us es → Bag K M s c T (B + 2000000000) (wt (.str z) + 300) H H2 p (zs.map V.str) (zs.map PyData.str) := fun {H2 L2 us es} b => by
          refine ⟨(N.kept (b.kept.mono hM.sc)).at', dp_strs zs, fun e he => ?_, b.kept, b.st, N.out, b.mask⟩
          obtain ⟨y, hy, rfl⟩ := List.mem_map.mp he
          exact name_asc (N.ok y hy) (by omega)
        have zl2 := N.len
        have lz : (zs.map V.str).length = zs.length := List.length_map ..
        have lz2 : (zs.map PyData.str).length = zs.length := List.length_map ..
        refine ⟨L0, L1, _, _, rfl, rfl, b3.at', c3.at', small _ (by show 15 + 6 ≤ 1000; decide), fun L2 nL2 => ?_⟩
        have b4 := b3.cat c3 nL2
        refine ⟨.ref p, rfl, L2, p, _, _, rfl, rfl, b4.at', (bag b4).at', small _ (by rw [lz]; show 21 + zs.length ≤ 1000; omega), fun L3 nL3 => ?_⟩
        have b5 := b4.cat (bag b4) nL3
        refine ⟨.ref p, rfl, L3, p, _, _, rfl, rfl, b5.at', (bag b5).at', small _ (by rw [List.length_append, lz]; show 21 + zs.length + zs.length ≤ 1000; omega), fun L4 nL4 => ?_⟩
        have b6 := b5.cat (bag b5) nL4
        -- some + ['bar', ..]
        refine ⟨.ref L4, rfl, (by show 7 ≤ sizeLine; decide), fun L5 nL5 => ?_⟩
        have b7 := b6.up (o := .lst [.str "bar", .str "carry", .str "empty", .str "fallback", .str "look", .str "once", .str "end"]) nL5
        have c7 := Bag.mk' (K := K) (B := B + 2000000000) (W := wt (.str z) + 300) (H0 := H) (vs := [.str "bar", .str "carry", .str "empty", .str "fallback", .str "look", .str "once", .str "end"]) (.cons (.str _) (.cons (.str _) (.cons (.str _) (.cons (.str _) (.cons (.str _) (.cons (.str _) (.cons (.str _) .nil))))))) (by
          intro e he
          simp only [List.mem_cons, List.not_mem_nil, or_false] at he
          rcases he with rfl | rfl | rfl | rfl | rfl | rfl | rfl <;> exact asc_of (by decide +kernel) (by omega)) b6.kept b6.st b6.mask nL5
        refine ⟨L4, L5, _, _, rfl, rfl, b7.at', c7.at', small _ (by rw [List.length_append, List.length_append, lz]; show 21 + zs.length + zs.length + 7 ≤ 1000; omega), fun L6 nL6 => ?_⟩
        have b8 := b7.cat c7 nL6
        have len8 : ((first15D ++ [PyData.str (z ++ Str.ofString "z"), .str (cutS z none (some (-1))), .str (Txt.upper z), .str (z ++ Str.ofString " "), .list [.str z], .tuple [.str z]] ++ zs.map PyData.str ++ zs.map PyData.str) ++ [PyData.str "bar", .str "carry", .str "empty", .str "fallback", .str "look", .str "once", .str "end"]).length = 28 + zs.length + zs.length := by
          rw [List.length_append, List.length_append, List.length_append, lz2]
          show 21 + zs.length + zs.length + 7 = _
          omega
        exact fin L6 _ _ _ b8 (by rw [len8]; omega) (by rw [len8]; omega)
      · exact fin L0 _ _ _ b0 (by show 0 < 15; decide) (by show 15 ≤ 1000; decide)
end
end TT

set_option Elab.async false
set_option linter.all false
set_option maxRecDepth 100000
namespace TT
open PySem PySem.Spec PyProof.Rows L2
/-! ### pieces of data -/
theorem dpAll_take {K : PySem.W.Frag} {H : Hp} : ∀ {ds : List PyData} {vs : List V} (n : Nat), DpAll K H vs ds → DpAll K H (vs.take n) (ds.take n)
  | _, _, 0, _ => .nil
  | _, _, _ + 1, .nil => .nil
  | _, _, n + 1, .cons h t => .cons h (dpAll_take n t)
theorem dpAll_drop {K : PySem.W.Frag} {H : Hp} : ∀ {ds : List PyData} {vs : List V} (n : Nat), DpAll K H vs ds → DpAll K H (vs.drop n) (ds.drop n)
  | _, _, 0, h => h
  | _, _, _ + 1, .nil => .nil
  | _, _, n + 1, .cons _ t => dpAll_drop n t
theorem dpAll_rev {K : PySem.W.Frag} {H : Hp} : ∀ {ds : List PyData} {vs : List V}, DpAll K H vs ds → DpAll K H vs.reverse ds.reverse
  | _, _, .nil => .nil
  | _, _, .cons h t => by
    rw [List.reverse_cons, List.reverse_cons]
    exact dpAll_snoc (dpAll_rev t) h
theorem dpAll_set {K : PySem.W.Frag} {H : Hp} {v : V} {d : PyData} (h : Dp K H v d) : ∀ {ds : List PyData} {vs : List V} (n : Nat), DpAll K H vs ds → DpAll K H (vs.set n v) (ds.set n d)
  | _, _, _, .nil => .nil
  | _, _, 0, .cons _ t => .cons h t
  | _, _, n + 1, .cons g t => .cons g (dpAll_set h n t)
theorem wtAll_rev : ∀ ds : List PyData, wtAll ds.reverse = wtAll ds
  | [] => rfl
  | d :: ds => by
    rw [List.reverse_cons, wtAll_app, wtAll_rev ds]
    show wtAll ds + (wt d + 3 + 0) = wt d + 3 + wtAll ds
    omega
theorem wtAll_cut (ds : List PyData) (n : Nat) : wtAll (ds.take n) + wtAll (ds.drop n) = wtAll ds := by
  rw [← wtAll_app, List.take_append_drop]
/-- what has become of a list's items -/
structure Pc (B L : Nat) (ds es : List PyData) : Prop where
  len : es.length ≤ L + 1
  mem : ∀ e ∈ es, Nice B (L + 1) e ∧ e.depth ≤ PyData.depthAll ds + 1
  wt : wtAll es ≤ 3 * wtAll ds + 2000
theorem pc_mem {B L : Nat} {ds : List PyData} (h : NiceAll B L ds) : ∀ e ∈ ds, Nice (B + 2000000000) (L + 1) e ∧ e.depth ≤ PyData.depthAll ds + 1 := fun e he =>
  ⟨(niceAll_iff.mp h e he).mono (by omega) (by omega), Nat.le_trans (depth_mem he) (Nat.le_succ _)⟩
/-- the things that are made of a container -/
structure Bt (B L : Nat) (d e : PyData) : Prop where
  nice : Nice (B + 2000000000) (L + 1) e
  wt : wt e ≤ 3 * wt d + 2000
  dep : e.depth ≤ d.depth + 1
theorem bt_good {B L : Nat} {d e : PyData} (h : Good (B + 2000000000) (wt d + 300) e) : Bt B L d e := ⟨h.nice.mono (Nat.le_refl _) (by omega), by have := h.wt; omega, by have := h.dep; omega⟩
theorem cutV_lo (xs : List V) (a : Nat) : cutV xs none (some (a : Int)) = xs.take a := by
  unfold cutV
  rw [HT.sIx_none, HT.sIx_nat, List.drop_zero, Nat.sub_zero]
  by_cases h : a ≤ xs.length
  · rw [Nat.min_eq_left h]
  · rw [Nat.min_eq_right (by omega), List.take_of_length_le (Nat.le_refl _), List.take_of_length_le (by omega)]
theorem cutV_hi (xs : List V) (a : Nat) : cutV xs (some (a : Int)) none = xs.drop a := by
  unfold cutV
  rw [HT.sIx_none, HT.sIx_nat]
  by_cases h : a ≤ xs.length
  · rw [Nat.min_eq_left h, List.take_of_length_le]
    rw [List.length_drop]; exact Nat.le_refl _
  · rw [Nat.min_eq_right (by omega), List.drop_length, List.drop_of_length_le (by omega)]
    simp
theorem cutV_mid (xs : List V) (a b : Nat) (h : a ≤ xs.length) : cutV xs (some (a : Int)) (some ((a : Int) + b)) = (xs.drop a).take b := by
  unfold cutV
  rw [show ((a : Int) + b) = ((a + b : Nat) : Int) by omega, HT.sIx_nat, HT.sIx_nat, Nat.min_eq_left h, List.take_eq_take_iff, List.length_drop]
  omega
/-- a container: a tuple or a list -/
theorem cont_of {K : PySem.W.Frag} {H : Hp} {v : V} {d : PyData} (hd : Dp K H v d) (h : (isTB d || isLB d) = true) : ∃ p xs ds, v = .ref p ∧ DpAll K H xs ds ∧ ((d = .tuple ds ∧ SqT K H p xs) ∨ (d = .list ds ∧ SqL K H p xs)) := by
  cases hd with
  | non => cases h
  | bl b => cases h
  | int i => cases h
  | str z => cases h
  | lst hs a => exact ⟨_, _, _, rfl, a, .inr ⟨rfl, hs⟩⟩
  | tup hs a => exact ⟨_, _, _, rfl, a, .inl ⟨rfl, hs⟩⟩
section
variable {P : Program} {w : World} {K : PySem.W.Frag} {mg : Str → Option Value} {base : Heap}
def spBent (n : Nat) (K : PySem.W.Frag) : Sp := fun vs H Q _ => ∃ (M : List Addr) (s c p : Addr) (T B L : Nat) (v : V) (d : PyData) (zs : List Str), vs = [.ref s, v, .ref p] ∧ d.depth < n ∧ StAt H s c T ∧ Mask M H s c ∧ T + 4 * n ≤ 1000000 ∧ Dp K (msk M H) v d ∧ Nice B L d ∧ L ≤ 800 ∧ 1 ≤ B ∧ B ≤ 10 ^ 12 ∧ wt d ≤ 50000 ∧ NamesAt H M p zs ∧
  ∀ (u : V) (e : PyData) (H' : Hp), Dp K (msk M H') u e → Bt B L d e → StAt H' s c (T + 4 * n) → Kept [s, c] H H' → Q u H'
abbrev s_law_bent : Stmt := topS 25
abbrev N_law_bent : List Str := ["state", "thing", "names", "way", "pieces", "at", "ahead", "behind"]
theorem sc_law_bent : FnScope N_law_bent ["state", "thing", "names"] (defScope s_law_bent) := ⟨rfl, rfl, rfl, by decide +kernel, rfl, by decide +kernel, by decide +kernel⟩

theorem ok_bent1 {n : Nat} {f : Addr} {fd : FuncData} (F : Fun K "_law_bent" "_law_bent" s_law_bent f fd) (nb : NB mg) (D_law_take : Def P w K mg base 1 "_law_take" ["state", "many"] spTake) (D_law_other : Def P w K mg base 3 "_law_other" ["state", "thing", "names"] (spOther K))
    (D_law_bent : Def P w K mg base (3 + n) "_law_bent" ["state", "thing", "names"] (spBent n K)) : FnOk P w K mg base CX0 (3 + n + 1) f fd ["state", "thing", "names"] (spBent (n + 1) K) := by
  refine F.ok sc_law_bent (fun vs H Q E h => ?_) (fun cdv A outer sh H vs Q E hr h => ?_)
  · obtain ⟨M, s, c, p, T, B, L, v, d, zs, rfl, _⟩ := h
    rfl
  · obtain ⟨M, s, c, p, T, B, L, v, d, zs, rfl, hdep, S, hM, hT, hd, hn, hL, hB0, hB, hw, N, q⟩ := h
    have nd := sc_law_bent.nd
    have hu := hu_of hr
    refine ⟨_, (pss_cons (ps_set (i := 3) nd rfl (Or.inl rfl) (pe_own D_law_take hr (pa_cons (pv 0) (pa_cons pe_int pa_nil)) (by omega)))
      (pss_cons (ps_if (PW.pt (pw_or (pt_not (pt_val (pe_callB call_isiT (by rfl) nb.b_isinstance (by decide +kernel) (pa_cons (pv 1) (pa_cons (pe_tup (pa_cons (pe_bltn (v := .ty "tuple") (by rfl) nb.b_tuple (by decide +kernel) rfl) (pa_cons (pe_bltn (v := .ty "list") (by rfl) nb.b_list (by decide +kernel) rfl) pa_nil))) pa_nil))))) (pw_or (pt_cmpR op_eq (pe_callB call_len (by rfl) nb.b_len (by decide +kernel) (pa_cons (pv 1) pa_nil)) pe_int (nomark _)) (pw_or1 (pt_cmpR op_eq (pv 3) pe_int (nomark _))))))
        (pss_one (ps_ret (pe_own D_law_other hr (pa_cons (pv 0) (pa_cons (pv 1) (pa_cons (pv 2) pa_nil))) (by omega))))
        pss_nil)
      (pss_cons (ps_par (i := 4) (j := 5) (by rfl) nd rfl rfl (by decide) rfl rfl (pa_cons (pe_callTy call_list_of (by rfl) nb.b_list (by decide +kernel) (pa_cons (pv 1) pa_nil)) (pa_cons (pe_ix ix_list (pe_lst (pa_cons (pe_op op_sub (pe_callB call_len (by rfl) nb.b_len (by decide +kernel) (pa_cons (pv 1) pa_nil)) pe_int) (pa_cons (pe_own D_law_take hr (pa_cons (pv 0) (pa_cons (pe_callB call_len (by rfl) nb.b_len (by decide +kernel) (pa_cons (pv 1) pa_nil)) pa_nil)) (by omega)) pa_nil))) (pe_own D_law_take hr (pa_cons (pv 0) (pa_cons pe_int pa_nil)) (by omega)) (fun _ _ => rfl)) pa_nil)) (by rfl))
      (pss_cons (ps_if (pt_cmpR op_eq (pv 3) pe_int (nomark _))
        (pss_one (ps_ret (pe_ifExp (pt_val (pe_callB call_isi (by rfl) nb.b_isinstance (by decide +kernel) (pa_cons (pv 1) (pa_cons (pe_bltn (v := .ty "list") (by rfl) nb.b_list (by decide +kernel) rfl) pa_nil)))) (pe_callTy call_tuple_of (by rfl) nb.b_tuple (by decide +kernel) (pa_cons (pv 4) pa_nil)) (pv 4))))
        pss_nil)
      (pss_cons (ps_par (i := 6) (j := 7) (by rfl) nd rfl rfl (by decide) rfl rfl (pa_cons (pe_slice sl_list (pv 4) po_none (po_some (pv 5))) (pa_cons (pe_slice sl_list (pv 4) (po_some (pe_op op_add (pv 5) pe_int)) po_none) pa_nil)) (by rfl))
      (pss_cons (ps_if (pt_cmpR op_eq (pv 3) pe_int (nomark _))
        (pss_one (ps_set (i := 4) nd rfl (Or.inl rfl) (pe_op op_cat (pv 6) (pv 7))))
        (pss_one (ps_if (pt_cmpR op_eq (pv 3) pe_int (nomark _))
          (pss_one (ps_set (i := 4) nd rfl (Or.inl rfl) (pe_op op_cat (pe_op op_cat (pv 6) (pe_lst (pa_cons (pe_ix ix_list (pv 4) (pv 5) (fun _ _ => rfl)) pa_nil))) (pe_slice sl_list (pv 4) (po_some (pv 5)) po_none))))
          (pss_one (ps_if (pt_cmpR op_eq (pv 3) pe_int (nomark _))
            (pss_one (ps_set (i := 4) nd rfl (Or.inl rfl) (pe_op op_cat (pe_op op_cat (pv 6) (pe_revL (pe_slice sl_list (pv 4) (po_some (pv 5)) (po_some (pe_op op_add (pv 5) pe_int))))) (pe_slice sl_list (pv 4) (po_some (pe_op op_add (pv 5) pe_int)) po_none))))
            (pss_one (ps_if (pt_cmpR op_eq (pv 3) pe_int (nomark _))
              (pss_one (ps_set (i := 4) nd rfl (Or.inl rfl) (pe_revL (pv 4))))
              (pss_one (ps_if (pt_cmpR op_eq (pv 3) pe_int (nomark _))
                (pss_one (ps_set (i := 4) nd rfl (Or.inl rfl) (pe_op op_cat (pe_op op_cat (pv 6) (pe_lst (pa_cons (pe_own D_law_other hr (pa_cons (pv 0) (pa_cons pe_non (pa_cons (pv 2) pa_nil))) (by omega)) pa_nil))) (pe_slice sl_list (pv 4) (po_some (pv 5)) po_none))))
                (pss_one (ps_asg (pe_own D_law_bent hr (pa_cons (pv 0) (pa_cons (pe_ix ix_list (pv 4) (pv 5) (fun _ _ => rfl)) (pa_cons (pv 2) pa_nil))) (by omega)) (pg_sub (pv 4) (pv 5) set_list))))))))))))
      (pss_one (ps_ret (pe_ifExp (pt_val (pe_callB call_isi (by rfl) nb.b_isinstance (by decide +kernel) (pa_cons (pv 1) (pa_cons (pe_bltn (v := .ty "list") (by rfl) nb.b_list (by decide +kernel) rfl) pa_nil)))) (pv 4) (pe_callTy call_tuple_of (by rfl) nb.b_tuple (by decide +kernel) (pa_cons (pv 4) pa_nil))))))))))), ?_⟩
    have small : ∀ n : Nat, n ≤ 1000 → n ≤ sizeLine := fun n h => Nat.le_of_lt (small1000 h)
    -- way
    refine ⟨.ref s, rfl, s, c, T, _, rfl, S, by omega, by decide, by decide, fun way H1 w0 w1 S1 K1 => ?_⟩
    have M1 := hM.kept K1 S1
    have hd1 := dp_same (hM.same K1) hd
    have N1 := N.kept (K1.mono hM.sc)
    have other : ∀ (H2 : Hp), Same H1 H2 → ∀ st', (st' = [some (.ref s), some v, some (.ref p), some (.int way), none, none, none, none]) → 
        tRet (tCall (spOther K) [] E0 (tCons (tVar 0) (tCons (tVar 1) (tCons (tVar 2) tNil)))) { nx := fun x H' => Q V.non H', rt := Q } st' H2 := by
      rintro H2 sm _ rfl
      have M2 : Mask M H2 s c := M1.kept (Kept.of_same sm) (S1.same sm)
      refine ⟨.ref s, rfl, v, rfl, .ref p, rfl, M, s, c, p, T + 1, B, L, v, d, zs, rfl, S1.same sm, M2, by omega, dp_same (msk_same (Kept.of_same sm)) hd1, hn, hB0, hB, hw, N1.kept (Kept.of_same sm), fun u e H3 h3 g3 S3 K3 => ?_⟩
      exact q u e H3 h3 (bt_good g3) (S3.mono (by omega)) (K1.trans ((Kept.of_same sm).trans K3))
    refine ⟨v, rfl, (by show 2 ≤ sizeLine; decide), fun tt ntt => ?_⟩
    have st := same_upd (o := .tup [.ty "tuple", .ty "list"]) ntt
    refine ⟨v, tt, _, _, [.type "tuple", .type "list"], _, rfl, upd_same, .cons (.ty _) (.cons (.ty _) .nil), dp_ty (dp_same st (dp_same (msk_sub _ _) hd1)), kit_tl d, _, rfl, ?_⟩
    cases hC : (isTB d || isLB d) with
    | false => exact iteT (iteT (other _ st _ rfl))
    | true =>
      refine iteF ?_
      obtain ⟨pd, xs, ds, rfl, hA, hX⟩ := cont_of hd1 hC
      have l := dpAll_len hA
      -- facts of the container
      have fc : ds.length ≤ L ∧ NiceAll B L ds ∧ wt d = 6 + wtAll ds ∧ d.depth = PyData.depthAll ds + 1 := by
        rcases hX with ⟨rfl, _⟩ | ⟨rfl, _⟩ <;> exact ⟨hn.1, hn.2, rfl, rfl⟩
      obtain ⟨fl, fn, fw, fdp⟩ := fc
      have lx : xs.length ≤ 800 := by omega
      have lenV : ∀ H2, Same H1 H2 → LenV K (.ref pd) H2 xs.length := fun H2 sm => by
        rcases hX with ⟨_, hS⟩ | ⟨_, hS⟩
        · exact .inr ⟨xs, sameT (msk_sub _ _ |>.trans sm) hS, rfl⟩
        · exact .inl ⟨xs, ((msk_sub _ _).trans sm).seq hS, rfl⟩
      refine ⟨.ref pd, rfl, .ref pd, xs.length, rfl, lenV _ st, rfl, _, rfl, ?_⟩
      cases h0 : decide (V.int (xs.length : Int) = V.int 0) with
      | true => exact iteT (iteT (other _ st _ rfl))
      | false =>
        refine iteF ?_
        have x0 : 0 < xs.length := by
          have := of_decide_eq_false h0
          refine Nat.pos_of_ne_zero fun z => this (congrArg V.int (by rw [z]; rfl))
        refine ⟨.int way, rfl, rfl, _, rfl, ?_⟩
        cases h6 : decide (V.int way = V.int 6) with
        | true => exact iteT (other _ st _ rfl)
        | false =>
          refine iteF ?_
          -- pieces, at
          have seqV : ∀ H2, Same H1 H2 → (SqL K H2 pd xs ∨ SqT K H2 pd xs) := fun H2 sm => by
            rcases hX with ⟨_, hS⟩ | ⟨_, hS⟩
            · exact .inr (sameT ((msk_sub _ _).trans sm) hS)
            · exact .inl (((msk_sub _ _).trans sm).seq hS)
          refine ⟨.ref pd, rfl, pd, xs, rfl, seqV _ st, fun P0 nP => ?_⟩
          have s2 : Same H1 (upd (upd H1 tt (.tup [.ty "tuple", .ty "list"])) P0 (.lst xs)) := st.trans (same_upd nP)
          have eP : (upd (upd H1 tt (.tup [.ty "tuple", .ty "list"])) P0 (.lst xs)) P0 = some (.lst xs) := upd_same
          have nP1 : H1 P0 = none := Same.free st nP
          have S2 := S1.same s2
          have M2 : Mask M (upd (upd H1 tt (.tup [.ty "tuple", .ty "list"])) P0 (.lst xs)) s c := M1.kept (Kept.of_same s2) S2
          have outP : P0 ∉ M := M1.new nP1
          refine ⟨.ref pd, rfl, .ref pd, xs.length, rfl, lenV _ s2, _, _, rfl, rfl, .ref s, rfl, .ref pd, rfl, .ref pd, xs.length, rfl, lenV _ s2, s, c, T + 1, _, rfl, S2, by omega, by omega, by omega, fun a2 H3 a0 a1 S3 K3 => ?_⟩
          refine ⟨(by show 2 ≤ sizeLine; decide), fun Q0 nQ => ?_⟩
          refine ⟨.ref s, rfl, s, c, _, _, rfl, S3.upd_new nQ, by omega, by decide, by decide, fun e2 H4 e0 e1 S4 K4 => ?_⟩
          have outQ : Q0 ∉ [s, c] := by simp [(S3.nes nQ).symm, (S3.nec nQ).symm]
          have eQ : H4 Q0 = some (.lst [.int ((xs.length : Int) - 1), .int a2]) := K4.at upd_same outQ
          have outP2 : P0 ∉ [s, c] := fun z => outP (hM.sc _ z)
          have eP3 : H3 P0 = some (.lst xs) := K3.at eP outP2
          have eP4 : H4 P0 = some (.lst xs) := K4.at (show (upd H3 Q0 _) P0 = some _ by rw [upd_ne (ne_of_none eP3 nQ)]; exact eP3) outP2
          have K14 : Kept [s, c] H1 H4 := (Kept.of_same s2).trans (K3.trans ((Kept.upd_new nQ).trans K4))
          obtain ⟨a, ha, hat⟩ : ∃ a : Nat, a < xs.length ∧ atI [V.int ((xs.length : Int) - 1), V.int a2] e2 = some (.int (a : Int)) := by
            have : e2 = 0 ∨ e2 = 1 := by omega
            rcases this with rfl | rfl
            · exact ⟨xs.length - 1, by omega, by show some (V.int ((xs.length : Int) - 1)) = _; rw [show ((xs.length : Int) - 1) = ((xs.length - 1 : Nat) : Int) by omega]⟩
            · exact ⟨a2.toNat, by omega, by show some (V.int a2) = _; rw [show a2 = ((a2.toNat : Nat) : Int) by omega]; rfl⟩
          refine ⟨Q0, _, _, _, rfl, rfl, .inl (.inl eQ), hat, _, _, rfl, ?_⟩
          have M4 := M1.kept K14 S4
          have N4 := N1.kept (K14.mono hM.sc)
          -- the items, out of reach of the copy
          have dpP : DpAll K (msk (P0 :: M) H4) xs ds := by
            have h1 : DpAll K (msk (P0 :: M) H1) xs ds := dpAll_same (msk_new nP1) (by
              have e := hd1
              rcases hX with ⟨rfl, _⟩ | ⟨rfl, _⟩
              · exact dpAll_same (Same.refl _) hA
              · exact dpAll_same (Same.refl _) hA)
            exact dpAll_same (msk_same (K14.mono fun z hz => List.mem_cons_of_mem _ (hM.sc z hz))) h1
          have dpM : DpAll K (msk M H4) xs ds := dpAll_same (msk_less fun z hz => List.mem_cons_of_mem _ hz) dpP
          clear hat eQ e0 e1 a0 a1
          -- the end: the things that are made of the items
          have mk : ∀ (B' : Bool) (u : V) (es : List PyData) (H5 : Hp), Dp K (msk M H5) u (if B' = true then .list es else .tuple es) → Pc (B + 2000000000) L ds es → StAt H5 s c (T + 4 * (n + 1)) → Kept [s, c] H1 H5 → Q u H5 := by
            intro B' u es H5 h1 pc S5 K5
            refine q u _ H5 h1 ?_ S5 (K1.trans K5)
            have nA : NiceAll (B + 2000000000) (L + 1) es := niceAll_iff.mpr fun e he => (pc.mem e he).1
            have dA : PyData.depthAll es ≤ PyData.depthAll ds + 1 := depthAll_le fun e he => (pc.mem e he).2
            have wA := pc.wt
            cases B' with
            | true => exact ⟨⟨pc.len, nA⟩, by show 6 + wtAll es ≤ _; omega, by show PyData.depthAll es + 1 ≤ _; omega⟩
            | false => exact ⟨⟨pc.len, nA⟩, by show 6 + wtAll es ≤ _; omega, by show PyData.depthAll es + 1 ≤ _; omega⟩
          have hd4 : ∀ H5, Kept [s, c] H1 H5 → Dp K H5 (.ref pd) d := fun H5 K5 => dp_same (msk_sub M H5) (dp_same (M1.same K5) hd1)
          have fin : ∀ (Z : Addr) (H5 : Hp) (ys : List V) (es : List PyData) (y6 y7 : Option V), H5 Z = some (.lst ys) → DpAll K (msk M H5) ys es → Z ∉ M → Pc (B + 2000000000) L ds es → StAt H5 s c (T + 4 * (n + 1)) → Mask M H5 s c → Kept [s, c] H1 H5 →
              tRet (tIf (tB (tCB (rIsi K) (tCons (tVar 1) (tCons (tC (.ty "list")) tNil)))) (tVar 4) (tCB (fun xs H Q => ∃ p ys, xs = [.ref p] ∧ ((SqL K H p ys ∧ ∀ l, H l = none → Q (.ref l) (upd H l (.tup ys))) ∨ (SqT K H p ys ∧ Q (.ref p) H))) (tCons (tVar 4) tNil)))
                { nx := fun x H' => Q V.non H', rt := Q } [some (.ref s), some (.ref pd), some (.ref p), some (.int way), some (.ref Z), some (.int a), y6, y7] H5 := by
            intro Z H5 ys es y6 y7 eZ dZ oZ pc S5 M5 K5
            refine ⟨.ref pd, rfl, .ref pd, .ty "list", _, _, _, rfl, .ty "list", dp_ty (hd4 H5 K5), kit_l d, _, rfl, ?_⟩
            cases hl : isLB d with
            | true =>
              refine iteT ⟨.ref Z, rfl, ?_⟩
              exact mk true _ es H5 (.lst (.inl (.inl (msk_at eZ oZ))) dZ) pc S5 K5
            | false =>
              refine iteF ⟨.ref Z, rfl, Z, ys, rfl, .inl ⟨.inl (.inl eZ), fun t nt => ?_⟩⟩
              exact mk false _ es _ (dp_tup_new M5 nt dZ) pc (S5.upd_new nt) (K5.trans (Kept.upd_new nt))
          have S4' : StAt H4 s c (T + 4 * (n + 1)) := S4.mono (by omega)
          have pcs : Pc (B + 2000000000) L ds ds := ⟨by omega, pc_mem fn, by omega⟩
          -- if way == 0
          refine ⟨.int way, rfl, rfl, _, rfl, ite2 (fun h0' => ?_) (fun _ => ?_)⟩
          · refine ⟨.ref pd, rfl, .ref pd, .ty "list", _, _, _, rfl, .ty "list", dp_ty (hd4 H4 K14), kit_l d, _, rfl, ?_⟩
            cases hl : isLB d with
            | true =>
              refine iteT ⟨.ref P0, rfl, P0, xs, rfl, .inl ⟨.inl (.inl eP4), fun t nt => ?_⟩⟩
              exact mk false _ ds _ (dp_tup_new M4 nt dpM) pcs (S4'.upd_new nt) (K14.trans (Kept.upd_new nt))
            | false =>
              refine iteF ⟨.ref P0, rfl, ?_⟩
              exact mk true _ ds H4 (.lst (.inl (.inl (msk_at eP4 outP))) dpM) pcs S4' K14
          -- ahead, behind
          refine ⟨.ref P0, rfl, .int a, rfl, _, rfl, P0, xs, rfl, .inl (.inl eP4), fun A0 nA => ?_⟩
          have nPA : P0 ≠ A0 := ne_of_none eP4 nA
          refine ⟨.ref P0, rfl, .int a, rfl, _, _, rfl, rfl, _, rfl, P0, xs, rfl, .inl (.inl (by rw [upd_ne nPA]; exact eP4)), fun B0 nB => ?_⟩
          have nAB : A0 ≠ B0 := ne_of_none upd_same nB
          have nPB : P0 ≠ B0 := ne_of_none (show (upd H4 A0 _) P0 = some _ by rw [upd_ne nPA]; exact eP4) nB
          have c2 : cutV xs (some ((a : Int) + 1)) none = xs.drop (a + 1) := cutV_hi xs (a + 1)
          refine ⟨_, _, rfl, ?_⟩
          have hA5 : (upd (upd H4 A0 (.lst (cutV xs none (some (a : Int))))) B0 (.lst (cutV xs (some ((a : Int) + 1)) none))) A0 = some (.lst (xs.take a)) := by rw [upd_ne nAB, upd_same, cutV_lo]
          have hB5 : (upd (upd H4 A0 (.lst (cutV xs none (some (a : Int))))) B0 (.lst (cutV xs (some ((a : Int) + 1)) none))) B0 = some (.lst (xs.drop (a + 1))) := by rw [upd_same, c2]
          have hP5 : (upd (upd H4 A0 (.lst (cutV xs none (some (a : Int))))) B0 (.lst (cutV xs (some ((a : Int) + 1)) none))) P0 = some (.lst xs) := by rw [upd_ne nPB, upd_ne nPA]; exact eP4
          have S5 := (S4.upd_new (o := .lst (cutV xs none (some (a : Int)))) nA).upd_new (o := .lst (cutV xs (some ((a : Int) + 1)) none)) nB
          have K45 : ∀ M', Kept M' H4 (upd (upd H4 A0 (.lst (cutV xs none (some (a : Int))))) B0 (.lst (cutV xs (some ((a : Int) + 1)) none))) := fun M' => (Kept.upd_new nA).trans (Kept.upd_new nB)
          have M5 : Mask M (upd (upd H4 A0 (.lst (cutV xs none (some (a : Int))))) B0 (.lst (cutV xs (some ((a : Int) + 1)) none))) s c := M4.up.up
          have D5 := dpAll_same (msk_same (K45 M)) dpM
          have D5P := dpAll_same (msk_same (K45 (P0 :: M))) dpP
          have N5 := N4.kept (K45 M)
          have K15 := K14.trans (K45 [s, c])
          show tSeq _ _ _ _ (upd (upd H4 A0 (.lst (cutV xs none (some (a : Int))))) B0 (.lst (cutV xs (some ((a : Int) + 1)) none)))
          generalize upd (upd H4 A0 (.lst (cutV xs none (some (a : Int))))) B0 (.lst (cutV xs (some ((a : Int) + 1)) none)) = H5 at hA5 hB5 hP5 S5 M5 D5 D5P N5 K15
          clear K45
          have lT : (xs.take a).length ≤ 800 := by rw [List.length_take]; omega
          have lD : ∀ k, (xs.drop k).length ≤ 800 := fun k => by rw [List.length_drop]; omega
          have S5' : StAt H5 s c (T + 4 * (n + 1)) := S5.mono (by omega)
          have lds : ds.length ≤ 800 := by omega
          have had : a < ds.length := by omega
          obtain ⟨x, hx⟩ : ∃ x, xs[a]? = some x := ⟨_, List.getElem?_eq_getElem ha⟩
          obtain ⟨dx, hdx, hDx⟩ := dpAll_get a D5 hx
          obtain ⟨_, hdx', hDxP⟩ := dpAll_get a D5P hx
          rw [hdx] at hdx'
          cases hdx'
          have mdx : dx ∈ ds := List.mem_of_getElem? hdx
          have wdx := wt_mem mdx
          have cut := wtAll_cut ds a
          have cut1 := wtAll_cut ds (a + 1)
          have cut2 := wtAll_cut ds (a + 2)
          have one' : wtAll (ds.take (a + 1)) = wtAll (ds.take a) + (wt dx + 3) := by
            rw [List.take_add_one, hdx, wtAll_app]; rfl
          have pm := pc_mem fn
          have inT : ∀ k, ∀ e ∈ ds.take k, Nice (B + 2000000000) (L + 1) e ∧ e.depth ≤ PyData.depthAll ds + 1 := fun k e he => pm e (List.mem_of_mem_take he)
          have inD : ∀ k, ∀ e ∈ ds.drop k, Nice (B + 2000000000) (L + 1) e ∧ e.depth ≤ PyData.depthAll ds + 1 := fun k e he => pm e (List.mem_of_mem_drop he)
          have two : ∀ {es fs : List PyData}, (∀ e ∈ es, Nice (B + 2000000000) (L + 1) e ∧ e.depth ≤ PyData.depthAll ds + 1) → (∀ e ∈ fs, Nice (B + 2000000000) (L + 1) e ∧ e.depth ≤ PyData.depthAll ds + 1) → ∀ e ∈ es ++ fs, Nice (B + 2000000000) (L + 1) e ∧ e.depth ≤ PyData.depthAll ds + 1 :=
            fun h1 h2 e he => (List.mem_append.mp he).elim (h1 e) (h2 e)
          refine ⟨.int way, rfl, rfl, _, rfl, ite2 (fun _ => ?_) (fun _ => ?_)⟩
          · -- ahead + behind
            refine ⟨.ref A0, rfl, .ref B0, rfl, A0, B0, _, _, rfl, rfl, hA5, hB5, small _ (by have := lD (a + 1); rw [List.length_take] at lT; rw [List.length_take, List.length_drop]; omega), fun Z nZ => ?_⟩
            refine fin Z _ _ (ds.take a ++ ds.drop (a + 1)) _ _ upd_same (dpAll_same (msk_same (Kept.upd_new nZ)) (dpAll_app (dpAll_take a D5) (dpAll_drop (a + 1) D5))) (M5.new nZ) ⟨?_, two (inT a) (inD (a + 1)), ?_⟩ (S5'.upd_new nZ) M5.up (K15.trans (Kept.upd_new nZ))
            · rw [List.length_append, List.length_take, List.length_drop]; omega
            · rw [wtAll_app]; omega
          refine ⟨.int way, rfl, rfl, _, rfl, ite2 (fun _ => ?_) (fun _ => ?_)⟩
          · -- ahead + [pieces[at]] + pieces[at:]
            refine ⟨.ref A0, rfl, .ref P0, rfl, .int a, rfl, P0, xs, _, x, rfl, rfl, .inl (.inl hP5), atI_nat hx, (by show 1 ≤ sizeLine; decide), fun O0 nO => ?_⟩
            refine ⟨A0, O0, _, _, rfl, rfl, (by rw [upd_ne (ne_of_none hA5 nO)]; exact hA5), upd_same, small _ (by rw [List.length_take]; show min a xs.length + 1 ≤ 1000; omega), fun R0 nR => ?_⟩
            have k1 : ∀ M', Kept M' H5 (upd (upd H5 O0 (.lst [x])) R0 (.lst (xs.take a ++ [x]))) := fun M' => (Kept.upd_new nO).trans (Kept.upd_new nR)
            refine ⟨.ref P0, rfl, .int a, rfl, _, rfl, P0, xs, rfl, .inl (.inl ((k1 []).at hP5 List.not_mem_nil)), fun W0 nW => ?_⟩
            have eW : ∀ (h : (upd (upd H5 O0 (.lst [x])) R0 (.lst (xs.take a ++ [x]))) W0 = none), R0 ≠ W0 := fun h => ne_of_none upd_same h
            refine ⟨R0, W0, xs.take a ++ [x], xs.drop a, rfl, rfl, (by rw [upd_ne (eW nW)]; exact upd_same), (by rw [upd_same, cutV_hi]), small _ (by rw [List.length_append, List.length_take, List.length_drop]; show min a xs.length + 1 + (xs.length - a) ≤ 1000; omega), fun Z nZ => ?_⟩
            have k2 : ∀ M', Kept M' H5 (upd (upd (upd (upd H5 O0 (.lst [x])) R0 (.lst (xs.take a ++ [x]))) W0 (.lst (cutV xs (some (a : Int)) none))) Z (.lst ((xs.take a ++ [x]) ++ xs.drop a))) := fun M' => (k1 M').trans ((Kept.upd_new nW).trans (Kept.upd_new nZ))
            refine fin Z _ _ ((ds.take a ++ [dx]) ++ ds.drop a) _ _ upd_same (dpAll_same (msk_same (k2 M)) (dpAll_app (dpAll_snoc (dpAll_take a D5) hDx) (dpAll_drop a D5))) ((M5.up.up.up (o := .lst _)).new nZ) ⟨?_, two (two (inT a) (fun e he => by rw [List.mem_singleton.mp he]; exact pm dx mdx)) (inD a), ?_⟩ (((S5'.upd_new nO).upd_new nR).upd_new nW |>.upd_new nZ) M5.up.up.up.up (K15.trans (k2 _))
            · rw [List.length_append, List.length_append, List.length_take, List.length_drop]; show min a ds.length + 1 + (ds.length - a) ≤ L + 1; omega
            · rw [wtAll_app, wtAll_app]; show wtAll (ds.take a) + (wt dx + 3 + 0) + wtAll (ds.drop a) ≤ _; omega
          refine ⟨.int way, rfl, rfl, _, rfl, ite2 (fun _ => ?_) (fun _ => ?_)⟩
          · -- ahead + pieces[at:at + 2][::-1] + pieces[at + 2:]
            refine ⟨.ref A0, rfl, .ref P0, rfl, .int a, rfl, _, rfl, .int a, rfl, _, _, rfl, rfl, _, rfl, P0, xs, rfl, .inl (.inl hP5), fun O0 nO => ?_⟩
            refine ⟨O0, (xs.drop a).take 2, rfl, .inl (.inl (by rw [upd_same]; exact congrArg (fun z => some (HO.lst z)) (cutV_mid xs a 2 (by omega)))), fun V0 nV => ?_⟩
            refine ⟨A0, V0, xs.take a, _, rfl, rfl, (by rw [upd_ne (ne_of_none (show (upd H5 O0 _) A0 = some _ by rw [upd_ne (ne_of_none hA5 nO)]; exact hA5) nV), upd_ne (ne_of_none hA5 nO)]; exact hA5), upd_same, small _ (by rw [List.length_reverse, List.length_take, List.length_take, List.length_drop]; omega), fun R0 nR => ?_⟩
            refine ⟨.ref P0, rfl, .int a, rfl, _, _, rfl, rfl, _, rfl, P0, xs, rfl, .inl (.inl (((Kept.upd_new (M := []) nO).trans ((Kept.upd_new nV).trans (Kept.upd_new nR))).at hP5 List.not_mem_nil)), fun W0 nW => ?_⟩
            refine ⟨R0, W0, xs.take a ++ ((xs.drop a).take 2).reverse, xs.drop (a + 2), rfl, rfl, (by rw [upd_ne (ne_of_none upd_same nW)]; exact upd_same), (by rw [upd_same]; exact congrArg (fun z => some (HO.lst z)) (cutV_hi xs (a + 2))), small _ (by rw [List.length_append, List.length_reverse, List.length_take, List.length_take, List.length_drop, List.length_drop]; omega), fun Z nZ => ?_⟩
            have cut3 := wtAll_cut (ds.drop a) 2
            have dd2 : (ds.drop a).drop 2 = ds.drop (a + 2) := by rw [List.drop_drop]
            rw [dd2] at cut3
            refine fin Z _ _ ((ds.take a ++ ((ds.drop a).take 2).reverse) ++ ds.drop (a + 2)) _ _ upd_same
              (dpAll_same (msk_same ((Kept.upd_new nO).trans ((Kept.upd_new nV).trans ((Kept.upd_new nR).trans ((Kept.upd_new nW).trans (Kept.upd_new nZ)))))) (dpAll_app (dpAll_app (dpAll_take a D5) (dpAll_rev (dpAll_take 2 (dpAll_drop a D5)))) (dpAll_drop (a + 2) D5)))
              (M5.up.up.up.up.new nZ) ⟨?_, two (two (inT a) (fun e he => inD a e (List.mem_of_mem_take (List.mem_reverse.mp he)))) (inD (a + 2)), ?_⟩ ((((S5'.upd_new nO).upd_new nV).upd_new nR).upd_new nW |>.upd_new nZ) M5.up.up.up.up.up
              (K15.trans ((Kept.upd_new nO).trans ((Kept.upd_new nV).trans ((Kept.upd_new nR).trans ((Kept.upd_new nW).trans (Kept.upd_new nZ))))))
            · rw [List.length_append, List.length_append, List.length_reverse, List.length_take, List.length_take, List.length_drop, List.length_drop]; omega
            · rw [wtAll_app, wtAll_app, wtAll_rev]; omega
          refine ⟨.int way, rfl, rfl, _, rfl, ite2 (fun _ => ?_) (fun _ => ?_)⟩
          · -- pieces[::-1]
            refine ⟨.ref P0, rfl, P0, xs, rfl, .inl (.inl hP5), fun Z nZ => ?_⟩
            refine fin Z _ _ ds.reverse _ _ upd_same (dpAll_same (msk_same (Kept.upd_new nZ)) (dpAll_rev D5)) (M5.new nZ) ⟨?_, fun e he => pm e (List.mem_reverse.mp he), ?_⟩ (S5'.upd_new nZ) M5.up (K15.trans (Kept.upd_new nZ))
            · rw [List.length_reverse]; omega
            · rw [wtAll_rev]; omega
          refine ⟨.int way, rfl, rfl, _, rfl, ite2 (fun _ => ?_) (fun _ => ?_)⟩
          · -- ahead + [other] + pieces[at:]
            refine ⟨.ref A0, rfl, .ref s, rfl, .ref p, rfl, M, s, c, p, T + 3, B, L, .non, .none, zs, rfl, S5, M5, by omega, .non, trivial, hB0, hB, (by show 4 ≤ 50000; decide), N5, fun u e H6 h6' g6 S6 K6 => ?_⟩
            have M6 := M5.kept K6 S6
            have hA6 : H6 A0 = some (.lst (xs.take a)) := K6.at hA5 (fun z => (M4.new nA) (hM.sc _ z))
            have hP6 : H6 P0 = some (.lst xs) := K6.at hP5 outP2
            have D6 := dpAll_same (M5.same K6) D5
            refine ⟨(by show 1 ≤ sizeLine; decide), fun O0 nO => ?_⟩
            refine ⟨A0, O0, _, _, rfl, rfl, (by rw [upd_ne (ne_of_none hA6 nO)]; exact hA6), upd_same, small _ (by rw [List.length_take]; show min a xs.length + 1 ≤ 1000; omega), fun R0 nR => ?_⟩
            have k1 : ∀ M', Kept M' H6 (upd (upd H6 O0 (.lst [u])) R0 (.lst (xs.take a ++ [u]))) := fun M' => (Kept.upd_new nO).trans (Kept.upd_new nR)
            refine ⟨.ref P0, rfl, .int a, rfl, _, rfl, P0, xs, rfl, .inl (.inl ((k1 []).at hP6 List.not_mem_nil)), fun W0 nW => ?_⟩
            refine ⟨R0, W0, xs.take a ++ [u], xs.drop a, rfl, rfl, (by rw [upd_ne (ne_of_none upd_same nW)]; exact upd_same), (by rw [upd_same, cutV_hi]), small _ (by rw [List.length_append, List.length_take, List.length_drop]; show min a xs.length + 1 + (xs.length - a) ≤ 1000; omega), fun Z nZ => ?_⟩
            have k2 : ∀ M', Kept M' H6 (upd (upd (upd (upd H6 O0 (.lst [u])) R0 (.lst (xs.take a ++ [u]))) W0 (.lst (cutV xs (some (a : Int)) none))) Z (.lst ((xs.take a ++ [u]) ++ xs.drop a))) := fun M' => (k1 M').trans ((Kept.upd_new nW).trans (Kept.upd_new nZ))
            have S6' : StAt H6 s c (T + 4 * (n + 1)) := S6.mono (by omega)
            have w6 : wt e ≤ 304 := g6.wt
            refine fin Z _ _ ((ds.take a ++ [e]) ++ ds.drop a) _ _ upd_same (dpAll_same (msk_same (k2 M)) (dpAll_app (dpAll_snoc (dpAll_take a D6) h6') (dpAll_drop a D6))) (M6.up.up.up.new nZ) ⟨?_, two (two (inT a) (fun e' he => by rw [List.mem_singleton.mp he]; exact ⟨g6.nice.mono (Nat.le_refl _) (by omega), Nat.le_trans g6.dep (by omega)⟩)) (inD a), ?_⟩ (((S6'.upd_new nO).upd_new nR).upd_new nW |>.upd_new nZ) M6.up.up.up.up ((K15.trans K6).trans (k2 _))
            · rw [List.length_append, List.length_append, List.length_take, List.length_drop]; show min a ds.length + 1 + (ds.length - a) ≤ L + 1; omega
            · rw [wtAll_app, wtAll_app]; show wtAll (ds.take a) + (wt e + 3 + 0) + wtAll (ds.drop a) ≤ _; omega
          · -- pieces[at] = bent(..)
            have ndx : Nice B L dx := niceAll_iff.mp fn dx mdx
            have ddx := depth_mem mdx
            have MP : Mask (P0 :: M) H5 s c := ⟨fun z hz => List.mem_cons_of_mem _ (hM.sc z hz), fun z hz => by
              rcases List.mem_cons.mp hz with rfl | hz
              · rw [hP5]; exact fun z => nomatch z
              · exact M5.tr z hz⟩
            have NP : NamesAt H5 (P0 :: M) p zs := ⟨fun z => by
              rcases List.mem_cons.mp z with z | z
              · have := N1.at'
                rw [z, nP1] at this
                cases this
              · exact N5.out z, N5.at', N5.ok, N5.len⟩
            refine ⟨.ref s, rfl, .ref P0, rfl, .int a, rfl, P0, xs, _, x, rfl, rfl, .inl (.inl hP5), atI_nat hx, .ref p, rfl, P0 :: M, s, c, p, T + 3, B, L, x, dx, zs, rfl, by omega, S5, MP, by omega, hDxP, ndx, hL, hB0, hB, by omega, NP, fun u e H6 h6' b6 S6 K6 => ?_⟩
            have hP6 : H6 P0 = some (.lst xs) := K6.at hP5 outP2
            have D6P := dpAll_same (MP.same K6) D5P
            have M6 := M5.kept K6 S6
            refine ⟨.ref P0, rfl, .int a, rfl, P0, xs, _, a, rfl, rfl, hP6, ixN_nat ha, ?_⟩
            have upM : ∀ {o : HO}, Same (msk (P0 :: M) H6) (msk M (upd H6 P0 o)) := fun {o} b o' e' => by
              have hb : b ∉ P0 :: M := fun z => by
                unfold msk at e'
                rw [if_pos z] at e'
                cases e'
              have e2 := msk_sub _ _ b o' e'
              refine msk_at (by rw [upd_ne (fun z => hb (by rw [z]; exact List.mem_cons_self ..))]; exact e2) fun z => hb (List.mem_cons_of_mem _ z)
            have S6' : StAt H6 s c (T + 4 * (n + 1)) := S6.mono (by omega)
            have nsP : s ≠ P0 := fun z => outP2 (by rw [← z]; exact List.mem_cons_self ..)
            have ncP : c ≠ P0 := fun z => outP2 (by rw [← z]; exact List.mem_cons_of_mem _ (List.mem_cons_self ..))
            have sets : wtAll (ds.set a e) = wtAll (ds.take a) + (wt e + 3) + wtAll (ds.drop (a + 1)) := by
              rw [List.set_eq_take_append_cons_drop, if_pos had, wtAll_app]
              show wtAll (ds.take a) + (wt e + 3 + wtAll (ds.drop (a + 1))) = _
              omega
            have w6 := b6.wt
            refine fin P0 _ _ (ds.set a e) _ _ upd_same (dpAll_same upM (dpAll_set h6' a D6P)) outP ⟨by rw [List.length_set]; omega, fun e' he => ?_, by rw [sets]; omega⟩ (S6'.upd nsP ncP) M6.up ?_
            · rcases List.mem_or_eq_of_mem_set he with he | rfl
              · exact pm e' he
              · exact ⟨b6.nice, by have := b6.dep; omega⟩
            · intro b o e' hb
              by_cases hbP : b = P0
              · rw [hbP, nP1] at e'; cases e'
              · rw [upd_ne hbP]
                exact (K15.trans K6) b o e' hb
theorem ok_bent {f : Addr} {fd : FuncData} (F : Fun K "_law_bent" "_law_bent" s_law_bent f fd) (nb : NB mg) (D_law_take : Def P w K mg base 1 "_law_take" ["state", "many"] spTake) (D_law_other : Def P w K mg base 3 "_law_other" ["state", "thing", "names"] (spOther K))
    (hm : mg "_law_bent" = some (.ref f)) (hb : Binds K fd ["state", "thing", "names"] []) : ∀ n : Nat, FnOk P w K mg base CX0 (3 + n) f fd ["state", "thing", "names"] (spBent n K)
  | 0 => ⟨fun vs H Q E h => by obtain ⟨M, s, c, p, T, B, L, v, d, zs, rfl, _⟩ := h; rfl, fun _ _ _ _ _ _ _ _ _ _ _ _ _ h => by
      obtain ⟨M, s, c, p, T, B, L, v, d, zs, rfl, hd, _⟩ := h
      exact absurd hd (Nat.not_lt_zero _)⟩
  | n + 1 => ok_bent1 F nb D_law_take D_law_other (.mk hm F.kp hb (ok_bent F nb D_law_take D_law_other hm hb n))
end
end TT

set_option Elab.async false
set_option linter.all false
set_option maxRecDepth 100000
namespace TT
open PySem PySem.Spec PyProof.Rows L2
/-! ### the tables' sizes -/
theorem name_nice {z : Str} (h : NameOk z) (B L : Nat) : Nice B L (.str z) ∧ wt (.str z) ≤ 92 := by
  have l : z.length ≤ 8 := h.top
  exact ⟨fun c hc => by have := h.low c hc; unfold low at this; omega, by show 10 * z.length + 12 ≤ 92; omega⟩
theorem w_nice : ∀ {o : Option Int}, WOk o → Nice 1000000000 8 (wD o) ∧ wt (wD o) ≤ 25 ∧ (wD o).depth = 0
  | none, _ => ⟨trivial, by show 4 ≤ 25; decide, rfl⟩
  | some i, h => ⟨by show i.natAbs ≤ 1000000000; have h' : -1000000000 ≤ i ∧ i ≤ 1000000000 := h; omega, Nat.le_refl _, rfl⟩
theorem col_nice {x : Col} (h1 : NameOk x.1) (h2 : WOk x.2) : Nice 1000000000 8 (colD x) ∧ wt (colD x) ≤ 129 ∧ (colD x).depth ≤ 1 := by
  obtain ⟨a1, a2⟩ := name_nice h1 1000000000 8
  obtain ⟨b1, b2, b3⟩ := w_nice h2
  refine ⟨⟨by show 2 ≤ 8; decide, a1, b1, trivial⟩, ?_, ?_⟩
  · show 6 + (wt (.str x.1) + 3 + (wt (wD x.2) + 3 + 0)) ≤ 129
    omega
  · show max 0 (max (wD x.2).depth 0) + 1 ≤ 1
    rw [b3]; decide
theorem sum_le {α : Type} {f : α → PyData} {n : Nat} : ∀ {l : List α}, (∀ x ∈ l, wt (f x) ≤ n) → wtAll (l.map f) ≤ l.length * (n + 3)
  | [], _ => Nat.zero_le _
  | x :: l, h => by
    have h1 := h x (List.mem_cons_self ..)
    have h2 := sum_le fun y hy => h y (List.mem_cons_of_mem x hy)
    show wt (f x) + 3 + wtAll (l.map f) ≤ (l.length + 1) * (n + 3)
    rw [Nat.add_mul]
    omega
theorem all_nice {α : Type} {f : α → PyData} {B L : Nat} {l : List α} (h : ∀ x ∈ l, Nice B L (f x)) : NiceAll B L (l.map f) := niceAll_iff.mpr fun d hd => by
  obtain ⟨x, hx, rfl⟩ := List.mem_map.mp hd
  exact h x hx
theorem all_depth {α : Type} {f : α → PyData} {n : Nat} {l : List α} (h : ∀ x ∈ l, (f x).depth ≤ n) : PyData.depthAll (l.map f) ≤ n := depthAll_le fun d hd => by
  obtain ⟨x, hx, rfl⟩ := List.mem_map.mp hd
  exact h x hx
theorem tab_nice {n : Nat} {x : Tab} (hn : n ≤ 8) (h1 : NameOk x.1) (h2 : ColsOk n x.2) : Nice 1000000000 8 (tabD x) ∧ wt (tabD x) ≤ 1166 ∧ (tabD x).depth ≤ 3 := by
  obtain ⟨a1, a2⟩ := name_nice h1 1000000000 8
  have cn := fun y hy => col_nice (h2.nm y hy) (h2.w y hy)
  have l8 : x.2.length ≤ 8 := Nat.le_trans h2.top hn
  have ws := sum_le (f := colD) (n := 129) fun y hy => (cn y hy).2.1
  refine ⟨⟨by show 2 ≤ 8; decide, a1, ⟨by rw [List.length_map]; exact l8, all_nice fun y hy => (cn y hy).1⟩, trivial⟩, ?_, ?_⟩
  · show 6 + (wt (.str x.1) + 3 + ((6 + wtAll (x.2.map colD)) + 3 + 0)) ≤ 1166
    have : x.2.length * (129 + 3) ≤ 8 * 132 := Nat.mul_le_mul_right _ l8
    omega
  · have := all_depth (f := colD) (n := 1) fun y hy => (cn y hy).2.2
    show max 0 (max (PyData.depthAll (x.2.map colD) + 1) 0) + 1 ≤ 3
    omega
theorem tabs_nice {n : Nat} {ts : List Tab} (hn : n ≤ 8) (hl : ts.length ≤ 8) (h : TabsOk n ts) : Nice 1000000000 8 (.tuple (ts.map tabD)) ∧ wt (.tuple (ts.map tabD)) ≤ 10000 ∧ (PyData.tuple (ts.map tabD)).depth ≤ 4 := by
  have tn := fun y hy => tab_nice hn (h.nm y hy) (h.cs y hy).1
  have ws := sum_le (f := tabD) (n := 1166) fun y hy => (tn y hy).2.1
  refine ⟨⟨by rw [List.length_map]; exact hl, all_nice fun y hy => (tn y hy).1⟩, ?_, ?_⟩
  · show 6 + wtAll (ts.map tabD) ≤ 10000
    have : ts.length * (1166 + 3) ≤ 8 * 1169 := Nat.mul_le_mul_right _ hl
    omega
  · have := all_depth (f := tabD) (n := 3) fun y hy => (tn y hy).2.2
    show PyData.depthAll (ts.map tabD) + 1 ≤ 4
    omega
theorem mask2 {H : Hp} {s c : Addr} {T : Nat} (S : StAt H s c T) : Mask [s, c] H s c := ⟨fun _ h => h, fun p hp z => by
  simp only [List.mem_cons, List.not_mem_nil, or_false] at hp
  rcases hp with rfl | rfl
  · obtain ⟨t, _, e⟩ := S.ex
    rw [z] at e; cases e
  · obtain ⟨ns, _, _, e⟩ := S.cs
    rw [z] at e; cases e⟩
section
variable {P : Program} {w : World} {K : PySem.W.Frag} {mg : Str → Option Value} {base : Heap}
def spLaw (K : PySem.W.Frag) : Sp := fun vs H Q _ => ∃ (a : Addr) (ns : List Int), vs = [.ref a] ∧ SqL K H a (ns.map V.int) ∧ ∀ H', Q (.bl true) H'
abbrev s_law : Stmt := topS 32
abbrev N_law : List Str := ["script", "state", "size", "tables", "names", "turn", "thing", "table", "column"]
theorem sc_law : FnScope N_law ["script"] (defScope s_law) := ⟨rfl, rfl, rfl, by decide +kernel, rfl, by decide +kernel, by decide +kernel⟩

theorem ok_law {f : Addr} {fd : FuncData} (F : Fun K "law" "law" s_law f fd) (nb : NB mg) (D_law_begin : Def P w K mg base 1 "_law_begin" ["script"] (spBegin K)) (D_law_take : Def P w K mg base 1 "_law_take" ["state", "many"] spTake) (D_law_tables : Def P w K mg base 3 "_law_tables" ["state", "many", "wide"] (spTables K))
    (D_law_other : Def P w K mg base 3 "_law_other" ["state", "thing", "names"] (spOther K)) (D_law_bent : Def P w K mg base 10 "_law_bent" ["state", "thing", "names"] (spBent 7 K)) (D_law_told_right : DefG P w K mg base 8 "_law_told_right" ["thing"] (spTold K)) :
    FnG P w K mg base CX0 11 f fd ["script"] (spLaw K) := by
  refine okG F sc_law (fun vs H Q E h => ?_) (fun cdv A outer sh H vs Q E hr hg h => ?_)
  · obtain ⟨a, ns, rfl, _⟩ := h
    rfl
  · obtain ⟨a, ns, rfl, hS, q⟩ := h
    have nd := sc_law.nd
    have hu := hu_of hr
    refine ⟨_, (pss_cons (ps_set (i := 1) nd rfl (Or.inl rfl) (pe_own D_law_begin hr (pa_cons (pv 0) pa_nil)))
      (pss_cons (ps_set (i := 2) nd rfl (Or.inl rfl) (pe_callB (call_min2 rfl) (by rfl) nb.b_min (by decide +kernel) (pa_cons pe_int (pa_cons (pe_own D_law_take hr (pa_cons (pv 1) (pa_cons pe_int pa_nil))) pa_nil))))
      (pss_cons (ps_set (i := 3) nd rfl (Or.inl rfl) (pe_own D_law_tables hr (pa_cons (pv 1) (pa_cons (pe_ix ix_list (pe_lst (pa_cons pe_int (pa_cons pe_int (pa_cons pe_int (pa_cons (pe_op op_add pe_int (pe_own D_law_take hr (pa_cons (pv 1) (pa_cons pe_int pa_nil)))) pa_nil))))) (pv 2) (fun _ _ => rfl)) (pa_cons (pe_ix ix_list (pe_lst (pa_cons pe_int (pa_cons pe_int (pa_cons pe_int (pa_cons pe_int pa_nil))))) (pv 2) (fun _ _ => rfl)) pa_nil)))))
      (pss_cons (ps_if (PW.pt (pw_or (pt_not (pt_val (pe_ownG D_law_told_right hg hr (pa_cons (pv 3) pa_nil)))) (pw_or1 (pt_not (pt_val (pe_ownG D_law_told_right hg hr (pa_cons (pe_tup pa_nil) pa_nil)))))))
        (pss_one (ps_ret pe_bl))
        pss_nil)
      (pss_cons (ps_set (i := 4) nd rfl (Or.inl rfl) (pe_op op_cat (pe_lc (own := [("table", 7)]) (g := (gName 7)) (tt := tYes) rfl nd (pi_tup (pv 3)) (blkOk_by (N := N_law) (sc := defScope s_law) (by decide +kernel)) (fun _ _ _ _ _ => (pg_name (i := 7) nd rfl (Or.inl rfl))) (fun _ _ _ _ _ => pts_nil) (fun _ _ _ _ _ => (pe_ix (r := rIxT K) ix_tup (pv 7) pe_int (fun _ _ => rfl)))) (pe_lc (own := [("column", 8)]) (g := (gName 8)) (tt := tYes) rfl nd (pi_tup (pe_ix ix_seq (pe_ix ix_tup (pv 3) pe_int (fun _ _ => rfl)) pe_int (fun _ _ => rfl))) (blkOk_by (N := N_law) (sc := defScope s_law) (by decide +kernel)) (fun _ _ _ _ _ => (pg_name (i := 8) nd rfl (Or.inl rfl))) (fun _ _ _ _ _ => pts_nil) (fun _ _ _ _ _ => (pe_ix (r := rIxT K) ix_tup (pv 8) pe_int (fun _ _ => rfl))))))
      (pss_cons (ps_for PassesOwn.never rfl (pi_range1 (by rfl) nb.b_range (pa_cons pe_int pa_nil)) (pg_name (i := 5) nd rfl (Or.inl rfl))
        (pss_cons (ps_set (i := 6) nd rfl (Or.inl rfl) (pe_own D_law_bent hr (pa_cons (pv 1) (pa_cons (pv 3) (pa_cons (pv 4) pa_nil)))))
        (pss_cons (ps_if (pt_cmpR op_eq (pe_own D_law_take hr (pa_cons (pv 1) (pa_cons pe_int pa_nil))) pe_int (nomark _))
          (pss_one (ps_set (i := 6) nd rfl (Or.inl rfl) (pe_own D_law_bent hr (pa_cons (pv 1) (pa_cons (pv 6) (pa_cons (pv 4) pa_nil))))))
          pss_nil)
        (pss_one (ps_if (PW.pt (pw_or (pt_not (pt_val (pe_ownG D_law_told_right hg hr (pa_cons (pv 6) pa_nil)))) (pw_or1 (pt_not (pt_val (pe_ownG D_law_told_right hg hr (pa_cons (pe_own D_law_other hr (pa_cons (pv 1) (pa_cons pe_int (pa_cons (pv 4) pa_nil)))) pa_nil)))))))
          (pss_one (ps_ret pe_bl))
          pss_nil)))))
      (pss_one (ps_ret pe_bl)))))))), ?_⟩
    -- state, size
    refine ⟨.ref a, rfl, a, ns, rfl, hS, fun s c H1 S1 _ _ _ => ?_⟩
    refine ⟨.ref s, rfl, s, c, 0, _, rfl, S1, by decide, by decide, by decide, fun d H2 d0 d1 S2 _ => ⟨_, _, rfl, ?_⟩⟩
    -- tables
    refine ⟨.ref s, rfl, .ref s, rfl, s, c, 1, _, rfl, S2, by decide, by decide, by decide, fun e H3 e0 e1 S3 _ => ⟨_, _, rfl, rfl, (by show 4 ≤ sizeLine; decide), fun p1 n1 => ?_⟩⟩
    have S4 := S3.upd_new (o := .lst [.int 6, .int 7, .int 2, .int (1 + e)]) n1
    obtain ⟨m, n, hm, hm0, hn, hn0, hat1, hat2⟩ : ∃ m n : Nat, m ≤ 8 ∧ 0 < m ∧ n ≤ 8 ∧ 0 < n ∧ atI [V.int 6, V.int 7, V.int 2, V.int (1 + e)] (if d < 3 then d else 3) = some (.int (m : Int)) ∧ atI [V.int 5, V.int 2, V.int 6, V.int 5] (if d < 3 then d else 3) = some (.int (n : Int)) := by
      have : d = 0 ∨ d = 1 ∨ d = 2 ∨ ¬ d < 3 := by omega
      rcases this with rfl | rfl | rfl | h
      · exact ⟨6, 5, by decide, by decide, by decide, by decide, rfl, rfl⟩
      · exact ⟨7, 2, by decide, by decide, by decide, by decide, rfl, rfl⟩
      · exact ⟨2, 6, by decide, by decide, by decide, by decide, rfl, rfl⟩
      · rw [if_neg h]
        refine ⟨(1 + e).toNat, 5, by omega, by omega, by decide, by decide, ?_, rfl⟩
        show some (V.int (1 + e)) = _
        rw [show (1 + e) = (((1 + e).toNat : Nat) : Int) by omega]; rfl
    refine ⟨_, rfl, p1, _, _, _, rfl, rfl, .inl (.inl upd_same), hat1, (by show 4 ≤ sizeLine; decide), fun p2 n2 => ?_⟩
    have S5 := S4.upd_new (o := .lst [.int 5, .int 2, .int 6, .int 5]) n2
    refine ⟨_, rfl, p2, _, _, _, rfl, rfl, .inl (.inl upd_same), hat2, s, c, 2, m, n, rfl, S5, by decide, hm, hn0, hn, fun tp ts H6 lts okts _ dts S6 _ => ?_⟩
    obtain ⟨niceT, wtT, depT⟩ := tabs_nice hn (by omega) okts
    -- told right: the tables; ()
    have told : ∀ {B L : Nat} {v : V} {d : PyData} {H : Hp}, Dp K (msk [s, c] H) v d → Nice B L d → B ≤ 10 ^ 12 → L ≤ 900 → d.depth ≤ 60 → wt d ≤ 100000 → Dp K H v d ∧ Fit d ∧ Shows d := fun {B L v d H} h1 h2 hB hL h3 h4 =>
      ⟨dp_same (msk_sub _ _) h1, fit_nice hL h2 h4, shows_nice h2 (Nat.le_trans hB (by decide)) h3 h4⟩
    obtain ⟨t1, t2, t3⟩ := told dts niceT (by decide) (by decide) (by omega) (by omega)
    refine ⟨.ref tp, rfl, .ref tp, _, rfl, t1, t2, t3, fun H7 s7 => ⟨_, rfl, iteF ?_⟩⟩
    refine ⟨Nat.zero_le _, fun pe ne => ?_⟩
    refine ⟨.ref pe, .tuple [], rfl, .tup (.inl (.inl upd_same)) .nil, ⟨Nat.zero_le _, trivial⟩, shows_nice (B := 1) (L := 1) ⟨Nat.zero_le _, trivial⟩ (by decide) (by show 1 ≤ 60; decide) (by show 6 ≤ 100000; decide), fun H8 s8 => ⟨_, rfl, iteF ?_⟩⟩
    have s68 : Same H6 H8 := s7.trans ((same_upd ne).trans s8)
    have S8 := S6.same s68
    have d8 := dp_same (msk_same (Kept.of_same (M := [s, c]) s68)) dts
    clear t1 t2 t3 s7 ne s8 s68 dts S6 S5 S4 n1 n2 hat1 hat2 S3 S2 S1
    -- names
    obtain ⟨xs, hST, hAT⟩ : ∃ xs, SqT K (msk [s, c] H8) tp xs ∧ DpAll K (msk [s, c] H8) xs (ts.map tabD) := by
      cases d8 with
      | tup h1 h2 => exact ⟨_, h1, h2⟩
    have lxs : xs.length = ts.length := by rw [dpAll_len hAT, List.length_map]
    have atT : ∀ {i : Nat} {x : V}, xs[i]? = some x → ∃ (t : Tab) (q1 : Addr) (y : V), ts[i]? = some t ∧ x = .ref q1 ∧ SqT K (msk [s, c] H8) q1 [.str t.1, y] ∧ Dp K (msk [s, c] H8) y (.tuple (t.2.map colD)) := by
      intro i x hx
      obtain ⟨dd, h1, h2⟩ := dpAll_get i hAT hx
      rw [List.getElem?_map] at h1
      obtain ⟨t, ht, rfl⟩ := Option.map_eq_some_iff.mp h1
      cases h2 with
      | tup g1 g2 =>
        cases g2 with
        | cons g3 g4 =>
          cases g4 with
          | cons g5 g6 =>
            cases g6
            cases g3
            exact ⟨t, _, _, ht, rfl, g1, g5⟩
    refine ⟨.ref tp, rfl, tp, rfl, ⟨_, sameT (msk_sub _ _) hST⟩, fun D1 nD1 => ?_⟩
    refine lc_it walk_tup (PvM H8 D1 fun i => .str ((ts.map (·.1)).getD i Str.empty)) (pvm_start ..) (fun i H9 _ hP => sameT ((msk_sub _ _).trans (pvm_same hP nD1)) hST) (fun i x H9 H10 hi hP hY => ?_) (fun H9 hP => ?_)
    · obtain ⟨rfl, hx⟩ := hY
      obtain ⟨t, q1, y, ht, rfl, hq1, _⟩ := atT hx
      refine ⟨rfl, ?_⟩
      unfold tYes
      dsimp only
      refine iteT ?_
      refine ⟨.ref q1, rfl, q1, _, 0, .str t.1, rfl, rfl, sameT ((msk_sub _ _).trans (pvm_same hP nD1)) hq1, rfl, pvm_step hP (Same.refl _) ?_ (by omega)⟩
      show V.str t.1 = .str ((ts.map (·.1)).getD i Str.empty)
      rw [getD_of (show (ts.map (·.1))[i]? = some t.1 by rw [List.getElem?_map, ht]; rfl)]
    have s9 := pvm_same hP nD1
    obtain ⟨t0, r0, rfl⟩ : ∃ t0 r0, ts = t0 :: r0 := by
      cases ts with
      | nil => exact absurd lts (by show ¬ 0 = m; omega)
      | cons a r => exact ⟨a, r, rfl⟩
    obtain ⟨x0, hx0, _⟩ := dpAll_at (i := 0) hAT rfl
    obtain ⟨t, q0, y0, ht, rfl, hq0, hy0⟩ := atT hx0
    cases ht
    obtain ⟨pc, ys, rfl, hSC, hAC⟩ : ∃ pc ys, y0 = .ref pc ∧ SqT K (msk [s, c] H8) pc ys ∧ DpAll K (msk [s, c] H8) ys (t0.2.map colD) := by
      cases hy0 with
      | tup h1 h2 => exact ⟨_, _, rfl, h1, h2⟩
    have lys : ys.length = t0.2.length := by rw [dpAll_len hAC, List.length_map]
    have ok0 := okts.cs t0 (List.mem_cons_self ..)
    have l02 : t0.2.length ≤ 8 := Nat.le_trans ok0.1.top hn
    refine ⟨.ref tp, rfl, tp, xs, 0, .ref q0, rfl, rfl, sameT ((msk_sub _ _).trans s9) hST, atI_nat (j := 0) hx0, .inr (.inl ⟨q0, _, 1, .ref pc, rfl, rfl, sameT ((msk_sub _ _).trans s9) hq0, rfl, pc, rfl, ⟨_, sameT ((msk_sub _ _).trans s9) hSC⟩, fun D2 nD2 => ?_⟩)⟩
    refine lc_it walk_tup (PvM H9 D2 fun i => .str ((t0.2.map (·.1)).getD i Str.empty)) (pvm_start ..) (fun i H10 _ hP2 => sameT (((msk_sub _ _).trans s9).trans (pvm_same hP2 nD2)) hSC) (fun i x H10 H11 hi hP2 hY => ?_) (fun H10 hP2 => ?_)
    · obtain ⟨rfl, hx⟩ := hY
      obtain ⟨dd, h1, h2⟩ := dpAll_get i hAC hx
      rw [List.getElem?_map] at h1
      obtain ⟨co, hco, rfl⟩ := Option.map_eq_some_iff.mp h1
      obtain ⟨qc, yc, rfl, hqc⟩ : ∃ qc yc, x = .ref qc ∧ SqT K (msk [s, c] H8) qc [.str co.1, yc] := by
        cases h2 with
        | tup g1 g2 =>
          cases g2 with
          | cons g3 g4 =>
            cases g4 with
            | cons g5 g6 =>
              cases g6
              cases g3
              exact ⟨_, _, rfl, g1⟩
      refine ⟨rfl, ?_⟩
      unfold tYes
      dsimp only
      refine iteT ?_
      refine ⟨.ref qc, rfl, qc, _, 0, .str co.1, rfl, rfl, sameT (((msk_sub _ _).trans s9).trans (pvm_same hP2 nD2)) hqc, rfl, pvm_step hP2 (Same.refl _) ?_ (by omega)⟩
      show V.str co.1 = .str ((t0.2.map (·.1)).getD i Str.empty)
      rw [getD_of (show (t0.2.map (·.1))[i]? = some co.1 by rw [List.getElem?_map, hco]; rfl)]
    have s10 := pvm_same hP2 nD2
    have lr0 : (t0 :: r0).length ≤ 8 := by omega
    have eD1 : H10 D1 = some (.lst (((t0 :: r0).map (·.1)).map V.str)) := by
      refine s10 _ _ ?_
      rw [hP.1]
      have e := range_map (fun z => V.str z) Str.empty ((t0 :: r0).map (·.1))
      rw [List.length_map, ← lxs] at e
      rw [e]
    have eD2 : H10 D2 = some (.lst ((t0.2.map (·.1)).map V.str)) := by
      rw [hP2.1]
      have e := range_map (fun z => V.str z) Str.empty (t0.2.map (·.1))
      rw [List.length_map, ← lys] at e
      rw [e]
    refine ⟨D1, D2, _, _, rfl, rfl, eD1, eD2, Nat.le_of_lt (small1000 (by simp only [List.length_map]; omega)), fun Ln nLn => ?_⟩
    have s810 : Same H8 (upd H10 Ln (.lst ((((t0 :: r0).map (·.1)).map V.str) ++ ((t0.2.map (·.1)).map V.str)))) := (s9.trans s10).trans (same_upd nLn)
    have S11 := S8.same s810
    have d11 := dp_same (msk_same (Kept.of_same (M := [s, c]) s810)) d8
    have nLn8 : H8 Ln = none := Same.free (s9.trans s10) nLn
    have N11 : NamesAt (upd H10 Ln (.lst ((((t0 :: r0).map (·.1)).map V.str) ++ ((t0.2.map (·.1)).map V.str)))) [s, c] Ln ((t0 :: r0).map (·.1) ++ t0.2.map (·.1)) := by
      refine ⟨(mask2 S8).new nLn8, by rw [upd_same, List.map_append], fun z hz => ?_, by rw [List.length_append, List.length_map, List.length_map]; omega⟩
      rcases List.mem_append.mp hz with h | h
      · obtain ⟨t, ht, rfl⟩ := List.mem_map.mp h
        exact okts.nm t ht
      · obtain ⟨co, hco, rfl⟩ := List.mem_map.mp h
        exact ok0.1.nm co hco
    generalize upd H10 Ln (.lst ((((t0 :: r0).map (·.1)).map V.str) ++ ((t0.2.map (·.1)).map V.str))) = H12 at S11 d11 N11 ⊢
    generalize (t0 :: r0).map (·.1) ++ t0.2.map (·.1) = zs at N11
    clear eD1 eD2 hP2 nD2 s10 hP nD1 s9 nLn s810 nLn8 d8 S8 hAC hSC hy0 hq0 hx0 atT hST hAT
    -- for turn in range(30)
    refine ⟨30, rfl, by decide, by decide, ?_⟩
    refine for_range (lo := 0) (n := (30 : Int).toNat) (fun i σ H' => (∃ y2 y5 y6, σ = [some (.ref a), some (.ref s), y2, some (.ref tp), some (.ref Ln), y5, y6, none, none]) ∧ Dp K (msk [s, c] H') (.ref tp) (.tuple ((t0 :: r0).map tabD)) ∧ NamesAt H' [s, c] Ln zs ∧ StAt H' s c (1002 + i * 60)) ⟨⟨_, _, _, rfl⟩, d11, N11, S11⟩ (fun i σ H13 hi hP => ?_) (fun σ H13 hP => ?_)
    · obtain ⟨⟨y2, y5, y6, rfl⟩, dT, NT, ST⟩ := hP
      have hi : i < 30 := hi
      -- thing = bent(state, tables, names)
      refine ⟨.ref s, rfl, .ref tp, rfl, .ref Ln, rfl, [s, c], s, c, Ln, _, 1000000000, 8, _, _, zs, rfl, by omega, ST, mask2 ST, by omega, dT, niceT, by decide, by decide, by decide, by omega, NT, fun u1 b1 H14 h14 t14 S14 K14 => ?_⟩
      have dT14 := dp_same (msk_same K14) dT
      have NT14 := NT.kept K14
      have w1 : wt b1 ≤ 32000 := by have := t14.wt; omega
      have dp1 : b1.depth ≤ 5 := by have := t14.dep; omega
      have rest : ∀ (u : V) (b : PyData) (H15 : Hp) (y5 : Option V), Dp K (msk [s, c] H15) u b → Nice 5000000000 10 b → wt b ≤ 100000 → b.depth ≤ 6 → Dp K (msk [s, c] H15) (.ref tp) (.tuple ((t0 :: r0).map tabD)) → NamesAt H15 [s, c] Ln zs → StAt H15 s c (1002 + i * 60 + 58) →
          tIfS (tOr (tNot (tB (tCall (spTold K) [] E0 (tCons (tVar 6) tNil)))) (tNot (tB (tCall (spTold K) [] E0 (tCons (tCall (spOther K) [] E0 (tCons (tVar 1) (tCons (tC (.int 3)) (tCons (tVar 4) tNil)))) tNil))))) (tRet (tC (.bl false))) tNext
            { nx := fun σ H' => (∃ y2 y5 y6, σ = [some (.ref a), some (.ref s), y2, some (.ref tp), some (.ref Ln), y5, y6, none, none]) ∧ Dp K (msk [s, c] H') (.ref tp) (.tuple ((t0 :: r0).map tabD)) ∧ NamesAt H' [s, c] Ln zs ∧ StAt H' s c (1002 + (i + 1) * 60), rt := Q, bk := fun _ _ => Q (.bl true) H, ct := fun _ _ => True }
            [some (.ref a), some (.ref s), y2, some (.ref tp), some (.ref Ln), y5, some u, none, none] H15 := by
        intro u b H15 y5 h15 n15 w15 dd15 dT15 NT15 S15
        obtain ⟨t1, t2, t3⟩ := told h15 n15 (by decide) (by decide) (by omega) w15
        refine ⟨u, rfl, u, b, rfl, t1, t2, t3, fun H16 s16 => ⟨_, rfl, iteF ?_⟩⟩
        have S16 := S15.same s16
        have k16 := Kept.of_same (M := [s, c]) s16
        refine ⟨.ref s, rfl, .ref Ln, rfl, [s, c], s, c, Ln, _, 1000000000, 8, .int 3, .int 3, zs, rfl, S16, mask2 S16, by omega, .int 3, by show 3 ≤ 1000000000; decide, by decide, by decide, by show 25 ≤ 50000; decide, NT15.kept k16, fun u2 b2 H17 h17 g17 S17 K17 => ?_⟩
        obtain ⟨t4, t5, t6⟩ := told h17 g17.nice (by decide) (by decide) (by have := g17.dep; omega) (by have := g17.wt; have e : wt (.int 3) = 25 := rfl; omega)
        refine ⟨u2, b2, rfl, t4, t5, t6, fun H18 s18 => ⟨_, rfl, iteF ?_⟩⟩
        have k18 := (k16.trans K17).trans (Kept.of_same (M := [s, c]) s18)
        exact ⟨⟨_, _, _, rfl⟩, dp_same (msk_same k18) dT15, NT15.kept k18, (S17.same s18).mono (by omega)⟩
      refine ⟨.ref s, rfl, s, c, _, _, rfl, S14, by omega, by decide, by decide, fun d H15 d0 d1 S15 K15 => ⟨rfl, _, rfl, ite2 (fun _ => ?_) (fun _ => ?_)⟩⟩
      · have h15 := dp_same (msk_same K15) h14
        refine ⟨.ref s, rfl, u1, rfl, .ref Ln, rfl, [s, c], s, c, Ln, _, 3000000000, 9, _, _, zs, rfl, by omega, S15, mask2 S15, by omega, h15, t14.nice, by decide, by decide, by decide, by omega, NT14.kept K15, fun u2 b2 H16 h16 t16 S16 K16 => ?_⟩
        exact rest u2 b2 H16 _ h16 t16.nice (by have := t16.wt; omega) (by have := t16.dep; omega) (dp_same (msk_same (K15.trans K16)) dT14) (NT14.kept (K15.trans K16)) (S16.mono (by omega))
      · exact rest u1 b1 H15 _ (dp_same (msk_same K15) h14) (t14.nice.mono (by decide) (by decide)) (by omega) (by omega) (dp_same (msk_same K15) dT14) (NT14.kept K15) (S15.mono (by omega))
    · obtain ⟨⟨y2, y5, y6, rfl⟩, _⟩ := hP
      exact q _
end
end TT

set_option Elab.async false
set_option linter.all false
set_option maxRecDepth 100000
namespace TT
open PySem PySem.Spec PyProof.Rows L2
/-! ### what the top has written; the law's own head -/
theorem all_mk {l : PySem.W.OpenLaw} {w : World} {K : PySem.W.Frag} {h : Heap} {mg : Str → Option Value} {fa f1 f2 f3 f4 f5 f6 f7 f8 f9 f10 f11 f12 f13 f14 f15 f16 f17 f18 f19 f20 f21 f22 f23 f24 f25 f26 : Addr} (X : K.In h) (G : h.Ns mainGlobals mg) (hfa : mg "law" = some (.ref fa))
    {od1 an1 od2 an2 od3 an3 od4 an4 od5 an5 od6 an6 od7 an7 od8 an8 od9 an9 od10 an10 od11 an11 od12 an12 od13 an13 od14 an14 od15 an15 od16 an16 od17 an17 od18 an18 od19 an19 od20 an20 od21 an21 od22 an22 od23 an23 od24 an24 od25 an25 od26 an26 : Option Addr} {sl1 sl2 sl3 sl4 sl5 sl6 sl7 sl8 sl9 sl10 sl11 sl12 sl13 sl14 sl15 sl16 sl17 sl18 sl19 sl20 sl21 sl22 sl23 sl24 sl25 sl26 : Array (Option Value)} {oc1 kV1 dc1 pm1 cd1 ct1 oc2 kV2 dc2 pm2 cd2 ct2 oc3 kV3 dc3 pm3 cd3 ct3 oc4 kV4 dc4 pm4 cd4 ct4 oc5 kV5 dc5 pm5 cd5 ct5 oc6 kV6 dc6 pm6 cd6 ct6 oc7 kV7 dc7 pm7 cd7 ct7 oc8 kV8 dc8 pm8 cd8 ct8 oc9 kV9 dc9 pm9 cd9 ct9 oc10 kV10 dc10 pm10 cd10 ct10 oc11 kV11 dc11 pm11 cd11 ct11 oc12 kV12 dc12 pm12 cd12 ct12 oc13 kV13 dc13 pm13 cd13 ct13 oc14 kV14 dc14 pm14 cd14 ct14 oc15 kV15 dc15 pm15 cd15 ct15 oc16 kV16 dc16 pm16 cd16 ct16 oc17 kV17 dc17 pm17 cd17 ct17 oc18 kV18 dc18 pm18 cd18 ct18 oc19 kV19 dc19 pm19 cd19 ct19 oc20 kV20 dc20 pm20 cd20 ct20 oc21 kV21 dc21 pm21 cd21 ct21 oc22 kV22 dc22 pm22 cd22 ct22 oc23 kV23 dc23 pm23 cd23 ct23 oc24 kV24 dc24 pm24 cd24 ct24 oc25 kV25 dc25 pm25 cd25 ct25 oc26 kV26 dc26 pm26 cd26 ct26 : Value}
    (a1 : PySem.W.nsIn K mainGlobals "_law_begin" = some (some (.ref f1))) (l1 : K.lookup f1 = some ⟨oc1, od1, .func (PySem.W.fnOf "_law_begin" "_law_begin" (defArgs s_law_begin) (defBody s_law_begin) (defScope s_law_begin) .none kV1 dc1 pm1 an1 cd1 ct1), sl1⟩) (c1 : PySem.W.codeIn K cd1 "_law_begin" = true) (k1 : PySem.W.keepIn K (.ref f1) = true)
    (a2 : PySem.W.nsIn K mainGlobals "_law_take" = some (some (.ref f2))) (l2 : K.lookup f2 = some ⟨oc2, od2, .func (PySem.W.fnOf "_law_take" "_law_take" (defArgs s_law_take) (defBody s_law_take) (defScope s_law_take) .none kV2 dc2 pm2 an2 cd2 ct2), sl2⟩) (c2 : PySem.W.codeIn K cd2 "_law_take" = true) (k2 : PySem.W.keepIn K (.ref f2) = true)
    (a3 : PySem.W.nsIn K mainGlobals "_law_some" = some (some (.ref f3))) (l3 : K.lookup f3 = some ⟨oc3, od3, .func (PySem.W.fnOf "_law_some" "_law_some" (defArgs s_law_some) (defBody s_law_some) (defScope s_law_some) .none kV3 dc3 pm3 an3 cd3 ct3), sl3⟩) (c3 : PySem.W.codeIn K cd3 "_law_some" = true) (k3 : PySem.W.keepIn K (.ref f3) = true)
    (a4 : PySem.W.nsIn K mainGlobals "_law_names" = some (some (.ref f4))) (l4 : K.lookup f4 = some ⟨oc4, od4, .func (PySem.W.fnOf "_law_names" "_law_names" (defArgs s_law_names) (defBody s_law_names) (defScope s_law_names) .none kV4 dc4 pm4 an4 cd4 ct4), sl4⟩) (c4 : PySem.W.codeIn K cd4 "_law_names" = true) (k4 : PySem.W.keepIn K (.ref f4) = true)
    (a5 : PySem.W.nsIn K mainGlobals "_law_worth" = some (some (.ref f5))) (l5 : K.lookup f5 = some ⟨oc5, od5, .func (PySem.W.fnOf "_law_worth" "_law_worth" (defArgs s_law_worth) (defBody s_law_worth) (defScope s_law_worth) .none kV5 dc5 pm5 an5 cd5 ct5), sl5⟩) (c5 : PySem.W.codeIn K cd5 "_law_worth" = true) (k5 : PySem.W.keepIn K (.ref f5) = true)
    (a6 : PySem.W.nsIn K mainGlobals "_law_tables" = some (some (.ref f6))) (l6 : K.lookup f6 = some ⟨oc6, od6, .func (PySem.W.fnOf "_law_tables" "_law_tables" (defArgs s_law_tables) (defBody s_law_tables) (defScope s_law_tables) .none kV6 dc6 pm6 an6 cd6 ct6), sl6⟩) (c6 : PySem.W.codeIn K cd6 "_law_tables" = true) (k6 : PySem.W.keepIn K (.ref f6) = true)
    (a7 : PySem.W.nsIn K mainGlobals "is_number" = some (some (.ref f7))) (l7 : K.lookup f7 = some ⟨oc7, od7, .func (PySem.W.fnOf "is_number" "is_number" (defArgs s_is_number) (defBody s_is_number) (defScope s_is_number) .none kV7 dc7 pm7 an7 cd7 ct7), sl7⟩) (c7 : PySem.W.codeIn K cd7 "is_number" = true) (k7 : PySem.W.keepIn K (.ref f7) = true)
    (a8 : PySem.W.nsIn K mainGlobals "is_bounded" = some (some (.ref f8))) (l8 : K.lookup f8 = some ⟨oc8, od8, .func (PySem.W.fnOf "is_bounded" "is_bounded" (defArgs s_is_bounded) (defBody s_is_bounded) (defScope s_is_bounded) .none kV8 dc8 pm8 an8 cd8 ct8), sl8⟩) (c8 : PySem.W.codeIn K cd8 "is_bounded" = true) (k8 : PySem.W.keepIn K (.ref f8) = true)
    (a9 : PySem.W.nsIn K mainGlobals "is_worth" = some (some (.ref f9))) (l9 : K.lookup f9 = some ⟨oc9, od9, .func (PySem.W.fnOf "is_worth" "is_worth" (defArgs s_is_worth) (defBody s_is_worth) (defScope s_is_worth) .none kV9 dc9 pm9 an9 cd9 ct9), sl9⟩) (c9 : PySem.W.codeIn K cd9 "is_worth" = true) (k9 : PySem.W.keepIn K (.ref f9) = true)
    (a10 : PySem.W.nsIn K mainGlobals "is_tuple" = some (some (.ref f10))) (l10 : K.lookup f10 = some ⟨oc10, od10, .func (PySem.W.fnOf "is_tuple" "is_tuple" (defArgs s_is_tuple) (defBody s_is_tuple) (defScope s_is_tuple) .none kV10 dc10 pm10 an10 cd10 ct10), sl10⟩) (c10 : PySem.W.codeIn K cd10 "is_tuple" = true) (k10 : PySem.W.keepIn K (.ref f10) = true)
    (a11 : PySem.W.nsIn K mainGlobals "are_unlike" = some (some (.ref f11))) (l11 : K.lookup f11 = some ⟨oc11, od11, .func (PySem.W.fnOf "are_unlike" "are_unlike" (defArgs s_are_unlike) (defBody s_are_unlike) (defScope s_are_unlike) .none kV11 dc11 pm11 an11 cd11 ct11), sl11⟩) (c11 : PySem.W.codeIn K cd11 "are_unlike" = true) (k11 : PySem.W.keepIn K (.ref f11) = true)
    (a12 : PySem.W.nsIn K mainGlobals "is_name" = some (some (.ref f12))) (l12 : K.lookup f12 = some ⟨oc12, od12, .func (PySem.W.fnOf "is_name" "is_name" (defArgs s_is_name) (defBody s_is_name) (defScope s_is_name) .none kV12 dc12 pm12 an12 cd12 ct12), sl12⟩) (c12 : PySem.W.codeIn K cd12 "is_name" = true) (k12 : PySem.W.keepIn K (.ref f12) = true)
    (a13 : PySem.W.nsIn K mainGlobals "_is_column" = some (some (.ref f13))) (l13 : K.lookup f13 = some ⟨oc13, od13, .func (PySem.W.fnOf "_is_column" "_is_column" (defArgs s_is_column) (defBody s_is_column) (defScope s_is_column) .none kV13 dc13 pm13 an13 cd13 ct13), sl13⟩) (c13 : PySem.W.codeIn K cd13 "_is_column" = true) (k13 : PySem.W.keepIn K (.ref f13) = true)
    (a14 : PySem.W.nsIn K mainGlobals "table_names" = some (some (.ref f14))) (l14 : K.lookup f14 = some ⟨oc14, od14, .func (PySem.W.fnOf "table_names" "table_names" (defArgs s_table_names) (defBody s_table_names) (defScope s_table_names) .none kV14 dc14 pm14 an14 cd14 ct14), sl14⟩) (c14 : PySem.W.codeIn K cd14 "table_names" = true) (k14 : PySem.W.keepIn K (.ref f14) = true)
    (a15 : PySem.W.nsIn K mainGlobals "_is_columns" = some (some (.ref f15))) (l15 : K.lookup f15 = some ⟨oc15, od15, .func (PySem.W.fnOf "_is_columns" "_is_columns" (defArgs s_is_columns) (defBody s_is_columns) (defScope s_is_columns) .none kV15 dc15 pm15 an15 cd15 ct15), sl15⟩) (c15 : PySem.W.codeIn K cd15 "_is_columns" = true) (k15 : PySem.W.keepIn K (.ref f15) = true)
    (a16 : PySem.W.nsIn K mainGlobals "_is_table" = some (some (.ref f16))) (l16 : K.lookup f16 = some ⟨oc16, od16, .func (PySem.W.fnOf "_is_table" "_is_table" (defArgs s_is_table) (defBody s_is_table) (defScope s_is_table) .none kV16 dc16 pm16 an16 cd16 ct16), sl16⟩) (c16 : PySem.W.codeIn K cd16 "_is_table" = true) (k16 : PySem.W.keepIn K (.ref f16) = true)
    (a17 : PySem.W.nsIn K mainGlobals "is_tables" = some (some (.ref f17))) (l17 : K.lookup f17 = some ⟨oc17, od17, .func (PySem.W.fnOf "is_tables" "is_tables" (defArgs s_is_tables) (defBody s_is_tables) (defScope s_is_tables) .none kV17 dc17 pm17 an17 cd17 ct17), sl17⟩) (c17 : PySem.W.codeIn K cd17 "is_tables" = true) (k17 : PySem.W.keepIn K (.ref f17) = true)
    (a18 : PySem.W.nsIn K mainGlobals "_law_number" = some (some (.ref f18))) (l18 : K.lookup f18 = some ⟨oc18, od18, .func (PySem.W.fnOf "_law_number" "_law_number" (defArgs s_law_number) (defBody s_law_number) (defScope s_law_number) .none kV18 dc18 pm18 an18 cd18 ct18), sl18⟩) (c18 : PySem.W.codeIn K cd18 "_law_number" = true) (k18 : PySem.W.keepIn K (.ref f18) = true)
    (a19 : PySem.W.nsIn K mainGlobals "_law_is_worth" = some (some (.ref f19))) (l19 : K.lookup f19 = some ⟨oc19, od19, .func (PySem.W.fnOf "_law_is_worth" "_law_is_worth" (defArgs s_law_is_worth) (defBody s_law_is_worth) (defScope s_law_is_worth) .none kV19 dc19 pm19 an19 cd19 ct19), sl19⟩) (c19 : PySem.W.codeIn K cd19 "_law_is_worth" = true) (k19 : PySem.W.keepIn K (.ref f19) = true)
    (a20 : PySem.W.nsIn K mainGlobals "_law_name" = some (some (.ref f20))) (l20 : K.lookup f20 = some ⟨oc20, od20, .func (PySem.W.fnOf "_law_name" "_law_name" (defArgs s_law_name) (defBody s_law_name) (defScope s_law_name) .none kV20 dc20 pm20 an20 cd20 ct20), sl20⟩) (c20 : PySem.W.codeIn K cd20 "_law_name" = true) (k20 : PySem.W.keepIn K (.ref f20) = true)
    (a21 : PySem.W.nsIn K mainGlobals "_law_is_table" = some (some (.ref f21))) (l21 : K.lookup f21 = some ⟨oc21, od21, .func (PySem.W.fnOf "_law_is_table" "_law_is_table" (defArgs s_law_is_table) (defBody s_law_is_table) (defScope s_law_is_table) .none kV21 dc21 pm21 an21 cd21 ct21), sl21⟩) (c21 : PySem.W.codeIn K cd21 "_law_is_table" = true) (k21 : PySem.W.keepIn K (.ref f21) = true)
    (a22 : PySem.W.nsIn K mainGlobals "_law_due" = some (some (.ref f22))) (l22 : K.lookup f22 = some ⟨oc22, od22, .func (PySem.W.fnOf "_law_due" "_law_due" (defArgs s_law_due) (defBody s_law_due) (defScope s_law_due) .none kV22 dc22 pm22 an22 cd22 ct22), sl22⟩) (c22 : PySem.W.codeIn K cd22 "_law_due" = true) (k22 : PySem.W.keepIn K (.ref f22) = true)
    (a23 : PySem.W.nsIn K mainGlobals "_law_told_right" = some (some (.ref f23))) (l23 : K.lookup f23 = some ⟨oc23, od23, .func (PySem.W.fnOf "_law_told_right" "_law_told_right" (defArgs s_law_told_right) (defBody s_law_told_right) (defScope s_law_told_right) .none kV23 dc23 pm23 an23 cd23 ct23), sl23⟩) (c23 : PySem.W.codeIn K cd23 "_law_told_right" = true) (k23 : PySem.W.keepIn K (.ref f23) = true)
    (a24 : PySem.W.nsIn K mainGlobals "_law_other" = some (some (.ref f24))) (l24 : K.lookup f24 = some ⟨oc24, od24, .func (PySem.W.fnOf "_law_other" "_law_other" (defArgs s_law_other) (defBody s_law_other) (defScope s_law_other) .none kV24 dc24 pm24 an24 cd24 ct24), sl24⟩) (c24 : PySem.W.codeIn K cd24 "_law_other" = true) (k24 : PySem.W.keepIn K (.ref f24) = true)
    (a25 : PySem.W.nsIn K mainGlobals "_law_bent" = some (some (.ref f25))) (l25 : K.lookup f25 = some ⟨oc25, od25, .func (PySem.W.fnOf "_law_bent" "_law_bent" (defArgs s_law_bent) (defBody s_law_bent) (defScope s_law_bent) .none kV25 dc25 pm25 an25 cd25 ct25), sl25⟩) (c25 : PySem.W.codeIn K cd25 "_law_bent" = true) (k25 : PySem.W.keepIn K (.ref f25) = true)
    (a26 : PySem.W.nsIn K mainGlobals "law" = some (some (.ref f26))) (l26 : K.lookup f26 = some ⟨oc26, od26, .func (PySem.W.fnOf "law" "law" (defArgs s_law) (defBody s_law) (defScope s_law) .none kV26 dc26 pm26 an26 cd26 ct26), sl26⟩) (c26 : PySem.W.codeIn K cd26 "law" = true) (k26 : PySem.W.keepIn K (.ref f26) = true)
    (z_list : PySem.W.nsIn K mainGlobals "list" = some none)
    (z_len : PySem.W.nsIn K mainGlobals "len" = some none)
    (z_divmod : PySem.W.nsIn K mainGlobals "divmod" = some none)
    (z_range : PySem.W.nsIn K mainGlobals "range" = some none)
    (z_min : PySem.W.nsIn K mainGlobals "min" = some none)
    (z_int : PySem.W.nsIn K mainGlobals "int" = some none)
    (z_bool : PySem.W.nsIn K mainGlobals "bool" = some none)
    (z_str : PySem.W.nsIn K mainGlobals "str" = some none)
    (z_tuple : PySem.W.nsIn K mainGlobals "tuple" = some none)
    (z_all : PySem.W.nsIn K mainGlobals "all" = some none)
    (z_any : PySem.W.nsIn K mainGlobals "any" = some none)
    (z_repr : PySem.W.nsIn K mainGlobals "repr" = some none)
    (z_isinstance : PySem.W.nsIn K mainGlobals "isinstance" = some none)
    (z_zip : PySem.W.nsIn K mainGlobals "zip" = some none)
    (z_enumerate : PySem.W.nsIn K mainGlobals "enumerate" = some none)
    (z_set : PySem.W.nsIn K mainGlobals "set" = some none)
    (z_sum : PySem.W.nsIn K mainGlobals "sum" = some none)
    (z_sorted : PySem.W.nsIn K mainGlobals "sorted" = some none)
    (z_max : PySem.W.nsIn K mainGlobals "max" = some none)
    (g_MOST_LETTERS : ∃ u, PySem.W.nsIn K mainGlobals "MOST_LETTERS" = some (some (.int 8 u)))
    (g_MOST_NUMBER : ∃ u, PySem.W.nsIn K mainGlobals "MOST_NUMBER" = some (some (.int 1000000000 u)))
    (g_MOST_TABLES : ∃ u, PySem.W.nsIn K mainGlobals "MOST_TABLES" = some (some (.int 6 u)))
    (g_MOST_COLUMNS : ∃ u, PySem.W.nsIn K mainGlobals "MOST_COLUMNS" = some (some (.int 5 u)))
    : ∃ fd : FuncData, (∀ (s : Shared) (v : Value), BindsTo s fd ⟨[v], []⟩ [("script", v)]) ∧ ∀ base : Heap, K.In base → base.Ns mainGlobals mg → FnG l.prog w K mg base CX0 11 fa fd ["script"] (spLaw K) := by
  have e := hfa.symm.trans (PySem.W.mg_of X G a26)
  cases e
  have nb : NB mg := ⟨PySem.W.mg_none_of X G z_list, PySem.W.mg_none_of X G z_len, PySem.W.mg_none_of X G z_divmod, PySem.W.mg_none_of X G z_range, PySem.W.mg_none_of X G z_min, PySem.W.mg_none_of X G z_int, PySem.W.mg_none_of X G z_bool, PySem.W.mg_none_of X G z_str, PySem.W.mg_none_of X G z_tuple, PySem.W.mg_none_of X G z_all, PySem.W.mg_none_of X G z_any, PySem.W.mg_none_of X G z_repr, PySem.W.mg_none_of X G z_isinstance, PySem.W.mg_none_of X G z_zip, PySem.W.mg_none_of X G z_enumerate, PySem.W.mg_none_of X G z_set, PySem.W.mg_none_of X G z_sum, PySem.W.mg_none_of X G z_sorted, PySem.W.mg_none_of X G z_max⟩
  have gc : GC mg := ⟨(let ⟨u, hu⟩ := g_MOST_LETTERS; ⟨u, PySem.W.mg_of X G hu⟩), (let ⟨u, hu⟩ := g_MOST_NUMBER; ⟨u, PySem.W.mg_of X G hu⟩), (let ⟨u, hu⟩ := g_MOST_TABLES; ⟨u, PySem.W.mg_of X G hu⟩), (let ⟨u, hu⟩ := g_MOST_COLUMNS; ⟨u, PySem.W.mg_of X G hu⟩)⟩
  refine ⟨PySem.W.fnOf "law" "law" (defArgs s_law) (defBody s_law) (defScope s_law) .none kV26 dc26 pm26 an26 cd26 ct26, fun s v => .of_eq rfl, fun base _ _ => ?_⟩
  have F1 := fun_mk (st := s_law_begin) l1 c1 k1
  have b1 := F1.binds (ps := ["script"]) fun _ _ _ _ _ _ us hl => match us, hl with | [_], _ => rfl
  have D_law_begin : Def l.prog w K mg base 1 "_law_begin" ["script"] (spBegin K) := .mk (PySem.W.mg_of X G a1) k1 b1 (ok_begin F1 nb)
  have F2 := fun_mk (st := s_law_take) l2 c2 k2
  have b2 := F2.binds (ps := ["state", "many"]) fun _ _ _ _ _ _ us hl => match us, hl with | [_, _], _ => rfl
  have D_law_take : Def l.prog w K mg base 1 "_law_take" ["state", "many"] spTake := .mk (PySem.W.mg_of X G a2) k2 b2 (ok_take F2 nb)
  have F3 := fun_mk (st := s_law_some) l3 c3 k3
  have b3 := F3.binds (ps := ["state", "things"]) fun _ _ _ _ _ _ us hl => match us, hl with | [_, _], _ => rfl
  have D_law_some : Def l.prog w K mg base 2 "_law_some" ["state", "things"] (spSome K) := .mk (PySem.W.mg_of X G a3) k3 b3 (ok_some F3 nb D_law_take)
  have F4 := fun_mk (st := s_law_names) l4 c4 k4
  have b4 := F4.binds (ps := ["state", "many"]) fun _ _ _ _ _ _ us hl => match us, hl with | [_, _], _ => rfl
  have D_law_names : Def l.prog w K mg base 2 "_law_names" ["state", "many"] spNames := .mk (PySem.W.mg_of X G a4) k4 b4 (ok_names F4 nb D_law_take)
  have F5 := fun_mk (st := s_law_worth) l5 c5 k5
  have b5 := F5.binds (ps := ["state"]) fun _ _ _ _ _ _ us hl => match us, hl with | [_], _ => rfl
  have D_law_worth : Def l.prog w K mg base 2 "_law_worth" ["state"] spWorth := .mk (PySem.W.mg_of X G a5) k5 b5 (ok_worth F5 D_law_take)
  have F6 := fun_mk (st := s_law_tables) l6 c6 k6
  have b6 := F6.binds (ps := ["state", "many", "wide"]) fun _ _ _ _ _ _ us hl => match us, hl with | [_, _, _], _ => rfl
  have D_law_tables : Def l.prog w K mg base 3 "_law_tables" ["state", "many", "wide"] (spTables K) := .mk (PySem.W.mg_of X G a6) k6 b6 (ok_tables F6 nb D_law_take D_law_names D_law_worth)
  have F7 := fun_mk (st := s_is_number) l7 c7 k7
  have b7 := F7.binds (ps := ["thing"]) fun _ _ _ _ _ _ us hl => match us, hl with | [_], _ => rfl
  have D_is_number : Def l.prog w K mg base 1 "is_number" ["thing"] (spB numB K) := .mk (PySem.W.mg_of X G a7) k7 b7 (ok_is_number F7 nb)
  have F8 := fun_mk (st := s_is_bounded) l8 c8 k8
  have b8 := F8.binds (ps := ["thing"]) fun _ _ _ _ _ _ us hl => match us, hl with | [_], _ => rfl
  have D_is_bounded : Def l.prog w K mg base 2 "is_bounded" ["thing"] (spB boundB K) := .mk (PySem.W.mg_of X G a8) k8 b8 (ok_is_bounded F8 gc D_is_number)
  have F9 := fun_mk (st := s_is_worth) l9 c9 k9
  have b9 := F9.binds (ps := ["thing"]) fun _ _ _ _ _ _ us hl => match us, hl with | [_], _ => rfl
  have D_is_worth : Def l.prog w K mg base 3 "is_worth" ["thing"] (spB worthB K) := .mk (PySem.W.mg_of X G a9) k9 b9 (ok_is_worth F9 D_is_bounded)
  have F10 := fun_mk (st := s_is_tuple) l10 c10 k10
  have b10 := F10.binds (ps := ["thing", "least", "most"]) fun _ _ _ _ _ _ us hl => match us, hl with | [_, _, _], _ => rfl
  have D_is_tuple : Def l.prog w K mg base 1 "is_tuple" ["thing", "least", "most"] (spTup K) := .mk (PySem.W.mg_of X G a10) k10 b10 (ok_is_tuple F10 nb)
  have F11 := fun_mk (st := s_are_unlike) l11 c11 k11
  have b11 := F11.binds (ps := ["names"]) fun _ _ _ _ _ _ us hl => match us, hl with | [_], _ => rfl
  have D_are_unlike : Def l.prog w K mg base 1 "are_unlike" ["names"] (spUnlike K) := .mk (PySem.W.mg_of X G a11) k11 b11 (ok_are_unlike F11 nb)
  have F12 := fun_mk (st := s_is_name) l12 c12 k12
  have b12 := F12.binds (ps := ["thing"]) fun _ _ _ _ _ _ us hl => match us, hl with | [_], _ => rfl
  have D_is_name : Def l.prog w K mg base 1 "is_name" ["thing"] (spB nameB K) := .mk (PySem.W.mg_of X G a12) k12 b12 (ok_is_name F12 nb gc)
  have F13 := fun_mk (st := s_is_column) l13 c13 k13
  have b13 := F13.binds (ps := ["thing"]) fun _ _ _ _ _ _ us hl => match us, hl with | [_], _ => rfl
  have D_is_column : Def l.prog w K mg base 4 "_is_column" ["thing"] (spB colB K) := .mk (PySem.W.mg_of X G a13) k13 b13 (ok_is_column F13 D_is_tuple D_is_name D_is_worth)
  have F14 := fun_mk (st := s_table_names) l14 c14 k14
  have b14 := F14.binds (ps := ["tables"]) fun _ _ _ _ _ _ us hl => match us, hl with | [_], _ => rfl
  have D_table_names : Def l.prog w K mg base 1 "table_names" ["tables"] (spNamesOf K) := .mk (PySem.W.mg_of X G a14) k14 b14 (ok_table_names F14)
  have F15 := fun_mk (st := s_is_columns) l15 c15 k15
  have b15 := F15.binds (ps := ["thing"]) fun _ _ _ _ _ _ us hl => match us, hl with | [_], _ => rfl
  have D_is_columns : Def l.prog w K mg base 5 "_is_columns" ["thing"] (spB colsB K) := .mk (PySem.W.mg_of X G a15) k15 b15 (ok_is_columns F15 nb gc D_is_tuple D_is_column D_are_unlike)
  have F16 := fun_mk (st := s_is_table) l16 c16 k16
  have b16 := F16.binds (ps := ["thing"]) fun _ _ _ _ _ _ us hl => match us, hl with | [_], _ => rfl
  have D_is_table : Def l.prog w K mg base 6 "_is_table" ["thing"] (spB tabB K) := .mk (PySem.W.mg_of X G a16) k16 b16 (ok_is_table F16 D_is_tuple D_is_name D_is_columns)
  have F17 := fun_mk (st := s_is_tables) l17 c17 k17
  have b17 := F17.binds (ps := ["thing"]) fun _ _ _ _ _ _ us hl => match us, hl with | [_], _ => rfl
  have D_is_tables : Def l.prog w K mg base 7 "is_tables" ["thing"] (spB tabsB K) := .mk (PySem.W.mg_of X G a17) k17 b17 (ok_is_tables F17 nb gc D_is_tuple D_is_table D_are_unlike D_table_names)
  have F18 := fun_mk (st := s_law_number) l18 c18 k18
  have b18 := F18.binds (ps := ["thing"]) fun _ _ _ _ _ _ us hl => match us, hl with | [_], _ => rfl
  have D_law_number : Def l.prog w K mg base 1 "_law_number" ["thing"] (spB numB K) := .mk (PySem.W.mg_of X G a18) k18 b18 (ok_law_number F18 nb)
  have F19 := fun_mk (st := s_law_is_worth) l19 c19 k19
  have b19 := F19.binds (ps := ["thing"]) fun _ _ _ _ _ _ us hl => match us, hl with | [_], _ => rfl
  have D_law_is_worth : Def l.prog w K mg base 2 "_law_is_worth" ["thing"] (spB worthB K) := .mk (PySem.W.mg_of X G a19) k19 b19 (ok_law_is_worth F19 D_law_number)
  have F20 := fun_mk (st := s_law_name) l20 c20 k20
  have b20 := F20.binds (ps := ["thing"]) fun _ _ _ _ _ _ us hl => match us, hl with | [_], _ => rfl
  have D_law_name : Def l.prog w K mg base 1 "_law_name" ["thing"] (spB nameB K) := .mk (PySem.W.mg_of X G a20) k20 b20 (ok_law_name F20 nb)
  have F21 := fun_mk (st := s_law_is_table) l21 c21 k21
  have b21 := F21.binds (ps := ["table"]) fun _ _ _ _ _ _ us hl => match us, hl with | [_], _ => rfl
  have D_law_is_table : Def l.prog w K mg base 3 "_law_is_table" ["table"] (spB tabB K) := .mk (PySem.W.mg_of X G a21) k21 b21 (ok_law_is_table F21 nb D_law_name D_law_is_worth)
  have F22 := fun_mk (st := s_law_due) l22 c22 k22
  have b22 := F22.binds (ps := ["thing"]) fun _ _ _ _ _ _ us hl => match us, hl with | [_], _ => rfl
  have D_law_due : Def l.prog w K mg base 4 "_law_due" ["thing"] (spB tabsB K) := .mk (PySem.W.mg_of X G a22) k22 b22 (ok_law_due F22 nb D_law_is_table)
  have F23 := fun_mk (st := s_law_told_right) l23 c23 k23
  have b23 := F23.binds (ps := ["thing"]) fun _ _ _ _ _ _ us hl => match us, hl with | [_], _ => rfl
  have D_law_told_right : DefG l.prog w K mg base 8 "_law_told_right" ["thing"] (spTold K) := .mk (PySem.W.mg_of X G a23) k23 b23 (ok_law_told_right F23 nb D_is_tables D_law_due)
  have F24 := fun_mk (st := s_law_other) l24 c24 k24
  have b24 := F24.binds (ps := ["state", "thing", "names"]) fun _ _ _ _ _ _ us hl => match us, hl with | [_, _, _], _ => rfl
  have D_law_other : Def l.prog w K mg base 3 "_law_other" ["state", "thing", "names"] (spOther K) := .mk (PySem.W.mg_of X G a24) k24 b24 (ok_other F24 nb D_law_some)
  have F25 := fun_mk (st := s_law_bent) l25 c25 k25
  have b25 := F25.binds (ps := ["state", "thing", "names"]) fun _ _ _ _ _ _ us hl => match us, hl with | [_, _, _], _ => rfl
  have D_law_bent : Def l.prog w K mg base 10 "_law_bent" ["state", "thing", "names"] (spBent 7 K) := .mk (PySem.W.mg_of X G a25) k25 b25 (ok_bent F25 nb D_law_take D_law_other (PySem.W.mg_of X G a25) b25 7)
  have F26 := fun_mk (st := s_law) l26 c26 k26
  exact ok_law F26 nb D_law_begin D_law_take D_law_tables D_law_other D_law_bent D_law_told_right
end TT
open PySem PySem.W PyProof.Rows
set_option maxRecDepth 100000 in
set_option maxHeartbeats 0 in
theorem PySem.Challenge.cw_tiedtables_k01_what_tables_are_holds : PySem.Challenge.rw_tiedtables_k01_what_tables_are.Holds := by
  w_on; o_law; k_head; (case hw => w_witness2)
  k_fill
  refine TT.walk_ofG (l := PySem.Challenge.rw_tiedtables_k01_what_tables_are) (n := 63) (k := 11) (x := "script") (sp := TT.spLaw) rfl (by decide) rfl ⟨rfl, by decide, by decide⟩ (fun w h Y => PySem.W.kIn_of Y) ?F (fun K H a ns hl hO hS => ⟨a, ns, rfl, hS, fun _ => rfl⟩)
  case F =>
    intro w mg fa h KX G hmg
    refine' TT.all_mk KX G hmg ?a1 ?l1 ?c1 ?k1 ?a2 ?l2 ?c2 ?k2 ?a3 ?l3 ?c3 ?k3 ?a4 ?l4 ?c4 ?k4 ?a5 ?l5 ?c5 ?k5 ?a6 ?l6 ?c6 ?k6 ?a7 ?l7 ?c7 ?k7 ?a8 ?l8 ?c8 ?k8 ?a9 ?l9 ?c9 ?k9 ?a10 ?l10 ?c10 ?k10 ?a11 ?l11 ?c11 ?k11 ?a12 ?l12 ?c12 ?k12 ?a13 ?l13 ?c13 ?k13 ?a14 ?l14 ?c14 ?k14 ?a15 ?l15 ?c15 ?k15 ?a16 ?l16 ?c16 ?k16 ?a17 ?l17 ?c17 ?k17 ?a18 ?l18 ?c18 ?k18 ?a19 ?l19 ?c19 ?k19 ?a20 ?l20 ?c20 ?k20 ?a21 ?l21 ?c21 ?k21 ?a22 ?l22 ?c22 ?k22 ?a23 ?l23 ?c23 ?k23 ?a24 ?l24 ?c24 ?k24 ?a25 ?l25 ?c25 ?k25 ?a26 ?l26 ?c26 ?k26 ?z_list ?z_len ?z_divmod ?z_range ?z_min ?z_int ?z_bool ?z_str ?z_tuple ?z_all ?z_any ?z_repr ?z_isinstance ?z_zip ?z_enumerate ?z_set ?z_sum ?z_sorted ?z_max ?g_MOST_LETTERS ?g_MOST_NUMBER ?g_MOST_TABLES ?g_MOST_COLUMNS
    (case a1 => k_is)
    (case l1 => k_is)
    (case c1 => k_is)
    (case k1 => k_is)
    (case a2 => k_is)
    (case l2 => k_is)
    (case c2 => k_is)
    (case k2 => k_is)
    (case a3 => k_is)
    (case l3 => k_is)
    (case c3 => k_is)
    (case k3 => k_is)
    (case a4 => k_is)
    (case l4 => k_is)
    (case c4 => k_is)
    (case k4 => k_is)
    (case a5 => k_is)
    (case l5 => k_is)
    (case c5 => k_is)
    (case k5 => k_is)
    (case a6 => k_is)
    (case l6 => k_is)
    (case c6 => k_is)
    (case k6 => k_is)
    (case a7 => k_is)
    (case l7 => k_is)
    (case c7 => k_is)
    (case k7 => k_is)
    (case a8 => k_is)
    (case l8 => k_is)
    (case c8 => k_is)
    (case k8 => k_is)
    (case a9 => k_is)
    (case l9 => k_is)
    (case c9 => k_is)
    (case k9 => k_is)
    (case a10 => k_is)
    (case l10 => k_is)
    (case c10 => k_is)
    (case k10 => k_is)
    (case a11 => k_is)
    (case l11 => k_is)
    (case c11 => k_is)
    (case k11 => k_is)
    (case a12 => k_is)
    (case l12 => k_is)
    (case c12 => k_is)
    (case k12 => k_is)
    (case a13 => k_is)
    (case l13 => k_is)
    (case c13 => k_is)
    (case k13 => k_is)
    (case a14 => k_is)
    (case l14 => k_is)
    (case c14 => k_is)
    (case k14 => k_is)
    (case a15 => k_is)
    (case l15 => k_is)
    (case c15 => k_is)
    (case k15 => k_is)
    (case a16 => k_is)
    (case l16 => k_is)
    (case c16 => k_is)
    (case k16 => k_is)
    (case a17 => k_is)
    (case l17 => k_is)
    (case c17 => k_is)
    (case k17 => k_is)
    (case a18 => k_is)
    (case l18 => k_is)
    (case c18 => k_is)
    (case k18 => k_is)
    (case a19 => k_is)
    (case l19 => k_is)
    (case c19 => k_is)
    (case k19 => k_is)
    (case a20 => k_is)
    (case l20 => k_is)
    (case c20 => k_is)
    (case k20 => k_is)
    (case a21 => k_is)
    (case l21 => k_is)
    (case c21 => k_is)
    (case k21 => k_is)
    (case a22 => k_is)
    (case l22 => k_is)
    (case c22 => k_is)
    (case k22 => k_is)
    (case a23 => k_is)
    (case l23 => k_is)
    (case c23 => k_is)
    (case k23 => k_is)
    (case a24 => k_is)
    (case l24 => k_is)
    (case c24 => k_is)
    (case k24 => k_is)
    (case a25 => k_is)
    (case l25 => k_is)
    (case c25 => k_is)
    (case k25 => k_is)
    (case a26 => k_is)
    (case l26 => k_is)
    (case c26 => k_is)
    (case k26 => k_is)
    (case z_list => k_is)
    (case z_len => k_is)
    (case z_divmod => k_is)
    (case z_range => k_is)
    (case z_min => k_is)
    (case z_int => k_is)
    (case z_bool => k_is)
    (case z_str => k_is)
    (case z_tuple => k_is)
    (case z_all => k_is)
    (case z_any => k_is)
    (case z_repr => k_is)
    (case z_isinstance => k_is)
    (case z_zip => k_is)
    (case z_enumerate => k_is)
    (case z_set => k_is)
    (case z_sum => k_is)
    (case z_sorted => k_is)
    (case z_max => k_is)
    (case g_MOST_LETTERS => exact ⟨_, by k_is⟩)
    (case g_MOST_NUMBER => exact ⟨_, by k_is⟩)
    (case g_MOST_TABLES => exact ⟨_, by k_is⟩)
    (case g_MOST_COLUMNS => exact ⟨_, by k_is⟩)
