import PyProof.Rows.All
import Wide.All
import OpenK.AllK
import Wide.FinOn
import HandS.ForMost
import HandS.Wide
import HandS.WideBits
import PyProof.ReprRoads
import HandS.Strs
import PyProof.CallFns
import HandS.Walk
import HandS.Iter
import KE.GoesEnum
import PyProof.StrOps2
import HandS.TryOnly
import HandS.Exc
import HandS.ExcField
import HandS.IsInst
import KE.KExcIs
import HandS.ExcInit
import KE.KExcInit
import HandS.CallSlots
import HandS.WordsExc
import HandS.SetFor
import KE.GoesZip
import KE.KDictPairs
import KE.KItemsList
import PyProof.Tail
import HandS.List
import HandS.GenCall
import HandS.Style
import PySem.Challenge.RW_tiedtables_k12_what_is_loose
import HandS.StrMore
import PyProof.Rows.IntBool
import PyProof.Rows.StrDigitsNeg
import PyProof.Rows.StrJoinMade
import PyProof.Rows.StrCase
import HandS.Defaults
import HandS.DictComp
import HandS.Flow
set_option Elab.async false
set_option linter.all false
set_option maxRecDepth 100000
namespace TT
open PySem PySem.Spec PyProof.Rows L2

/-! ### an own def of the module, by its name -/
def Def (P : Program) (w : World) (K : PySem.W.Frag) (mg : Str → Option Value) (base : Heap) (k : Nat) (x : Str) (ps : List Str) (sp : Sp) : Prop :=
  ∃ f fd, mg x = some (.ref f) ∧ PySem.W.keepIn K (.ref f) = true ∧ Binds K fd ps [] ∧ FnOk P w K mg base CX0 k f fd ps sp
section
variable {X : Cx} {k j : Nat} {x : Str} {ps : List Str} {sp : Sp} {p pos : Pos} {e : Expr} {es : List Expr} {t : TA}
theorem pe_own (D : Def X.prog X.w X.K X.mg X.base k x ps sp) (hr : Room j X.A) (ha : PA X (e :: es) t) (hkj : k ≤ j := by decide) (hg : Gl X x := by rfl) (hdb : (x == ("__debug__" : Str)) = false := by decide)
    (he : starEach (e :: es) X.env = (false, eval e X.env) :: starEach es X.env := by rfl) (hpl : (backTo pos (starEach es X.env)).any (·.1) = false := by rfl) :
    PE X (.Call (.Name x p) (e :: es) [] pos) (tCall sp [] E0 t) := by
  obtain ⟨f, fd, hm, hk, hb, F⟩ := D
  exact pe_call F (hr.mono hkj) hg hm hk hb .nil pass0 ha hdb he hpl
theorem pe_gint {i : Int} (h : ∃ u, X.mg x = some (.int i u)) (hg : Gl X x := by rfl) (hdb : (x == ("__debug__" : Str)) = false := by decide) : PE X (.Name x p) (tC (.int i)) := by
  obtain ⟨u, hm⟩ := h
  exact pe_glob hg hm ⟨u, rfl⟩ hdb
end
theorem Def.mk {P : Program} {w : World} {K : PySem.W.Frag} {mg : Str → Option Value} {base : Heap} {k : Nat} {x : Str} {ps : List Str} {sp : Sp} {f : Addr} {fd : FuncData} (h1 : mg x = some (.ref f)) (h2 : PySem.W.keepIn K (.ref f) = true) (h3 : Binds K fd ps []) (h4 : FnOk P w K mg base CX0 k f fd ps sp) : Def P w K mg base k x ps sp := ⟨f, fd, h1, h2, h3, h4⟩

/-- the built-in names stand as they are -/
structure NB (mg : Str → Option Value) : Prop where
  b_list : mg "list" = none
  b_len : mg "len" = none
  b_divmod : mg "divmod" = none
  b_range : mg "range" = none
  b_min : mg "min" = none
  b_int : mg "int" = none
  b_bool : mg "bool" = none
  b_str : mg "str" = none
  b_tuple : mg "tuple" = none
  b_all : mg "all" = none
  b_any : mg "any" = none
  b_repr : mg "repr" = none
  b_isinstance : mg "isinstance" = none
  b_zip : mg "zip" = none
  b_enumerate : mg "enumerate" = none
  b_set : mg "set" = none
  b_sum : mg "sum" = none
  b_sorted : mg "sorted" = none
  b_max : mg "max" = none

/-! ### masks: what is not to be leant on -/
def msk (M : List Addr) (H : Hp) : Hp := fun p => if p ∈ M then none else H p
/-- all but what stands at M is as it was -/
def Kept (M : List Addr) (H H' : Hp) : Prop := ∀ p o, H p = some o → p ∉ M → H' p = some o
theorem Kept.refl (M : List Addr) (H : Hp) : Kept M H H := fun _ _ h _ => h
theorem Kept.trans {M : List Addr} {H H1 H2 : Hp} (a : Kept M H H1) (b : Kept M H1 H2) : Kept M H H2 := fun p o h n => b p o (a p o h n) n
theorem Kept.of_same {M : List Addr} {H H' : Hp} (h : Same H H') : Kept M H H' := fun p o e _ => h p o e
theorem Kept.upd_new {M : List Addr} {H : Hp} {p : Addr} {o : HO} (h : H p = none) : Kept M H (upd H p o) := fun b u e _ => by
  rw [upd_ne (ne_of_none e h)]; exact e
theorem Kept.upd_in {M : List Addr} {H : Hp} {p : Addr} {o : HO} (h : p ∈ M) : Kept M H (upd H p o) := fun b u e n => by
  rw [upd_ne (fun (z : b = p) => n (by rw [z]; exact h))]; exact e
theorem Kept.mono {M M' : List Addr} {H H' : Hp} (h : Kept M H H') (s : ∀ p ∈ M, p ∈ M') : Kept M' H H' := fun p o e n => h p o e fun z => n (s p z)
/-- less is masked: what is masked no more was not there -/
theorem Kept.new {M : List Addr} {p : Addr} {H H' : Hp} (h : Kept (p :: M) H H') (n : H p = none) : Kept M H H' := fun b o e nb => h b o e fun z => by
  rcases List.mem_cons.mp z with rfl | z
  · rw [n] at e; cases e
  · exact nb z
theorem Kept.at {M : List Addr} {H H' : Hp} (h : Kept M H H') {p : Addr} {o : HO} (e : H p = some o) (n : p ∉ M) : H' p = some o := h p o e n
theorem msk_same {M : List Addr} {H H' : Hp} (h : Kept M H H') : Same (msk M H) (msk M H') := fun p o e => by
  unfold msk at e ⊢
  by_cases hp : p ∈ M
  · rw [if_pos hp] at e; cases e
  · rw [if_neg hp] at e ⊢; exact h p o e hp
theorem msk_sub (M : List Addr) (H : Hp) : Same (msk M H) H := fun p o e => by
  unfold msk at e
  by_cases hp : p ∈ M
  · rw [if_pos hp] at e; cases e
  · rw [if_neg hp] at e; exact e
/-- a new address may be masked, too -/
theorem msk_new {M : List Addr} {H : Hp} {p : Addr} (n : H p = none) : Same (msk M H) (msk (p :: M) H) := fun b o e => by
  have e' := msk_sub M H b o e
  unfold msk at e ⊢
  by_cases hp : b ∈ M
  · rw [if_pos hp] at e; cases e
  · rw [if_neg hp] at e
    rw [if_neg (fun z => by
      rcases List.mem_cons.mp z with rfl | z
      · rw [n] at e; cases e
      · exact hp z)]
    exact e
theorem msk_less {M M' : List Addr} {H : Hp} (s : ∀ p ∈ M', p ∈ M) : Same (msk M H) (msk M' H) := fun p o e => by
  unfold msk at e ⊢
  by_cases hp : p ∈ M
  · rw [if_pos hp] at e; cases e
  · rw [if_neg hp] at e
    rw [if_neg (fun z => hp (s p z))]; exact e

/-! ### data -/
theorem sameT {K : PySem.W.Frag} {H H' : Hp} {a : Addr} {xs : List V} (e : Same H H') (h : SqT K H a xs) : SqT K H' a xs := by
  rcases h with (h | ⟨o, h⟩) | h
  · exact .inl (.inl (e _ _ h))
  · exact .inl (.inr ⟨o, e _ _ h⟩)
  · exact .inr h
mutual
theorem dp_same {K : PySem.W.Frag} {H H' : Hp} (e : Same H H') : ∀ {d : PyData} {v : V}, Dp K H v d → Dp K H' v d
  | _, _, .non => .non
  | _, _, .bl b => .bl b
  | _, _, .int i => .int i
  | _, _, .str x => .str x
  | _, _, .lst h a => .lst (e.seq h) (dpAll_same e a)
  | _, _, .tup h a => .tup (sameT e h) (dpAll_same e a)
theorem dpAll_same {K : PySem.W.Frag} {H H' : Hp} (e : Same H H') : ∀ {ds : List PyData} {vs : List V}, DpAll K H vs ds → DpAll K H' vs ds
  | _, _, .nil => .nil
  | _, _, .cons h t => .cons (dp_same e h) (dpAll_same e t)
end
theorem dpAll_len {K : PySem.W.Frag} {H : Hp} : ∀ {ds : List PyData} {vs : List V}, DpAll K H vs ds → vs.length = ds.length
  | _, _, .nil => rfl
  | _, _, .cons _ t => congrArg (· + 1) (dpAll_len t)
theorem dpAll_get {K : PySem.W.Frag} {H : Hp} : ∀ {ds : List PyData} {vs : List V} (i : Nat) {v : V}, DpAll K H vs ds → vs[i]? = some v → ∃ d, ds[i]? = some d ∧ Dp K H v d
  | _, _, _, _, .nil, e => by simp at e
  | _, _, 0, _, .cons h _, e => by simp at e; subst e; exact ⟨_, rfl, h⟩
  | _, _, i + 1, v, .cons _ t, e => by
    obtain ⟨d, h1, h2⟩ := dpAll_get i (v := v) t (by simpa using e)
    exact ⟨d, by simpa using h1, h2⟩
theorem dpAll_app {K : PySem.W.Frag} {H : Hp} : ∀ {ds es : List PyData} {vs us : List V}, DpAll K H vs ds → DpAll K H us es → DpAll K H (vs ++ us) (ds ++ es)
  | _, _, _, _, .nil, s => s
  | _, _, _, _, .cons h t, s => .cons h (dpAll_app t s)
theorem dpAll_snoc {K : PySem.W.Frag} {H : Hp} {ds : List PyData} {d : PyData} {vs : List V} {v : V} (a : DpAll K H vs ds) (h : Dp K H v d) : DpAll K H (vs ++ [v]) (ds ++ [d]) := dpAll_app a (.cons h .nil)

/-! ### the state of the draws -/
def kCells : Key := Sum.inr "cells"
def kTurn : Key := Sum.inr "turn"
theorem kne : ¬ (kCells = kTurn) := by decide +kernel
def stD (c : Addr) (t : Int) : List (Key × V) := [(kCells, .ref c), (kTurn, .int t)]
theorem stD_cells (c : Addr) (t : Int) : valV (stD c t) kCells = some (.ref c) := valV_pos rfl
theorem stD_turn (c : Addr) (t : Int) : valV (stD c t) kTurn = some (.int t) := by
  unfold stD
  rw [valV_neg kne, valV_pos rfl]
theorem stD_put (c : Addr) (t i : Int) : putK (stD c t) kTurn (.int i) = stD c i := by
  have h1 : (decide (kCells = kTurn)) = false := decide_eq_false kne
  have h2 : (decide (kTurn = kTurn)) = true := decide_eq_true rfl
  simp [stD, putK, h1, h2, kne]
/-- a state of draws at s, its cells at c, at most T turns -/
structure StAt (H : Hp) (s c : Addr) (T : Nat) : Prop where
  ex : ∃ t : Int, (0 ≤ t ∧ t ≤ (T : Int)) ∧ H s = some (.dK (stD c t))
  cs : ∃ ns : List Int, 0 < ns.length ∧ ns.length ≤ 63 ∧ H c = some (.lst (ns.map V.int))
theorem StAt.mono {H : Hp} {s c : Addr} {T T' : Nat} (h : StAt H s c T) (l : T ≤ T') : StAt H s c T' := ⟨let ⟨t, a, b⟩ := h.ex; ⟨t, ⟨a.1, by omega⟩, b⟩, h.cs⟩
theorem StAt.ne {H : Hp} {s c : Addr} {T : Nat} (h : StAt H s c T) : s ≠ c := by
  obtain ⟨t, _, e⟩ := h.ex
  obtain ⟨ns, _, _, e2⟩ := h.cs
  exact ne_of e e2 (by intro z; cases z)
theorem StAt.same {H H' : Hp} {s c : Addr} {T : Nat} (h : StAt H s c T) (e : Same H H') : StAt H' s c T :=
  ⟨let ⟨t, a, b⟩ := h.ex; ⟨t, a, e _ _ b⟩, let ⟨ns, a, b, q⟩ := h.cs; ⟨ns, a, b, e _ _ q⟩⟩
theorem StAt.nes {H : Hp} {s c p : Addr} {T : Nat} (h : StAt H s c T) (n : H p = none) : s ≠ p := let ⟨_, _, b⟩ := h.ex; ne_of_none b n
theorem StAt.nec {H : Hp} {s c p : Addr} {T : Nat} (h : StAt H s c T) (n : H p = none) : c ≠ p := let ⟨_, _, _, b⟩ := h.cs; ne_of_none b n
theorem StAt.upd {H : Hp} {s c p : Addr} {T : Nat} {o : HO} (h : StAt H s c T) (h1 : s ≠ p) (h2 : c ≠ p) : StAt (upd H p o) s c T :=
  ⟨let ⟨t, a, b⟩ := h.ex; ⟨t, a, by rw [upd_ne h1]; exact b⟩, let ⟨ns, a, b, q⟩ := h.cs; ⟨ns, a, b, by rw [upd_ne h2]; exact q⟩⟩
theorem StAt.upd_new {H : Hp} {s c p : Addr} {T : Nat} {o : HO} (h : StAt H s c T) (n : H p = none) : StAt (L2.upd H p o) s c T := h.upd (h.nes n) (h.nec n)

theorem Kept.seqL {M : List Addr} {H H' : Hp} (h : Kept M H H') {K : PySem.W.Frag} {p : Addr} {xs : List V} (n : p ∉ M) (q : SqL K H p xs) : SqL K H' p xs := by
  rcases q with (q | ⟨o, q⟩) | q
  · exact .inl (.inl (h _ _ q n))
  · exact .inl (.inr ⟨o, h _ _ q n⟩)
  · exact .inr q
theorem Kept.seqT {M : List Addr} {H H' : Hp} (h : Kept M H H') {K : PySem.W.Frag} {p : Addr} {xs : List V} (n : p ∉ M) (q : SqT K H p xs) : SqT K H' p xs := by
  rcases q with (q | ⟨o, q⟩) | q
  · exact .inl (.inl (h _ _ q n))
  · exact .inl (.inr ⟨o, h _ _ q n⟩)
  · exact .inr q
theorem same_upd {H : Hp} {p : Addr} {o : HO} (h : H p = none) : Same H (upd H p o) := fun b x e => by
  rw [upd_ne (ne_of_none e h)]
  exact e

/-! ### what the draws promise -/
def spBegin (K : PySem.W.Frag) : Sp := fun vs H Q _ => ∃ (a : Addr) (ns : List Int), vs = [.ref a] ∧ SqL K H a (ns.map V.int) ∧
  ∀ (s c : Addr) (H' : Hp), StAt H' s c 0 → H s = none → H c = none → Same H H' → Q (.ref s) H'
def spTake : Sp := fun vs H Q _ => ∃ (s c : Addr) (T : Nat) (m : Int), vs = [.ref s, .int m] ∧ StAt H s c T ∧ T ≤ 1000000 ∧ 0 < m ∧ m < 2 ^ 62 ∧
  ∀ (d : Int) (H' : Hp), 0 ≤ d → d < m → StAt H' s c (T + 1) → Kept [s, c] H H' → Q (.int d) H'
end TT

set_option Elab.async false
set_option linter.all false
set_option maxRecDepth 100000
namespace TT
open PySem PySem.Spec PyProof.Rows L2
/-! ### how many unlike texts a list has -/
def addNew (acc : List Str) (v : Str) : List Str := if v ∈ acc then acc else acc ++ [v]
def unlike (xs : List Str) : List Str := xs.foldl addNew []
theorem unlike_snoc (xs : List Str) (v : Str) : unlike (xs ++ [v]) = addNew (unlike xs) v := by
  unfold unlike
  rw [List.foldl_append]
  rfl
theorem addNew_mem (acc : List Str) (v k : Str) : k ∈ addNew acc v ↔ k ∈ acc ∨ k = v := by
  unfold addNew
  by_cases h : v ∈ acc
  · rw [if_pos h]
    exact ⟨.inl, fun q => q.elim id fun e => by rw [e]; exact h⟩
  · rw [if_neg h, List.mem_append, List.mem_singleton]
theorem addNew_len (acc : List Str) (v : Str) : (addNew acc v).length = if v ∈ acc then acc.length else acc.length + 1 := by
  unfold addNew
  split <;> simp
/-- the texts are unlike just where the set is as long as the list -/
theorem unlike_spec : ∀ (n : Nat) (xs : List Str), xs.length = n → (∀ k, k ∈ unlike xs ↔ k ∈ xs) ∧ (unlike xs).length ≤ n ∧ ((unlike xs).length = n ↔ xs.Nodup)
  | 0, xs, h => by
    have e : xs = [] := List.length_eq_zero_iff.mp h
    subst e
    exact ⟨fun _ => Iff.rfl, Nat.le_refl _, by simp [unlike]⟩
  | n + 1, xs, h => by
    have hne : xs ≠ [] := fun z => by rw [z] at h; cases h
    have e : xs = xs.dropLast ++ [xs.getLast hne] := (List.dropLast_concat_getLast hne).symm
    have hl : xs.dropLast.length = n := by rw [List.length_dropLast]; omega
    generalize xs.getLast hne = v at e
    generalize xs.dropLast = ys at e hl
    subst e
    obtain ⟨h1, h2, h3⟩ := unlike_spec n ys hl
    rw [unlike_snoc]
    refine ⟨fun k => ?_, ?_, ?_⟩
    · rw [addNew_mem, h1, List.mem_append, List.mem_singleton]
    · rw [addNew_len]; split <;> omega
    · rw [addNew_len, List.nodup_append]
      by_cases hv : v ∈ unlike ys
      · rw [if_pos hv]
        have hv' := (h1 v).mp hv
        constructor
        · intro z; omega
        · intro ⟨_, _, z⟩
          exact absurd rfl (z v hv' v (List.mem_singleton.mpr rfl))
      · rw [if_neg hv]
        have hv' : v ∉ ys := fun z => hv ((h1 v).mpr z)
        constructor
        · intro z
          refine ⟨h3.mp (by omega), by simp, fun a ha b hb e => hv' ?_⟩
          rw [List.mem_singleton.mp hb] at e
          rw [← e]; exact ha
        · intro ⟨z, _, _⟩
          rw [h3.mpr z]
theorem unlike_nodup (xs : List Str) : decide (((unlike xs).length : Int) = (xs.length : Int)) = decide (xs.Nodup) := by
  obtain ⟨_, _, h⟩ := unlike_spec _ xs rfl
  by_cases e : xs.Nodup
  · rw [decide_eq_true e, h.mpr e]; exact decide_eq_true rfl
  · rw [decide_eq_false e]
    exact decide_eq_false fun z => e (h.mp (by omega))

/-! ### the set's own loop, texts drawn from anything that is walked -/
section
variable {prog : Program} {w : World} {A : Around} {Rs : Result → Shared → Prop} {I : Addr} {fp wr : List Addr} {G : Array GenState → Array GenState → Prop} {n : Nat} {Y : Nat → Value → Prop} {St : Nat → Shared → Prop}
abbrev HasSet (prog : Program) (w : World) (h : Heap) (a : Addr) (xs : List Str) : Prop := h.SetOf (PySem.strKind prog w) a (fun k => decide (k ∈ unlike xs)) (unlike xs).length
theorem draw_texts (W : WalksS prog w A.in1 I fp wr G n Y St) (a : Addr) (ha : a ∉ fp) (xs : List Str) (hn : xs.length = n) (hb : n + 1 < scanBound) (hv : ∀ i v, Y i v → ∃ t x, xs[i]? = some x ∧ v = .str x t) :
    ∀ (m i : Nat) (s : Shared), i + m = n → St i s → HasSet prog w s.heap a (xs.take i) →
      (∀ s', Moved (a :: wr) G s s' → HasSet prog w s'.heap a xs → Rs (.ok (.ret .none)) s') → codeAny (model prog w) A (.builtin "set.update.loop" ⟨[.ref a, .ref I], []⟩) Rs s := by
  have haw : a ∉ wr := fun z => ha (W.sub _ z)
  have more : ∀ b ∈ wr, b ∈ a :: wr := fun b z => List.mem_cons_of_mem _ z
  intro m
  induction m with
  | zero =>
    intro i s him hst hS hR
    obtain rfl : i = n := by omega
    rw [← hn, List.take_length] at hS
    refine codeAny_builtin PyProof.Rows.F.entry_set_update_loop ?_
    rw [Around.under_plainId PyProof.Rows.F.plain_set_update_loop _]
    show wpAny _ A.in1 (pyNext (.ref I) >>= _) _ _ s
    refine wpAny_bind (W.done s _ _ hst fun s' mv => ?_)
    show wpAny _ A.in1 (ret Value.none) _ _ s'
    refine wpAny_pure (hR s' (mv.mono more) ?_)
    obtain ⟨o, es, ep, t, ho, r⟩ := hS
    exact ⟨o, es, ep, t, mv.heap a _ haw ho, r⟩
  | succ m ih =>
    intro i s him hst hS hR
    refine codeAny_builtin PyProof.Rows.F.entry_set_update_loop ?_
    rw [Around.under_plainId PyProof.Rows.F.plain_set_update_loop _]
    show wpAny _ A.in1 (pyNext (.ref I) >>= _) _ _ s
    refine wpAny_bind (W.item i s _ _ (by omega) hst fun v s' hy hst' mv => ?_)
    obtain ⟨t, x, hx, rfl⟩ := hv i v hy
    have hS' : HasSet prog w s'.heap a (xs.take i) := by
      obtain ⟨o, es, ep, tb, ho, r⟩ := hS
      exact ⟨o, es, ep, tb, mv.heap a _ haw ho, r⟩
    show wpAny _ A.in1 (holding [Value.str x t] (setAdd a (.str x t)) >>= _) _ _ s'
    refine wpAny_bind (wpAny_holding ?_)
    unfold setAdd
    refine wpAny_holding (wpAny_bind ((PySem.strKind prog w).pyHash (k := x) (strKind_is _ _ _ _) ?_))
    have len : (unlike (xs.take i)).length ≤ i := by
      have q := (unlike_spec _ (xs.take i) rfl).2.1
      rw [List.length_take] at q
      omega
    refine wpAny_setAddHashed_of (knd := PySem.strKind prog w) (s := { s' with toks := s'.toks + 1 }) (strKind_is _ _ _ _) rfl hS' (by omega) fun h' sb hS2 => ?_
    have et : xs.take (i + 1) = xs.take i ++ [x] := by rw [List.take_add_one, hx]; rfl
    have hS3 : HasSet prog w h' a (xs.take (i + 1)) := by
      refine PyProof.Rows.SetOf_congr hS2 (fun k => ?_) ?_
      · rw [et, unlike_snoc]
        by_cases h1 : k ∈ unlike (xs.take i)
        · simp [addNew_mem, h1]
        · simp [addNew_mem, h1]
      · rw [et, unlike_snoc, addNew_len]
        by_cases h1 : x ∈ unlike (xs.take i)
        · simp [h1]
        · simp [h1]
    refine wpAny_pure ⟨plainId_quiet PyProof.Rows.F.plain_set_update_loop _, ih (i + 1) _ (by omega) (W.frame _ s' _ _ hst' (Nat.le_succ _) fun b hb o e => ?_) hS3 fun s2 mv2 hS4 => ?_⟩
    · rw [sb.2 b fun z => ha (by rw [← z]; exact hb)]; exact e
    · refine hR s2 (Moved.trans W.gtrans ((mv.mono more).then_heap (Nat.le_succ _) fun b o hb e => ?_) mv2) hS4
      rw [sb.2 b fun z => hb (by rw [z]; exact List.mem_cons_self)]; exact e
end
section
variable {prog : Program} {w : World} {A : Around} {E : Value → Shared → Prop} {s : Shared}
/-- what a new set object is -/
abbrev bareSet (led : Bool) : Obj := { cls := .type "set", dict := none, data := .set #[] 0 (.fresh 0 0 led) }
theorem texts_at {us : List Value} {xs : List Str} (r : Vals (xs.map V.str) us) (i : Nat) (v : Value) (e : us[i]? = some v) : ∃ t x, xs[i]? = some x ∧ v = .str x t := by
  have hl : xs.length = us.length := by rw [← r.length, List.length_map]
  have hi : i < xs.length := by rw [hl]; exact (List.getElem?_eq_some_iff.mp e).1
  obtain ⟨u, h1, t, h2⟩ := r.get (i := i) (x := .str xs[i]) (by rw [List.getElem?_map, List.getElem?_eq_getElem hi]; rfl)
  rw [e] at h1
  cases h1
  exact ⟨t, xs[i], List.getElem?_eq_getElem hi, h2⟩
set_option maxHeartbeats 4000000 in
/-- set(xs), xs a list of texts -/
theorem call_set_texts {l : Addr} {items : Array Value} {xs : List Str} {Q : Value → Shared → Prop} (hh : A.handled = none) (hl : s.heap.IsList l items) (hi : Vals (xs.map V.str) items.toList) (hb : xs.length + 1 < scanBound)
    (q : ∀ (h' : Heap) (tk : Nat), HasSet prog w h' s.heap.objs.size xs → (∀ b o, b < s.heap.objs.size → s.heap.get? b = some o → h'.get? b = some o) → Q (.ref s.heap.objs.size) { s with heap := h', toks := tk }) :
    wpAny (model prog w) A (call (.type "set") [.ref l]) Q E s := by
  have size : xs.length = items.size := by rw [← Array.length_toList, ← hi.length, List.length_map]
  obtain ⟨c, tl, hmro⟩ := PySem.F.called_set.mro
  have g1 := PySem.F.called_set.made
  have g2 := PySem.F.called_set.sub
  have g3 := PySem.F.called_set.notType
  have g4 := PySem.F.called_set.canCreate
  have g5 := PySem.F.typeCall_set_1 (.ref l)
  refine wpAny_call (codeAny_of_tree ?_)
  show wpAny _ _ (callAny (.type "set") _) _ _ _
  refine wpAny_pure ⟨Code.quiet_builtin _ (by decide +kernel), codeAny_builtin PySem.F.entry_type_call ?_⟩
  rw [Around.under_plain (weight_type_call_type "set" [.ref l] []) rfl]
  repeat (any_goals (first | assumption | wp_step))
  -- the new object
  refine codeAny_mono (code_set_new_1 (.ref l) (E := E) (Q₁ := fun v s1 => ∃ led : Bool, v = .ref s.heap.objs.size ∧ s1 = { s with heap := s.heap.push (bareSet led) }) fun led => ⟨led, rfl, rfl⟩) fun r s1 hr => ?_
  rcases r with e | fl
  · exact hr
  cases fl with
  | next => exact hr.elim
  | brk => exact hr.elim
  | cont => exact hr.elim
  | ret v =>
    obtain ⟨led, rfl, rfl⟩ := hr
    have gN : (s.heap.push (bareSet led)).get? s.heap.objs.size = some (bareSet led) := Heap.get?_push_size _ rfl
    have gT : Shared.TypeIs { s with heap := s.heap.push (bareSet led) } (.ref s.heap.objs.size) "set" := ⟨_, gN, rfl⟩
    have g6 := PySem.F.called_set.init.lookup
    have g7 := PySem.F.called_set.init.bind (.ref s.heap.objs.size)
    repeat (any_goals (first | assumption | wp_step))
    -- its __init__
    refine codeAny_mono (codeAny_call_builtin (R := wants (fun r s2 => r = .none ∧ ∃ h' tk, s2 = { s with heap := h', toks := tk } ∧ HasSet prog w h' s.heap.objs.size xs ∧ (∀ b o, b < s.heap.objs.size → s.heap.get? b = some o → h'.get? b = some o)) E)
      PySem.F.called_set.init.plain PySem.F.entry_set_init (check_set_init_1 gT ?_)) fun r2 s2 hr2 => ?_
    · obtain ⟨⟨oc, od, oda, osl⟩, go, hc, nl, hd⟩ := hl
      simp only at hc hd
      subst hc
      subst hd
      have go' : (s.heap.push (bareSet led)).get? l = some { cls := .type "list", dict := od, data := .seq items nl, slots := osl } := Heap.get?_push_of_some _ go
      have g8 := PySem.F.sub_list_set
      have g9 := PySem.F.sub_list_frozenset
      have g10 : (Value.type "list" == Value.type "dict") = false := by decide
      have gl : (s.heap.push (bareSet led)).IsList l items := ⟨_, go', rfl, nl, rfl⟩
      unfold Builtin.«set.__init__» noKeywords Builtin.Frozenset.updateFrom
      generalize hPI : pyIter = PI
      wp_walk
      subst hPI
      refine wpAny_pyIter_list gl (wpAny_bind (wpAny_runValue ?_))
      have ll : l < s.heap.objs.size := Heap.lt_size go
      have sz1 : (s.heap.push (bareSet led)).objs.size = s.heap.objs.size + 1 := Heap.size_push ..
      have a1 : l ≠ (s.heap.push (bareSet led)).objs.size := by rw [sz1]; exact Nat.ne_of_lt (Nat.lt_succ_of_lt ll)
      have a2 : s.heap.objs.size ∉ [(s.heap.push (bareSet led)).objs.size, l] := by
        rw [sz1]
        intro z
        rcases List.mem_cons.mp z with z | z
        · exact Nat.ne_of_lt (Nat.lt_succ_self _) z
        · exact Nat.ne_of_gt ll (List.mem_singleton.mp z)
      have a3 : A.in1.in1.in1.handled = none := by simp [hh]
      refine draw_texts (xs := xs) ((Walks.list a3 _ l a1 items).toS) s.heap.objs.size a2 size (by rw [← size]; exact hb) (fun i v e => texts_at hi i v (by rw [Array.getElem?_toList]; exact e)) items.size 0 _ (by omega) ⟨⟨_, Heap.get?_push_size _ rfl, rfl, rfl⟩, gl.push _⟩ ?_ ?_
      · refine PyProof.Rows.SetOf_congr ((PyProof.Rows.setObjOf_fresh (knd := PySem.strKind prog w) led).setOf (Heap.get?_push_of_some _ gN) (by unfold scanBound; omega)) (fun k => ?_) rfl
        simp [unlike]
      · rintro ⟨h', g', d', tk', os'⟩ mv hS
        obtain rfl : g' = s.gens := mv.gens
        obtain rfl : d' = s.drawn := mv.drawn
        obtain rfl : os' = s.os := mv.os
        show wpAny _ _ _ _ _ _
        refine wpAny_pure ?_
        show wpAny _ _ (ret Value.none) _ _ _
        refine wpAny_pure ⟨rfl, h', tk', rfl, hS, fun b o lt e => mv.heap b o ?_ (Heap.get?_push_of_some _ (Heap.get?_push_of_some _ e))⟩
        rw [sz1]
        intro z
        rcases List.mem_cons.mp z with z | z
        · exact Nat.ne_of_lt lt z
        · exact Nat.ne_of_lt (Nat.lt_succ_of_lt lt) (List.mem_singleton.mp z)
    · rcases r2 with e | fl2
      · exact hr2
      cases fl2 with
      | next => exact hr2.elim
      | brk => exact hr2.elim
      | cont => exact hr2.elim
      | ret r =>
        obtain ⟨rfl, h', tk, rfl, hS, keep⟩ := hr2
        repeat (any_goals (first | assumption | wp_step))
        exact q _ _ hS keep
end
/-- len(set(xs)), xs a list of texts -/
def tLenUnlike (K : PySem.W.Frag) (ta : TE) : TE := fun σ H Q => ta σ H fun x H1 => ∃ (l : Addr) (xs : List Str), x = .ref l ∧ SqL K H1 l (xs.map V.str) ∧ xs.length ≤ 1000 ∧ Q (.int (unlike xs).length) H1
theorem pe_lenUnlike {X : Cx} {a : Expr} {ta : TE} {p p2 q pos : Pos} (hm : X.mg "len" = none) (hm2 : X.mg "set" = none) (ha : PE X a ta) (hg : Gl X "len" := by rfl) (hg2 : Gl X "set" := by rfl) (hc : X.calm = true := by rfl)
    (na : starEach [a] X.env = (false, eval a X.env) :: starEach [] X.env := by rfl) : PE X (.Call (.Name "len" p) [.Call (.Name "set" p2) [a] [] q] [] pos) (tLenUnlike X.K ta) := by
  refine ⟨fun pins s σ H Q I h => ?_⟩
  refine Call_ (ld_blt I hg hm boot_len (PyProof.Rows.callWith_builtin1 (PyProof.Rows.args_cons ?_ rfl) rfl rfl))
  refine Call_ (ld_blt I hg2 hm2 boot_set ?_)
  refine PyProof.Rows.callWith_type1 (PyProof.Rows.args_cons (thn (ha.run pins s σ H _ I h) fun v s1 ⟨x, H1, I1, r1, q1⟩ => PyProof.Rows.args_nil ?_) na) na rfl
  obtain ⟨l, xs, rfl, hq, hl, q1⟩ := q1
  cases r1
  obtain ⟨its, r, pl, hz⟩ := I1.list hq
  refine call_set_texts (I1.ok.hd hc) pl.isList (by simpa using r) (by unfold scanBound; omega) fun h' tk hS hk => PyProof.Rows.args_nil ?_
  obtain ⟨o, es, ep, t, ho, hex, hd, _, _, _, hf, hn⟩ := hS
  have I2 : Inv X pins σ H1 { s1 with heap := h', toks := tk } := I1.kept fun b o e => hk b o (Heap.lt_size e) e
  have lu := (unlike_spec _ xs rfl).2.1
  exact call_len_set ho hex hd hf (by rw [hn] <;> omega) ⟨.int (unlike xs).length, H1, I2.tok _, ⟨_, by rw [hn]⟩, q1⟩
end TT

set_option Elab.async false
set_option linter.all false
set_option maxRecDepth 100000
namespace TT
open PySem PySem.Spec PyProof.Rows L2
/-! ### repr of data -/
def rRepr (K : PySem.W.Frag) : List V → Hp → VK → Prop := fun xs H Q => ∃ (v : V) (d : PyData), xs = [v] ∧ Dp K H v d ∧ d.showable = true ∧ d.hasDict = false ∧ d.depth ≤ 60 ∧ d.shown.length ≤ sizeLine ∧ Q (.str d.shown) H
section
variable {X : Cx} {k : Nat}
theorem call_repr_d (hg : X.A.guards = some []) (hr : Room k X.A) : CallR X (.builtin "repr") (rRepr X.K) := by
  intro pins s σ H xs us Q I r h
  obtain ⟨v, d, rfl, hd, h1, h2, h3, h4, q⟩ := h
  obtain ⟨u, rfl, rv⟩ := vals1 r
  obtain ⟨as, rd⟩ := Dp.reads I d v u hd rv
  have hu := hr.units
  have big : ∀ a, u = .ref a → wpAny (model X.prog X.w) X.A (call (.builtin "repr") [u]) (EP X pins σ Q) X.xe s := by
    intro a e
    subst e
    refine repr_of_reads' rd h1 (PyData.noDict_hsm h2) hg (by omega) (fun _ _ e => e) (fun h' t tk hk => ?_) h4
    exact ⟨.str d.shown, H, I.kept (t' := tk) hk, ⟨t, rfl⟩, q⟩
  cases hd with
  | non => cases rv; exact P.repr_of_none ⟨.str _, H, I.tok _, ⟨_, rfl⟩, q⟩
  | bl b => cases rv; exact P.repr_of_bool ⟨.str _, H, I.tok _, ⟨_, by cases b <;> rfl⟩, q⟩
  | int i => obtain ⟨t, rfl⟩ := rv; exact P.repr_of_int (of_decide_eq_true h1) ⟨.str _, H, I.tok _, ⟨_, rfl⟩, q⟩
  | str x => obtain ⟨t, rfl⟩ := rv; exact P.repr_of_str ⟨.str _, H, I.tok _, ⟨_, rfl⟩, q⟩ h4
  | lst _ _ => cases rv; exact big _ rfl
  | tup _ _ => cases rv; exact big _ rfl
end
/-! ### a def's promise where nothing is being shown -/
structure FnG (P : Program) (w : World) (K : PySem.W.Frag) (mg : Str → Option Value) (base : Heap) (CX : CXT) (k : Nat) (f : Addr) (fd : FuncData) (ps : List Str) (sp : Sp) : Prop where
  len : ∀ vs H Q E, sp vs H Q E → vs.length = ps.length
  run : ∀ (A : Around) (outer : List Env) (s : Shared) (H : Hp) (args : Args) (us : List Value) (vs : List V) (Q : VK) (E : XK), Room k A → A.guards = some [] → Env0 P w K mg base A outer s H → BindsTo s fd args (ps.zip us) → Vals vs us → sp vs H Q E →
    codeAny (model P w) A (.call (.ref f) args) (CR CX outer P w H s Q E) s
section
variable {P : Program} {w : World} {K : PySem.W.Frag} {mg : Str → Option Value} {base : Heap} {CX : CXT} {k : Nat}
theorem FnG.of {f : Addr} {fd : FuncData} {ps : List Str} {sp : Sp} (F : FnOk P w K mg base CX k f fd ps sp) : FnG P w K mg base CX k f fd ps sp :=
  ⟨F.len, fun A outer s H args us vs Q E hr _ e0 hb r h => F.run A outer s H args us vs Q E hr e0 hb r h⟩
/-- a def by its body, where nothing is being shown -/
theorem okG {x qual : Str} {st : Stmt} {f : Addr} {fd : FuncData} {N ps : List Str} {sp : Sp} (F : Fun K x qual st f fd) (S : FnScope N ps (defScope st)) (len : ∀ vs H Q E, sp vs H Q E → vs.length = ps.length)
    (body : ∀ (cdv : Value) (A : Around) (outer : List Env) (s : Shared) (H : Hp) (vs : List V) (Q : VK) (E : XK), Room k (A.deeper (envOfC qual (defScope st) s.heap.objs.size f cdv)) → (A.deeper (envOfC qual (defScope st) s.heap.objs.size f cdv)).guards = some [] → sp vs H Q E →
      ∃ t, PSs (cxOf CX0 P w K mg base N qual (defScope st) f cdv A outer s H E).nox (defBody st) t ∧ t { nx := fun _ H' => Q .non H', rt := Q } (L2.start N vs) H) : FnG P w K mg base CX0 (k + 1) f fd ps sp := by
  obtain ⟨oc, od, kV, doc, pm, an, cdv, ct, osl, rfl, lk, hcd⟩ := F.ex
  refine ⟨len, fun A outer s H args us vs Q E hr hg e0 hb r hsp => ?_⟩
  have same : ∀ b o, base.get? b = some o → s.heap.get? b = some o := fun b o e => (e0.bs b o e).1
  have KX : K.In s.heap := e0.mod.kin.keeps same
  have lim : s.heap.NoLimit := e0.mod.nolimit.keeps same
  refine codeAny_call_function hr.depth (KX _ _ lk) rfl S.co S.gen rfl (PySem.W.codeRec_of KX hcd) (hb _ _ _ _ ?_)
  refine wpAny_newFunctionEnv_cells S.kind (fun y hy => ?_) fun env he s1 x => ?_
  · rcases S.par y.1 (List.of_mem_zip (show (y.1, y.2) ∈ ps.zip us from hy)).1 with q | q
    · exact .inl q
    · exact .inr ⟨q, PySem.W.cellsFrom_some _ _ _ (.inl q)⟩
  · subst he
    refine ⟨lim.keeps x.toInCall.keep, codeAny_func ?_⟩
    obtain ⟨t, ht, hq⟩ := body cdv A outer s H vs Q E (hr.deeper _) hg hsp
    have I := inv_start (CX := CX0) (E := E) S hr.hd e0 (len _ _ _ _ hsp) r x
    refine wpAny_mono (ht.nox.run [] s1 (L2.start N vs) H _ I hq) (fun fl s' hs => ?_) fun e s' hs => hs
    cases fl with
    | next => exact let ⟨_, H', J, q⟩ := hs; ⟨V.non, H', J.os, J.bare, J.base, J.hok, rfl, q⟩
    | ret u => exact let ⟨v, _, H', J, rv, q⟩ := hs; ⟨v, H', J.os, J.bare, J.base, J.hok, rv, q⟩
    | brk => exact let ⟨_, _, _, q⟩ := hs; False.elim q
    | cont => exact let ⟨_, _, _, q⟩ := hs; False.elim q
end
/-! ### its call -/
def DefG (P : Program) (w : World) (K : PySem.W.Frag) (mg : Str → Option Value) (base : Heap) (k : Nat) (x : Str) (ps : List Str) (sp : Sp) : Prop :=
  ∃ f fd, mg x = some (.ref f) ∧ PySem.W.keepIn K (.ref f) = true ∧ Binds K fd ps [] ∧ FnG P w K mg base CX0 k f fd ps sp
theorem DefG.mk {P : Program} {w : World} {K : PySem.W.Frag} {mg : Str → Option Value} {base : Heap} {k : Nat} {x : Str} {ps : List Str} {sp : Sp} {f : Addr} {fd : FuncData} (h1 : mg x = some (.ref f)) (h2 : PySem.W.keepIn K (.ref f) = true) (h3 : Binds K fd ps []) (h4 : FnG P w K mg base CX0 k f fd ps sp) : DefG P w K mg base k x ps sp := ⟨f, fd, h1, h2, h3, h4⟩
section
variable {X : Cx} {k j : Nat} {x : Str} {ps : List Str} {sp : Sp} {p pos : Pos} {e : Expr} {es : List Expr} {t : TA}
theorem pe_ownG (D : DefG X.prog X.w X.K X.mg X.base k x ps sp) (hA : X.A.guards = some []) (hr : Room j X.A) (ha : PA X (e :: es) t) (hkj : k ≤ j := by decide) (hg : Gl X x := by rfl) (hdb : (x == ("__debug__" : Str)) = false := by decide)
    (he : starEach (e :: es) X.env = (false, eval e X.env) :: starEach es X.env := by rfl) (hpl : (backTo pos (starEach es X.env)).any (·.1) = false := by rfl) :
    PE X (.Call (.Name x p) (e :: es) [] pos) (tCall sp [] E0 t) := by
  obtain ⟨f, fd, hm, hk, hb, F⟩ := D
  refine ⟨fun pins s σ H Q I h => wpAny_Call_Name_kw (ld_glob I hg hm ?_ hdb)⟩
  refine PySem.W.callWith_K (h₀ := X.base) I.ok.mod.kin hk (thn (ha.run pos pins s σ H _ I h) fun us s1 ⟨vs, H1, I1, r, q⟩ => ⟨I1.kIn, ?_⟩) he hpl
  have q' : sp vs H1 Q E0 := by rw [← List.append_nil vs]; exact q
  have hl : us.length = ps.length := by rw [← r.length]; exact F.len _ _ _ _ q'
  have hbd := hb s1 us I1.kIn (by rw [List.append_nil]; exact hl)
  rw [List.append_nil] at hbd
  refine wpAny_call (codeAny_mono (F.run X.A X.stack s1 H1 ⟨us, []⟩ us vs Q E0 (hr.mono hkj) hA I1.env0 hbd r q') fun rs s' hq => ?_)
  rcases rs with err | fl
  · exact False.elim hq
  · cases fl with
    | ret u => exact I1.after hq
    | next => exact False.elim hq
    | brk => exact False.elim hq
    | cont => exact False.elim hq
end
end TT

set_option Elab.async false
set_option linter.all false
set_option maxRecDepth 100000
namespace TT
open PySem PySem.Spec PyProof.Rows L2
/-! ### the law's call from the caller's own frame, where nothing is being shown -/
/-- what is tracked ahead of the call: the script alone, or nothing where it is one of the module's objects -/
def scr (a : Addr) (o : Obj) (xs : List V) (own : Bool) : Hp := fun b => if own = true ∧ b = a then some (.frz o (.lst xs)) else none
theorem scr_only (a : Addr) (o : Obj) (xs : List V) (own : Bool) : Only (scr a o xs own) := fun b => by
  unfold scr
  split
  · exact .inr ⟨_, _, rfl⟩
  · exact .inl rfl
theorem scr_at {a b : Addr} {o : Obj} {xs : List V} {own : Bool} {u : HO} (h : scr a o xs own b = some u) : own = true ∧ b = a ∧ u = .frz o (.lst xs) := by
  unfold scr at h
  split at h
  · rename_i z
    exact ⟨z.1, z.2, (Option.some.inj h).symm⟩
  · cases h
theorem law_callG {P : Program} {w : World} {K : PySem.W.Frag} {mg mb : Str → Option Value} {k : Nat} {fa a : Addr} {fd : FuncData} {x : Str} {sp : Sp} {s1 : Shared} {vs : List Value} {ns : List Int}
    (KX : K.In s1.heap) (hns : s1.heap.Ns mainGlobals mg) (hb : s1.heap.Ns builtinsNs mb) (hbb : ∀ x : Str, x ≠ "__name__" → mb x = bootBuiltins x) (lim : s1.heap.NoLimit) (bare : s1.gens = #[])
    (ha : s1.heap.get? a = some { cls := .type "list", data := .seq vs.toArray }) (hi : IntsAre vs ns) (hl : ns.length ≤ sizeLine) (hr : Room k callerA)
    (F : ∀ base : Heap, K.In base → base.Ns mainGlobals mg → FnG P w K mg base CX0 k fa fd [x] sp) (bind : ∀ (s : Shared) (u : Value), BindsTo s fd ⟨[u], []⟩ [(x, u)])
    (hsp : ∀ H : Hp, Only H → SqL K H a (ns.map V.int) → sp [.ref a] H (fun v _ => v = .bl true) E0) :
    codeAny (model P w) callerA (.call (.ref fa) ⟨[.ref a], []⟩) (fun r s' => r = .ok (.ret (.bool true)) ∧ OldK s1.heap s'.heap ∧ s'.os = s1.os ∧ AllBare s'.gens) s1 := by
  have rv := vals_ints hi
  have lv := hi.length
  obtain ⟨own, hown, hK⟩ : ∃ own : Bool, (own = true → K.lookup a = none) ∧ (own = false → SqL K (scr a { cls := .type "list", data := .seq vs.toArray } (ns.map V.int) false) a (ns.map V.int)) := by
    cases e : K.lookup a with
    | none => exact ⟨true, ⟨fun _ => rfl, fun z => absurd z (by decide)⟩⟩
    | some o =>
      refine ⟨false, ⟨fun z => absurd z (by decide), fun _ => ?_⟩⟩
      have q := KX a o e
      rw [ha] at q
      cases q
      exact .inr ⟨_, vs.toArray, _, e, rfl, rfl, rfl, by rw [List.size_toArray, lv]; exact hl, by simpa using rv⟩
  generalize hH : scr a { cls := .type "list", data := .seq vs.toArray } (ns.map V.int) own = H
  have at' : ∀ {b u}, H b = some u → own = true ∧ b = a ∧ u = .frz { cls := .type "list", data := .seq vs.toArray } (.lst (ns.map V.int)) := fun {b u} e => scr_at (by rw [hH]; exact e)
  have hO : Only H := by rw [← hH]; exact scr_only a _ _ own
  have hS : SqL K H a (ns.map V.int) := by
    cases e : own with
    | false =>
      rw [← hH, e]
      exact hK e
    | true =>
      refine .inl (.inr ⟨{ cls := .type "list", data := .seq vs.toArray }, ?_⟩)
      rw [← hH, e]
      exact if_pos ⟨rfl, rfl⟩
  have hok : HOk P w H s1.heap := fun b u e => by
    obtain ⟨_, rfl, rfl⟩ := at' e
    exact ⟨ha, by rw [List.length_map]; exact hl, vs, _, rv, ha⟩
  -- what is not the script stands in the heap that is leant on
  have bare' : ∀ {b o es ep}, s1.heap.get? b = some o → o.data = .dict es ep → H b = none := fun {b o es ep} e d => by
    cases q : H b with
    | none => rfl
    | some u =>
      obtain ⟨_, rfl, _⟩ := at' q
      rw [ha] at e
      cases e
      cases d
  have ns' : ∀ {b m}, s1.heap.Ns b m → (hidT s1.heap H).Ns b m := fun {b m} ⟨o, es, ep, e, d, r⟩ => ⟨o, es, ep, hidT_get e (bare' e d), d, r⟩
  have kb : K.In (hidT s1.heap H) := fun b o e => hidT_get (KX b o e) (by
    cases q : H b with
    | none => rfl
    | some u =>
      obtain ⟨z, rfl, _⟩ := at' q
      rw [hown z] at e
      cases e)
  have e0 : Env0 P w K mg (hidT s1.heap H) callerA [] s1 H := ⟨rfl, ⟨kb, ns' hns, ⟨mb, ns' hb, hbb⟩, let ⟨mc, h1, h2⟩ := lim; ⟨mc, ns' h1, h2⟩⟩, fun b o e => of_hidT e, Nat.le_of_eq (hidT_size _ _), trivial,
    fun b z => absurd (show b ∈ ([] : List Addr) from z) (by simp), hok, .of_eq bare⟩
  refine codeAny_mono ((F _ kb (ns' hns)).run callerA [] s1 H ⟨[.ref a], []⟩ [.ref a] [.ref a] _ _ hr rfl e0 (bind s1 (.ref a)) (.cons rfl .nil) (hsp H hO hS)) fun r s' h => ?_
  rcases r with err | fl
  · exact False.elim h
  cases fl with
  | next => exact False.elim h
  | brk => exact False.elim h
  | cont => exact False.elim h
  | ret u =>
    obtain ⟨v, H', os, bg, un, ok', r', q⟩ := h
    obtain rfl : v = .bl true := q
    obtain rfl : u = Value.bool true := r'
    refine ⟨rfl, OldK.of_keep fun b o e => ?_, os, bg⟩
    cases q : H b with
    | none => exact un.keep b o e q (fun z => absurd (show b ∈ ([] : List Addr) from z) (by simp)) (by simp)
    | some u =>
      obtain ⟨_, rfl, rfl⟩ := at' q
      rw [ha] at e
      cases e
      exact (ok' _ _ (un.frzs _ _ _ q)).1
/-- a law by its promise: L2.walk_ofK, where nothing is being shown -/
theorem walk_ofG {l : PySem.W.OpenLaw} {n k : Nat} {q : Program} {loose : List Str} {XP : (Str → Option Value) → Heap → Prop} {YP : World → Heap → Prop} {d : DefRec} {K : Params → PySem.W.Frag} {sp : PySem.W.Frag → Sp} {x : Str}
    (hn : l.most = some n) (hn2 : n ≤ sizeLine) (hdf : d.params.defaults = []) (hr : Room k callerA) (hY : ∀ (w : World) (h : Heap), YP w h → (K w.params).In h)
    (F : ∀ (w : World) (mg : Str → Option Value) (fa : Addr) (h : Heap), (K w.params).In h → h.Ns mainGlobals mg → mg d.name = some (.ref fa) →
      ∃ fd : FuncData, (∀ (s : Shared) (u : Value), BindsTo s fd ⟨[u], []⟩ [(x, u)]) ∧
        ∀ base : Heap, (K w.params).In base → base.Ns mainGlobals mg → FnG l.prog w (K w.params) mg base CX0 k fa fd [x] (sp (K w.params)))
    (hsp : ∀ (K : PySem.W.Frag) (H : Hp) (a : Addr) (ns : List Int), ns.length ≤ n → Only H → SqL K H a (ns.map V.int) → sp K [.ref a] H (fun v _ => v = .bl true) E0) :
    PySem.W.WalkO q loose XP YP l.row.toRowW d [] (fun f vs => PySem.call f vs) := by
  refine Att.attach_call hn hdf fun w s0 s1 mg mb fa o pm cd doc a vs ns G Y ho hd hcd hmg hobj hints hlen hg => ?_
  have KX := hY w _ Y
  obtain ⟨fd, hb, hF⟩ := F w mg fa _ KX G.T.g hmg
  exact law_callG KX G.T.g G.T.b G.T.builtins G.T.nolimit hg hobj hints (Nat.le_trans hlen hn2) hr hF hb fun H hO hS => hsp (K w.params) H a ns hlen hO hS
end TT

set_option Elab.async false
set_option linter.all false
set_option maxRecDepth 100000
namespace TT
open PySem PySem.Spec PyProof.Rows L2
/-! ### zip of two, each a list (false) or a tuple (true) -/
def SIt (b : Bool) (h : Heap) (it a : Addr) (i : Nat) : Prop := match b with | true => h.IsTupleIter it a i | false => h.IsListIter it a i
def SAt (b : Bool) (h : Heap) (a : Addr) (its : Array Value) : Prop := match b with | true => h.IsTuple a its | false => h.IsList a its
def SqB (b : Bool) (K : PySem.W.Frag) (H : Hp) (a : Addr) (xs : List V) : Prop := match b with | true => SqT K H a xs | false => SqL K H a xs
def sIt (b : Bool) (a : Addr) : Obj := match b with | true => { cls := .type "tuple_iterator", data := .fields #[.ref a, .int 0 0] } | false => { cls := .type "list_iterator", data := .fields #[.ref a, .int 0 0] }
theorem SIt.start {b : Bool} {h : Heap} {it a : Addr} (e : h.get? it = some (sIt b a)) : SIt b h it a 0 := by cases b <;> exact ⟨_, e, rfl, rfl⟩
theorem SIt.live {b : Bool} {h : Heap} {it a : Addr} {i : Nat} (x : SIt b h it a i) : ∃ o, h.get? it = some o ∧ ∀ v, o.data ≠ .cell v := by
  cases b
  · obtain ⟨o, e, _, d⟩ := x; exact ⟨o, e, fun v q => by rw [d] at q; cases q⟩
  · obtain ⟨o, e, _, d⟩ := x; exact ⟨o, e, fun v q => by rw [d] at q; cases q⟩
theorem SIt.at' {b : Bool} {h h' : Heap} {it a : Addr} {i : Nat} (x : SIt b h it a i) (k : ∀ o, h.get? it = some o → h'.get? it = some o) : SIt b h' it a i := by
  cases b
  · exact Heap.IsListIter.at x k
  · exact Heap.IsTupleIter.at x k
theorem sit_begins (b : Bool) (a : Addr) (its : Array Value) : Begins (.ref a) (sIt b a) (fun h => SAt b h a its) := by
  cases b
  · exact begins_list a its
  · exact begins_tuple a its
theorem sit_draws {prog : Program} {w : World} {A : Around} (hh : A.handled = none) (b : Bool) (it a : Addr) (hne : a ≠ it) (its : Array Value) :
    Draws prog w A it [it, a] its.size (fun i v => its[i]? = some v) (fun i h => SIt b h it a i ∧ SAt b h a its) := by
  cases b
  · exact Draws.list hh it a hne its
  · exact Draws.tuple hh it a hne its
theorem inv_sqB {X : Cx} {pins : List (Addr × Obj)} {s : Shared} {σ : L2.St} {H : Hp} {b : Bool} {a : Addr} {xs : List V} (I : Inv X pins σ H s) (h : SqB b X.K H a xs) : ∃ its : List Value, Vals xs its ∧ SAt b s.heap a its.toArray ∧ a < s.heap.objs.size := by
  cases b
  · obtain ⟨its, rv, p, _⟩ := I.list h
    exact ⟨its, rv, p.isList, p.lt⟩
  · obtain ⟨its, rv, p, _⟩ := I.tuple h
    obtain ⟨o1, ho1, _⟩ := id p
    exact ⟨its, rv, p, Heap.lt_size ho1⟩
theorem sqB_inj {X : Cx} {pins : List (Addr × Obj)} {s : Shared} {σ : L2.St} {H : Hp} {b : Bool} {a : Addr} {xs ys : List V} (I : Inv X pins σ H s) (h : SqB b X.K H a xs) (h' : SqB b X.K H a ys) : xs = ys := by
  cases b
  · exact I.list_inj h h'
  · exact I.tuple_inj h h'
def ItzB (K : PySem.W.Frag) (b1 b2 : Bool) (a b : Addr) : It :=
  ⟨fun i H => ∃ (xs ys : List V) (x y : V), SqB b1 K H a xs ∧ SqB b2 K H b ys ∧ xs[i]? = some x ∧ ys[i]? = some y,
    fun i H v H' => ∃ T x y, v = .ref T ∧ H T = none ∧ H' = upd H T (.tup [x, y]) ∧ (∀ xs, SqB b1 K H a xs → xs[i]? = some x) ∧ ∀ ys, SqB b2 K H b ys → ys[i]? = some y,
    fun i H => ∃ xs ys : List V, SqB b1 K H a xs ∧ SqB b2 K H b ys ∧ i = min xs.length ys.length⟩
theorem turn_zipB {P : Program} {w : World} {K : PySem.W.Frag} {elts : List Expr} {kk : Nat} {tpos : Pos} {b1 b2 : Bool} {a b z TI TO i1 i2 : Addr} (S : ZipSep2 z TI TO i1 i2 [i1, a] [i2, b]) (na : a ≠ i1) (nb : b ≠ i2) :
    Turn P w K (.Tuple elts kk tpos) (ItzB K b1 b2 a b) [z, TI, TO, i1, i2] z (fun i h => IsZip h z TI TO .none ∧ IsPair h TI (.ref i1) (.ref i2) ∧ (∃ x y, IsPair h TO x y) ∧ SIt b1 h i1 a i ∧ SIt b2 h i2 b i) where
  mem := by simp
  obj := fun i h st c hc => by
    obtain ⟨hz, hTI, ⟨x, y, hTO⟩, h1, h2⟩ := st
    have e' : c = z ∨ c = TI ∨ c = TO ∨ c = i1 ∨ c = i2 := by simpa using hc
    rcases e' with q | q | q | q | q
    · rw [q]; exact ⟨_, hz, fun v q => nomatch q⟩
    · rw [q]; exact ⟨_, hTI, fun v q => nomatch q⟩
    · rw [q]; exact ⟨_, hTO, fun v q => nomatch q⟩
    · rw [q]; exact h1.live
    · rw [q]; exact h2.live
  keep := fun i h h' st k => by
    obtain ⟨hz, hTI, ⟨x, y, hTO⟩, h1, h2⟩ := st
    exact ⟨k z (by simp) _ hz, k TI (by simp) _ hTI, ⟨x, y, k TO (by simp) _ hTO⟩, h1.at' fun o q => k i1 (by simp) o q, h2.at' fun o q => k i2 (by simp) o q⟩
  item := by
    intro X hP hw hK hc i pins s σ H E I hf st hg
    subst hP hw hK
    obtain ⟨hz, hTI, ⟨x0, y0, hTO⟩, h1, h2⟩ := st
    obtain ⟨xs, ys, x, y, hqx, hqy, hx, hy⟩ := hg
    obtain ⟨its, rv, p, _⟩ := inv_sqB I hqx
    obtain ⟨its2, rv2, p2, _⟩ := inv_sqB I hqy
    obtain ⟨u, hu, ru⟩ := rv.get hx
    obtain ⟨u2, hu2, ru2⟩ := rv2.get hy
    have hzl : z < s.heap.objs.size := Heap.lt_size hz
    have l1 : i < its.toArray.size := by
      have := (List.getElem?_eq_some_iff.mp hu).1
      simpa using this
    have l2 : i < its2.toArray.size := by
      have := (List.getElem?_eq_some_iff.mp hu2).1
      simpa using this
    refine wpAny_pyNext_zipD2_item S (sit_draws (A := X.A.in1) (I.ok.hd hc) b1 i1 a na its.toArray) (sit_draws (A := X.A.in1) (I.ok.hd hc) b2 i2 b nb its2.toArray) hz hTI hTO ⟨h1, p⟩ ⟨h2, p2⟩ l1 l2 fun x1 x2 h' tk hP1 hP2 z' TO' st1 st2 hT hsz hk => ?_
    have hxu : x1 = u := by
      have q : its.toArray[i]? = some u := by simpa using hu
      rw [q] at hP1
      exact (Option.some.inj hP1).symm
    have hxu2 : x2 = u2 := by
      have q : its2.toArray[i]? = some u2 := by simpa using hu2
      rw [q] at hP2
      exact (Option.some.inj hP2).symm
    subst hxu hxu2
    refine ⟨_, rfl, wpAny_letOwnedTupleGo_zip (s := { s with heap := h', toks := tk }) z' fun h'' z'' sb => ?_⟩
    have hT2 : h''.get? s.heap.objs.size = some { cls := .type "tuple", data := .seq #[x1, x2] } := (sb.2 _ (Nat.ne_of_gt hzl)).trans hT
    have new : ObjOk X.prog X.w (upd H s.heap.objs.size (.tup [x, y])) h'' s.heap.objs.size (.tup [x, y]) :=
      ⟨by show 2 ≤ sizeLine; decide, [x1, x2], .cons ru (.cons ru2 .nil), ⟨_, hT2, rfl, _, rfl⟩⟩
    have I1 : Inv X pins σ (upd H s.heap.objs.size (.tup [x, y])) { s with heap := h'', toks := tk } :=
      I.turnedNew (t' := tk) (ch := [z, TI, TO, i1, i2]) (fun c o hb q => (sb.2 c (fun q' => hb (by simp [q']))).trans (hk c o (fun q' => hb (by simp [q'])) (fun q' => hb (by simp [q'])) (fun q' => hb (by simp [q'])) (fun q' => hb (by simp [q'])) q)) hf (Nat.le_refl _) new
    refine ⟨.ref s.heap.objs.size, _, I1, rfl, ⟨_, x, y, rfl, I.hok.fresh (Nat.le_refl _), rfl, fun l hl => by rw [sqB_inj I hl hqx]; exact hx, fun l hl => by rw [sqB_inj I hl hqy]; exact hy⟩, ⟨z'', ?_, ⟨x1, x2, ?_⟩, ?_, ?_⟩, fun c hcm => ?_⟩
    · exact (sb.2 _ S.TIz).trans (hk _ _ S.TIz S.TITO S.TIi1 S.TIi2 hTI)
    · exact (sb.2 _ S.TOz).trans TO'
    · exact st1.1.at' fun o q => (sb.2 _ S.zi1.symm).trans q
    · exact st2.1.at' fun o q => (sb.2 _ S.zi2.symm).trans q
    · have hlt : c < s.heap.objs.size := by
        have e' : c = z ∨ c = TI ∨ c = TO ∨ c = i1 ∨ c = i2 := by simpa using hcm
        rcases e' with q | q | q | q | q
        · rw [q]; exact hzl
        · rw [q]; exact Heap.lt_size hTI
        · rw [q]; exact Heap.lt_size hTO
        · rw [q]; obtain ⟨_, e1, _⟩ := h1.live; exact Heap.lt_size e1
        · rw [q]; obtain ⟨_, e2, _⟩ := h2.live; exact Heap.lt_size e2
      rw [upd_ne (Nat.ne_of_lt hlt)]
      exact (hf c hcm).1
  done := by
    intro X hP hw hK hc i pins s σ H E I hf st hg
    subst hP hw hK
    obtain ⟨hz, hTI, ⟨x0, y0, hTO⟩, h1, h2⟩ := st
    obtain ⟨xs, ys, hqx, hqy, hend⟩ := hg
    obtain ⟨its, rv, p, _⟩ := inv_sqB I hqx
    obtain ⟨its2, rv2, p2, _⟩ := inv_sqB I hqy
    have l1 := rv.length
    have l2 := rv2.length
    refine wpAny_pyNext_zipD2_end S (sit_draws (A := X.A.in1) (I.ok.hd hc) b1 i1 a na its.toArray) (sit_draws (A := X.A.in1) (I.ok.hd hc) b2 i2 b nb its2.toArray) hz hTI hTO ⟨h1, p⟩ ⟨h2, p2⟩ (by simp; omega) (by simp; omega) (by simp; omega) fun h' tk hk => ⟨rfl, I.turnedL (t' := tk) (ch := [z, TI, TO, i1, i2]) (fun c o hb q =>
      hk c o (fun q' => hb (by simp [q'])) (fun q' => hb (by simp [q'])) (fun q' => hb (by simp [q'])) (fun q' => hb (by simp [q'])) q) hf⟩
  self := fun A i s Q E st h => wpAny_pyIter_zip st.1 h
def iZipB (K : PySem.W.Frag) (ta : TA) : TI := fun σ H R => ta σ H fun vs H1 => ∃ b1 b2 a b xs ys, vs = [.ref a, .ref b] ∧ SqB b1 K H1 a xs ∧ SqB b2 K H1 b ys ∧ R (ItzB K b1 b2 a b) H1
theorem pi_zipB {X : Cx} {e e2 : Expr} {ta : TA} {p pos tpos : Pos} {elts : List Expr} {kk : Nat} (hg : Gl X "zip") (hm : X.mg "zip" = none) (ha : PA X [e, e2] ta)
    (hs : starEach [e, e2] X.env = (false, eval e X.env) :: starEach [e2] X.env := by rfl) (hpl : (backTo pos (starEach [e2] X.env)).any (·.1) = false := by rfl) :
    PI X (.Tuple elts kk tpos) (.Call (.Name "zip" p) [e, e2] [] pos) (iZipB X.K ta) := by
  refine ⟨fun pins s σ H R I h => ?_⟩
  refine Call_ (ld_blt I hg hm PyProof.Rows.boot_zip (PyProof.Rows.callWith_type1 (thn (ha.run pos pins s σ H _ I h) fun us s1 ⟨vs, H1, I1, r1, q1⟩ => ?_) hs hpl))
  obtain ⟨b1, b2, a, b, xs, ys, ex, hqx, hqy, q⟩ := q1
  subst ex
  cases r1 with
  | cons r rr =>
    cases rr with
    | cons r' rr =>
      cases rr
      cases r
      cases r'
      have fresh5 : ∀ c, c ∈ [s1.heap.objs.size + 4, s1.heap.objs.size + 2, s1.heap.objs.size + 3, s1.heap.objs.size, s1.heap.objs.size + 1] → FpOk X pins H1 c := fun c hcm => by
        have e' : c = s1.heap.objs.size + 4 ∨ c = s1.heap.objs.size + 2 ∨ c = s1.heap.objs.size + 3 ∨ c = s1.heap.objs.size ∨ c = s1.heap.objs.size + 1 := by simpa using hcm
        have hle : s1.heap.objs.size ≤ c := by
          rcases e' with z | z | z | z | z
          · rw [z]; exact Nat.le_add_right _ _
          · rw [z]; exact Nat.le_add_right _ _
          · rw [z]; exact Nat.le_add_right _ _
          · rw [z]; exact Nat.le_refl _
          · rw [z]; exact Nat.le_add_right _ _
        exact I1.fpOk hle (I1.hok.fresh hle)
      obtain ⟨its, rv, p1, la⟩ := inv_sqB I1 hqx
      obtain ⟨its2, rv2, p2, lb⟩ := inv_sqB I1 hqy
      refine zip_begins2 (sit_begins b1 a its.toArray) (sit_begins b2 b its2.toArray) p1 p2 fun h' hz hTI hTO h1 h2 hsz hk => wpAny_pyIter_zip hz ?_
      have I2 : Inv X pins σ H1 { s1 with heap := h' } := I1.kept (t' := s1.toks) hk
      have S := zip_sep2 (N := s1.heap.objs.size) (fp1 := [a]) (fp2 := [b]) (fun c hc => by rw [List.mem_singleton.mp hc]; exact la) (fun c hc => by rw [List.mem_singleton.mp hc]; exact lb)
      exact ⟨s1.heap.objs.size + 4, [s1.heap.objs.size + 4, s1.heap.objs.size + 2, s1.heap.objs.size + 3, s1.heap.objs.size, s1.heap.objs.size + 1], _, _, H1, rfl, I2, turn_zipB S (Nat.ne_of_lt la) (Nat.ne_of_lt (Nat.lt_succ_of_lt lb)), ⟨hz, hTI, ⟨_, _, hTO⟩, .start h1, .start h2⟩, fresh5, q⟩
theorem walk_zipB {K : PySem.W.Frag} {b1 b2 : Bool} {a b : Addr} {xs ys : List V} {n : Nat} (hn : n = min xs.length ys.length) : Walk (ItzB K b1 b2 a b) n (fun H => SqB b1 K H a xs ∧ SqB b2 K H b ys) (YPair (fun i => xs[i]?) (fun i => ys[i]?)) := by
  refine ⟨fun i _ hi q => ⟨xs, ys, xs[i]'(by omega), ys[i]'(by omega), q.1, q.2, by simp [show i < xs.length by omega], by simp [show i < ys.length by omega]⟩, fun _ q => ⟨xs, ys, q.1, q.2, hn⟩, fun i H v H' _ q y => ?_⟩
  obtain ⟨T, x, y, h1, h2, h3, h4, h5⟩ := y
  exact ⟨T, x, y, h1, h2, h3, h4 xs q.1, h5 ys q.2⟩
end TT

set_option Elab.async false
set_option linter.all false
set_option maxRecDepth 100000
namespace TT
open PySem PySem.Spec PyProof.Rows L2
/-! ### lists (false) and tuples (true) alike -/
theorem SqB.same {b : Bool} {K : PySem.W.Frag} {H H' : Hp} {p : Addr} {xs : List V} (h : SqB b K H p xs) (s : Same H H') : SqB b K H' p xs := by
  cases b
  · exact s.seq h
  · exact sameT s h
def seqD (b : Bool) (ds : List PyData) : PyData := match b with | true => .tuple ds | false => .list ds
theorem seq_dp {b : Bool} {K : PySem.W.Frag} {H : Hp} {v : V} {ds : List PyData} (h : Dp K H v (seqD b ds)) : ∃ p xs, v = .ref p ∧ SqB b K H p xs ∧ DpAll K H xs ds := by
  cases b
  · cases h with
    | lst h1 h2 => exact ⟨_, _, rfl, h1, h2⟩
  · cases h with
    | tup h1 h2 => exact ⟨_, _, rfl, h1, h2⟩
theorem dp_seq {b : Bool} {K : PySem.W.Frag} {H : Hp} {p : Addr} {xs : List V} {ds : List PyData} (h1 : SqB b K H p xs) (h2 : DpAll K H xs ds) : Dp K H (.ref p) (seqD b ds) := by
  cases b
  · exact .lst h1 h2
  · exact .tup h1 h2
theorem ixB {b : Bool} {K : PySem.W.Frag} {H : Hp} {p : Addr} {xs : List V} {i : Nat} {v : V} {Q : VK} (h : SqB b K H p xs) (e : xs[i]? = some v) (q : Q v H) : rIx K (.ref p) (.int (i : Int)) H Q := by
  cases b
  · exact .inl ⟨p, xs, _, v, rfl, rfl, h, atI_nat e, q⟩
  · exact .inr (.inl ⟨p, xs, _, v, rfl, rfl, h, atI_nat e, q⟩)
theorem tupB' {b : Bool} {K : PySem.W.Frag} {H : Hp} {p : Addr} {ys : List V} {Q : VK} (h : SqB b K H p ys) (q : ∀ l H', Same H H' → SqT K H' l ys → Q (.ref l) H') :
    ∃ p' ys', [V.ref p] = [.ref p'] ∧ ((SqL K H p' ys' ∧ ∀ l, H l = none → Q (.ref l) (upd H l (.tup ys'))) ∨ (SqT K H p' ys' ∧ Q (.ref p') H)) := by
  cases b
  · exact ⟨p, ys, rfl, .inl ⟨h, fun l nl => q l _ (same_upd nl) (.inl (.inl upd_same))⟩⟩
  · exact ⟨p, ys, rfl, .inr ⟨h, q p H (Same.refl H) h⟩⟩
def rTupQ (K : PySem.W.Frag) : List V → Hp → VK → Prop := fun xs H Q => ∃ p ys, xs = [.ref p] ∧ ((SqL K H p ys ∧ ∀ l, H l = none → Q (.ref l) (upd H l (.tup ys))) ∨ (SqT K H p ys ∧ Q (.ref p) H))
def rLstQ (K : PySem.W.Frag) : List V → Hp → VK → Prop := fun xs H Q => ∃ p ys, xs = [.ref p] ∧ (SqL K H p ys ∨ SqT K H p ys) ∧ ∀ l, H l = none → Q (.ref l) (upd H l (.lst ys))
def ItB (K : PySem.W.Frag) (b : Bool) (a : Addr) : It := match b with | true => Itt K a | false => Itl K a
def iSeqB (K : PySem.W.Frag) (tl : TE) : TI := fun σ H R => tl σ H fun x H1 => ∃ b a, x = .ref a ∧ (∃ xs, SqB b K H1 a xs) ∧ R (ItB K b a) H1
theorem walk_seqB {K : PySem.W.Frag} {b : Bool} {a : Addr} {xs : List V} : Walk (ItB K b a) xs.length (fun H => SqB b K H a xs) (YAt xs) := by
  cases b
  · exact walk_list
  · exact walk_tup
section
variable {X : Cx} {tg : Expr}
theorem pi_seqB {l : Expr} {tl : TE} (hl : PE X l tl) : PI X tg l (iSeqB X.K tl) := by
  refine ⟨fun pins s σ H R I h => ?_⟩
  refine thn (hl.run pins s σ H _ I h) fun v s1 ⟨x, H1, I1, r1, q1⟩ => ?_
  obtain ⟨b, a, e, ⟨xs, hq⟩, q⟩ := q1
  subst e
  cases r1
  have free : ∀ c, c ∈ [s1.heap.objs.size] → FpOk X pins H1 c := fun c hc => by
    rw [List.mem_singleton.mp hc]
    exact I1.fpOk (Nat.le_refl _) (I1.hok.fresh (Nat.le_refl _))
  cases b
  · obtain ⟨its, rv, p, hz⟩ := I1.list hq
    refine wpAny_pyIter_list p.isList ?_
    exact ⟨s1.heap.objs.size, [s1.heap.objs.size], _, _, H1, rfl, I1.kept (t' := s1.toks) fun b o e => Heap.get?_push_of_some _ e, turn_list a _, ⟨_, Heap.get?_push_size _ rfl, rfl, rfl⟩, free, q⟩
  · obtain ⟨its, rv, p, hz⟩ := I1.tuple hq
    refine wpAny_pyIter_tuple (show s1.heap.IsTuple a its.toArray from p) ?_
    exact ⟨s1.heap.objs.size, [s1.heap.objs.size], _, _, H1, rfl, I1.kept (t' := s1.toks) fun b o e => Heap.get?_push_of_some _ e, turn_tuple a _, ⟨_, Heap.get?_push_size _ rfl, rfl, rfl⟩, free, q⟩
def gSeqB (K : PySem.W.Frag) (n : Nat) (t : TGs) : TG := fun v σ H Q => ∃ b a xs, v = .ref a ∧ SqB b K H a xs ∧ xs.length = n ∧ t xs σ H Q
theorem pg_seqB {es : List Expr} {k : Nat} {t : TGs} {n : Nat} {pos : Pos} (hc : X.calm = true) (h : PGs X es t)
    (hn : (assignEach es X.env).length = n := by rfl) (hst : (assignEach es X.env).findIdx? (·.1) = none := by rfl) : PG X (.Tuple es k pos) (gSeqB X.K n t) := by
  refine ⟨fun pins s σ H v u Q I r hw => ?_⟩
  obtain ⟨b, a, xs, e1, hq, hl, hw⟩ := hw
  cases b
  · exact (pg_lst hc h hn hst).run pins s σ H v u Q I r ⟨a, xs, e1, hq, hl, hw⟩
  · exact (pg_tup hc h hn hst).run pins s σ H v u Q I r ⟨a, xs, e1, hq, hl, hw⟩
end
end TT

set_option Elab.async false
set_option linter.all false
set_option maxRecDepth 100000
namespace TT
open PySem PySem.Spec PyProof.Rows L2
/-! ### an exception that was caught and is kept: tracked behind its suite -/
def exk (a : Addr) (cls : Value) (d : Option Addr) : HO := .ext fun h => ∃ oe vs, h.get? a = some oe ∧ Zc cls d oe ∧ oe.data = .fields vs
theorem exk_ok {P : Program} {w : World} {H : Hp} {h : Heap} {a : Addr} {cls : Value} {d : Option Addr} {oe : Obj} {vs : Array Value} (e : h.get? a = some oe) (z : Zc cls d oe) (f : oe.data = .fields vs) : ObjOk P w H h a (exk a cls d) :=
  ⟨⟨oe, vs, e, z, f⟩, ⟨oe, e⟩, fun h1 h2 ⟨o', v', e', z', f'⟩ k => ⟨o', v', k _ e', z', f'⟩⟩
theorem exk_at {P : Program} {w : World} {H : Hp} {h : Heap} {a : Addr} {cls : Value} {d : Option Addr} (hok : HOk P w H h) (e : H a = some (exk a cls d)) : ∃ oe vs, h.get? a = some oe ∧ Zc cls d oe ∧ oe.data = .fields vs := by
  have x : ObjOk P w H h a (.ext fun h => ∃ oe vs, h.get? a = some oe ∧ Zc cls d oe ∧ oe.data = .fields vs) := hok a _ e
  exact x.1
section
variable {X : Cx} {pins : List (Addr × Obj)} {σ : L2.St} {H : Hp} {s : Shared} {a : Addr} {oe : Obj} {o : HO}
/-- what was pinned is tracked from now on -/
theorem track (I : Inv X ((a, oe) :: pins) σ H s) (h0 : X.s_0.heap.get? a = none) (hp : ∀ p ∈ X.pn ++ pins, p.1 ≠ a) (new : ObjOk X.prog X.w (upd H a o) s.heap a o) : Inv X pins σ (upd H a o) s := by
  obtain ⟨ga, na, nl, nf, nc⟩ := I.pin (a, oe) (List.mem_append_right _ (List.mem_cons_self ..))
  have ga : s.heap.get? a = some oe := ga
  have na : H a = none := na
  have ne0 : ∀ {b : Addr} {u : Obj}, X.s_0.heap.get? b = some u → b ≠ a := fun {b u} e z => by
    rw [z, h0] at e; cases e
  refine ⟨I.ok, I.os, I.bare, ⟨I.base.keep, I.base.slot, fun b u e n hx => ?_, I.base.there, fun b xs e => ?_, fun b u v e => ?_, fun b ps e => ?_⟩, I.loc, I.cell, ?_, fun x c e => ?_, fun p hp' => ?_, fun b u e => ?_, I.len⟩
  · rw [upd_ne (ne0 e)]; exact I.base.free b u e n hx
  · have q := I.base.tups b xs e
    rw [upd_ne (ne_of_none q na)]; exact q
  · have q := I.base.frzs b u v e
    rw [upd_ne (ne_of_none q na)]; exact q
  · obtain ⟨more, q⟩ := I.base.tbls b ps e
    exact ⟨more, by rw [upd_ne (ne_of_none q na)]; exact q⟩
  · rw [upd_ne (Ne.symm nl)]; exact I.free
  · have q : c ≠ a := fun z => by
      obtain ⟨v, hv⟩ := I.cell x c e
      rw [z] at hv
      obtain ⟨oc, e1, e2⟩ := hv
      rw [ga] at e1
      cases e1
      exact nc v e2
    rw [upd_ne q]; exact I.freeC x c e
  · have hm : p ∈ X.pn ++ (a, oe) :: pins := by
      rcases List.mem_append.mp hp' with z | z
      · exact List.mem_append_left _ z
      · exact List.mem_append_right _ (List.mem_cons_of_mem _ z)
    obtain ⟨q1, q2, q3⟩ := I.pin p hm
    exact ⟨q1, by rw [upd_ne (hp p hp')]; exact q2, q3⟩
  · by_cases hb : b = a
    · subst hb
      rw [upd_same] at e
      cases e
      exact new
    · rw [upd_ne hb] at e
      exact (I.hok b u e).stay (fun c v hc q => q) (fun c hc => by rw [upd_ne (ne_of_none hc na)]; exact hc) fun c xs hc => by rw [upd_ne (ne_of_none hc na)]; exact hc
end
/-- what "except x as n: m = n" wishes of an exception of the body: slot i is n's, slot j is m's -/
def wKeep (K : PySem.W.Frag) (c : Value) (i j : Nat) (Wout : WX) (D : Ends) : WX := fun cls d σ H =>
  ∃ b, PySem.W.exmOne K cls c = some b ∧ (b = true → ∀ a, H a = none → D.nx (((σ.set i (some (.ref a))).set j (some (.ref a))).set i none) (upd H a (exk a cls d))) ∧ (b = false → Wout cls d σ H)
section
variable {X : Cx} {x n m : Str} {c : Value} {i j : Nat} {body : List Stmt} {np pos pos' pm pn' ps : Pos} {tb : WX → TS} {Wout : WX}
theorem ps_try_keep (hs : X.stack = X.env :: X.outer) (hf : X.env.frame = some X.env.locals) (hN : X.N.Nodup) (hi : X.N[i]? = some n) (hj : X.N[j]? = some m) (hln : X.env.kindOf n = some .local) (hij : i ≠ j) (hex : X.ex = [])
    (hc : Names X x c) (tk : Takes X Wout)
    (hb : ∀ (W : WX) (pn : List (Addr × Obj)) (xe : Value → Shared → Prop), Takes (X.tr pn xe) W → PassesOwn (model X.prog X.w) X.A X.env xe → PSs (X.tr pn xe) body (tb W))
    (hsu : ∀ (a : Addr) (oe : Obj) (pn : List (Addr × Obj)), PSs (X.suite a ((a, oe) :: pn)) [.Assign [.Name m pm] (.Name n pn') ps] (tAsg (tVar i) (gName j))) :
    PS X (.Try body [.ExceptHandler (some (.Name x np)) (some n) [.Assign [.Name m pm] (.Name n pn') ps] pos'] [] [] pos) (fun D σ H => tb (wKeep X.K c i j Wout D) D σ H) := by
  refine ⟨fun pins s σ H D I h => ?_⟩
  have ok := I.ok
  have frm : X.A.frames = some (X.env :: X.outer) := by rw [ok.frames, hs]
  refine wpAny_Try_except ?_
  let hds : List ExceptHandler := [.ExceptHandler (some (.Name x np)) (some n) [.Assign [.Name m pm] (.Name n pn') ps] pos']
  let XE' : Value → Shared → Prop := fun e s₁ => wpAny (model X.prog X.w) X.A (noteFrame e X.env) (fun _ s₂ => wpAny (model X.prog X.w) X.A (setFlight e none) (fun _ s₃ => wpAny (model X.prog X.w) X.A (handleBy e X.env hds) (SP X pins D) X.xe s₃) X.xe s₂) X.xe s₁
  have hT : Takes (X.tr (X.pn ++ pins) XE') (wKeep X.K c i j Wout D) := by
    intro u s' z
    obtain ⟨a, B, s0, pn0, σ1, H1, cls, d, hu, J0, nb, up, sky, na, os, ag, b, hb1, yes, no⟩ := z
    have hu : u = .ref a := hu
    subst hu
    have J : Inv X pins σ1 H1 s0 := J0.ofTry ok
    have sky : Sky B (X.env :: X.outer) a (Zc cls d) X.env.locals s'.heap := by rw [← hs]; exact sky
    have Ba : B.get? a = none := by
      rcases sky with q | q | q
      · exact q.2.1
      · exact q.2.1
      · exact q.2.1
    show wpAny (model X.prog X.w) X.A (noteFrame (.ref a) X.env) _ _ _
    refine Sky.land Zc.steady frm hf sky fun hA fA uA => ?_
    have JA : Inv X pins σ1 H1 { s' with heap := hA } := J.landed nb fA.1 (up.trans uA) os ag
    obtain ⟨oA, vA, eA, zA, dA⟩ := fA.there
    -- the exception is no frame's record
    have notF : a ∉ frs (X.env :: X.outer) := fun hm => by
      obtain ⟨_, o', e', hnf⟩ := fA.2.2.1.mem hm
      rw [eA] at e'
      cases e'
      exact hnf _ dA
    have nL : a ≠ X.env.locals := fun z => notF (List.mem_filterMap.mpr ⟨X.env, List.mem_cons_self, by rw [hf, z]⟩)
    have nF : a ∉ X.fs := fun hm => by
      obtain ⟨e, he, q⟩ := List.mem_filterMap.mp hm
      exact notF (List.mem_filterMap.mpr ⟨e, List.mem_cons_of_mem _ he, q⟩)
    -- it wasn't there ahead of the body
    have none0 : s0.heap.get? a = none := by
      cases e : s0.heap.get? a with
      | none => rfl
      | some o =>
        have q := nb a o e (by rw [hs]; exact notF)
        rw [Ba] at q
        cases q
    have base0 : X.s_0.heap.get? a = none := by
      cases e : X.s_0.heap.get? a with
      | none => rfl
      | some o =>
        obtain ⟨o', q⟩ := J.base.there a o e (by rw [hex]; exact List.not_mem_nil)
        rw [none0] at q
        cases q
    have pin0 : ∀ p ∈ X.pn ++ pins, p.1 ≠ a := fun p hp z => by
      obtain ⟨q, _⟩ := J.pin p hp
      rw [z, none0] at q
      cases q
    refine wpAny_handleBy_cons (codeAny_handlers_test ?_) (by intro q; cases q)
    have LT : PySem.W.Looks (model X.prog X.w) hA (typeOf (.ref a)) cls := fun A Q E s k q => wpAny_typeOf_ref (k _ _ eA) (by rw [zA.1]; exact q)
    have LM := PySem.W.exm_one (M := model X.prog X.w) (JA.kIn) LT hb1
    have named : ∀ {Q : Value → Shared → Prop} {E : Value → Shared → Prop}, Q c { s' with heap := hA } → wpAny (model X.prog X.w) (X.A.mark (some (.ref a))) (eval (.Name x np) X.env) Q E { s' with heap := hA } := fun {Q E} q => by
      have SA := JA.suite eA dA na nL nF
      obtain ⟨g1, g2, g3 | ⟨g3, g4, g5⟩⟩ := hc
      · exact ld_glob (X := X.suite a ((a, oA) :: (X.pn ++ pins))) SA g1 g3 q g2
      · exact ld_blt (X := X.suite a ((a, oA) :: (X.pn ++ pins))) SA g1 g3 g4 q g5 g2
    refine named (LM.here ?_)
    cases b with
    | true =>
      refine codeAny_handlers_suite_as ?_
      refine HandSPX.lands_againZ fA fun hB fB uB => ?_
      have JB : Inv X pins σ1 H1 { s' with heap := hB } := J.landed nb fB.1 ((up.trans uA).trans uB) os ag
      obtain ⟨oB, vB, eB, zB, dB⟩ := fB.there
      have SB := JB.suite eB dB na nL nF
      refine store_ok (X := X.suite a ((a, oB) :: (X.pn ++ pins))) (v := .ref a) SB hN hi (.inl hln) rfl (fun s5 S5 => ?_) (.inr hln)
      have hil : i < σ1.length := by rw [J.len]; exact (List.getElem?_eq_some_iff.mp hi).1
      refine wpAny_mono ((hsu a oB (X.pn ++ pins)).run [] s5 _ H1 { nx := fun σ' H' => σ' = (σ1.set i (some (.ref a))).set j (some (.ref a)) ∧ H' = H1, rt := fun _ _ => False, bk := fun _ _ => False, ct := fun _ _ => False } S5 ⟨.ref a, by rw [List.getElem?_set_self hil], rfl, rfl⟩) (fun f s6 q => ?_) (fun _ _ z => False.elim z)
      cases f with
      | next =>
        obtain ⟨σ6, H6, S6, e6, e7⟩ := q
        rw [e6, e7] at S6
        obtain ⟨p1, p2, p3, p4, p5⟩ := S6.pin (a, oB) (List.mem_append_left _ List.mem_cons_self)
        have J6 : L2.Inv X ((a, oB) :: pins) ((σ1.set i (some (.ref a))).set j (some (.ref a))) H1 s6 := (S6.unsuite (pins := pins) ok).pins_of fun p hp => by
          rcases List.mem_cons.mp hp with e | hp
          · rw [e]; exact ⟨p1, p2, p3, p4, p5⟩
          · exact (S6.unsuite (pins := pins) ok).pin p (List.mem_append_right _ hp)
        refine gone_ok J6 hN hi hln fun s7 J7 => ?_
        obtain ⟨q1, _⟩ := J7.pin (a, oB) (List.mem_append_right _ List.mem_cons_self)
        exact ⟨_, _, track J7 base0 pin0 (exk_ok q1 zB dB), yes rfl a na⟩
      | brk =>
        obtain ⟨_, _, _, q⟩ := q
        exact q.elim
      | cont =>
        obtain ⟨_, _, _, q⟩ := q
        exact q.elim
      | ret u =>
        obtain ⟨_, _, _, _, _, q⟩ := q
        exact q.elim
    | false =>
      show wpAny _ X.A (handleBy (.ref a) X.env []) _ _ _
      refine wpAny_handleBy_nil ?_
      obtain ⟨_, _, _, oE, vE, T, oT, tE, w1, w2, w3, w4, w5⟩ := id fA
      unfold PySem.passOn
      refine wpAny_bind (wpAny_field w1 w3 w4 ?_)
      rw [if_neg (by simp : ¬ ((Value.ref T == Value.none) = true))]
      have on : wpAny (model X.prog X.w) X.A (setFlight (.ref a) X.env.frame) (fun _ t => wpAny (model X.prog X.w) X.A (throw (.ref a) : Sem Flow) (SP X pins D) X.xe t) X.xe { s' with heap := hA } := by
        rw [hf]
        refine HandSPX.setFlight_upZ fA fun hC fC uC => wpAny_throw (tk _ _ ⟨a, B, s0, pins, σ1, H1, cls, d, rfl, J, nb, (up.trans uA).trans uC, .inr (.inr (by rw [hs]; exact fC)), na, os, ag, no rfl⟩)
      first
        | exact wpAny_bind (wpAny_pure (wpAny_bind on))
        | exact wpAny_bind on
  refine wpAny_mono ((hb _ _ XE' hT PassesOwn.looking).run [] s σ H D (I.toTry _) h) (fun f s1 q => ?_) fun _ _ z => z
  cases f with
  | next =>
    obtain ⟨σ', H', J', q⟩ := q
    exact wpAny_execs_nil ⟨σ', H', J'.ofTry ok, q⟩
  | brk =>
    obtain ⟨σ', H', J', q⟩ := q
    exact ⟨σ', H', J'.ofTry ok, q⟩
  | cont =>
    obtain ⟨σ', H', J', q⟩ := q
    exact ⟨σ', H', J'.ofTry ok, q⟩
  | ret u =>
    obtain ⟨v, σ', H', J', r, q⟩ := q
    exact ⟨v, σ', H', J'.ofTry ok, r, q⟩
end
/-! ### what is asked of a kept one -/
/-- what the class must say -/
structure KxC (K : PySem.W.Frag) (C : Addr) : Prop where
  cl : (PySem.W.clsIn K C).isSome = true
  ga : PySem.W.findIn K (.ref C) "__getattribute__" = some (some (.builtin "BaseException.__getattribute__"))
  gt : PySem.W.findIn K (.ref C) "__getattr__" = some none
  sb : PySem.W.subIn K (.ref C) (.type "BaseException") = some true
  ca : PySem.W.findIn K (.ref C) "__class__" = some (some (.builtin "object.__class__"))
  sp : PySem.W.specialIn K (.builtin "object.__class__") "__get__" = some (some (.builtin "getset_descriptor.__get__"))
  tk : PySem.W.takesIn K (.builtin "object.__class__") = some true
  mo : PySem.W.mroIn K C (.type "object") = some true
  hd : PySem.W.hasDictIn K C = true
section
variable {X : Cx} {pins : List (Addr × Obj)} {σ : L2.St} {H : Hp} {s : Shared} {a C dd : Addr} {fs : List (Str × V)}
theorem kept_inst (I : L2.Inv X pins σ H s) (e : H a = some (exk a (.ref C) (some dd))) (ed : H dd = some (.xd fs)) :
    ∃ (oe od : Obj) (mA : Str → Option Value), PySem.W.InstAt s.heap a oe C (some od) ∧ (∀ f, RelO (fs.lookup f) (mA f)) ∧ ∀ f, PySem.W.lookIn f od = some (mA f) := by
  obtain ⟨oe, vs, e1, e2, e3⟩ := exk_at I.hok e
  obtain ⟨mA, hn, hr⟩ := (show ObjOk X.prog X.w H s.heap dd (.xd fs) from I.hok dd _ ed)
  obtain ⟨od, ho, hl⟩ := lookIn_ns hn
  exact ⟨oe, od, mA, ⟨e1, e2.1, by unfold PySem.W.notCls; rw [e3] <;> rfl, by rw [e2.2]; exact ho⟩, hr, hl⟩
end
/-- isinstance(e, c), e kept -/
def rIsX (K : PySem.W.Frag) : List V → Hp → VK → Prop := fun xs H Q => ∃ (a C dd : Addr) (fs : List (Str × V)) (c : V) (u : Value) (b : Bool), xs = [.ref a, c] ∧ H a = some (exk a (.ref C) (some dd)) ∧ H dd = some (.xd fs) ∧ KxC K C ∧ ClsV c u ∧ PySem.W.kitOne K (.ref C) u = some b ∧ Q (.bl b) H
/-- isinstance(e, (c1, c2, ..)), e kept, the tuple just laid -/
def rIsXT (K : PySem.W.Frag) : List V → Hp → VK → Prop := fun xs H Q => ∃ (a C dd tp : Addr) (fs : List (Str × V)) (cs : List V) (us : List Value) (b : Bool), xs = [.ref a, .ref tp] ∧ H a = some (exk a (.ref C) (some dd)) ∧ H dd = some (.xd fs) ∧ KxC K C ∧ H tp = some (.tup cs) ∧ Paired ClsV cs us ∧
  PySem.W.kitAny K (.ref C) us = some b ∧ Q (.bl b) H
/-- e.f, e kept -/
def tXk (K : PySem.W.Frag) (f : Str) (te : TE) : TE := fun σ H Q => te σ H fun x H1 => ∃ (a C dd : Addr) (fs : List (Str × V)) (v : V), x = .ref a ∧ H1 a = some (exk a (.ref C) (some dd)) ∧ H1 dd = some (.xd fs) ∧ KxC K C ∧ PySem.W.findIn K (.ref C) f = some none ∧ fs.lookup f = some v ∧ Q v H1
section
variable {X : Cx}
theorem call_isX : CallR X (.builtin "isinstance") (rIsX X.K) := by
  intro pins s σ H xs us Q I r h
  obtain ⟨a, C, dd, fs, c, u, b, rfl, ea, ed, T, k, e, q⟩ := h
  obtain ⟨u1, u2, rfl, r1, r2⟩ := vals2 r
  cases (show u1 = Value.ref a from r1)
  have e2 := k.eq r2
  subst e2
  obtain ⟨oe, od, mA, J, _, _⟩ := kept_inst I ea ed
  exact PySem.W.kia_one (PySem.W.kitx_exc T.cl T.ga T.gt T.sb T.ca T.sp T.tk T.mo) I.kIn J e (fun z => nomatch z) fun tk => ⟨.bl b, H, I.tok tk, rfl, q⟩
theorem call_isXT : CallR X (.builtin "isinstance") (rIsXT X.K) := by
  intro pins s σ H xs us Q I r h
  obtain ⟨a, C, dd, tp, fs, cs, ws, b, rfl, ea, ed, T, hT, k, e, q⟩ := h
  obtain ⟨u1, u2, rfl, r1, r2⟩ := vals2 r
  cases (show u1 = Value.ref a from r1)
  cases (show u2 = Value.ref tp from r2)
  obtain ⟨oe, od, mA, J, _, _⟩ := kept_inst I ea ed
  obtain ⟨_, its, rv, o, h1, h2, n, h3⟩ := (show ObjOk X.prog X.w H s.heap tp (.tup cs) from I.hok tp _ hT)
  have e3 := ClsV.all k rv
  subst e3
  obtain ⟨oc, ob, dt, sl⟩ := o
  simp only at h2 h3
  subst h2 h3
  exact PySem.W.kia_tup (PySem.W.kitx_exc T.cl T.ga T.gt T.sb T.ca T.sp T.tk T.mo) I.kIn J h1 e (fun z => nomatch z) fun tk => ⟨.bl b, H, I.tok tk, rfl, q⟩
theorem pe_xk {e : Expr} {te : TE} {pos : Pos} {f : Str} (he : PE X e te) (hb : attributeBase e f X.env (eval e X.env) = eval e X.env := by rfl) : PE X (.Attribute e f pos) (tXk X.K f te) := by
  refine ⟨fun pins s σ H Q I h => attr_of hb (thn (he.run pins s σ H _ I h) fun u s1 z => ?_)⟩
  obtain ⟨x, H1, I1, rx, a, C, dd, fs, v, ex, ea, ed, T, hf, hl, q⟩ := z
  subst ex
  cases (show u = Value.ref a from rx)
  obtain ⟨oe, od, mA, J, hr, lk⟩ := kept_inst I1 ea ed
  obtain ⟨uv, hu, ru⟩ := RelO.some_of (v := v) (o := mA f) (by rw [← hl]; exact hr f)
  exact HandSPX.exc_get I1.kIn J T.ga T.gt T.sb (PySem.W.findObj_own T.hd hf rfl (by rw [lk f, hu])) (handed_of ru) ⟨v, H1, I1.tok _, ru, q⟩
end
end TT

set_option Elab.async false
set_option linter.all false
set_option maxRecDepth 100000
set_option maxHeartbeats 2000000
namespace TT
open PySem PySem.Spec PyProof.Rows L2
/-! ### own classes of error over any built-in one, with an __init__ of their own -/
structure OexG (K : PySem.W.Frag) (C : Addr) : Prop where
  cls : ∃ (B newId initId : String) (bmB : List Value) (nm q : Str) (N : Addr) (bs bm : List Value) (sn : List Str) (sub : List Value) (ab : Bool) (col : Option Bool) (dd : Option Addr) (k0 k1 k2 k3 k5 : Option Value),
    ExcBaseFacts B newId initId bmB ∧ StoreFacts B bmB "object.__setattr__" "object" ∧ K.lookup C = some (excClassObj nm q C N bs bm true sn sub ab col dd k0 k1 k2 k3 k5 newId) ∧ PySem.W.excTail bmB bm = true
  sa : PySem.W.findIn K (.ref C) "__setattr__" = some (some (.builtin "object.__setattr__"))
  exC : PySem.W.subIn K (.ref C) (.type "BaseException") = some true
  tyC : PySem.W.typeIn K (.ref C) = some (.type "type")
  kC : PySem.W.keepIn K (.ref C) = true
section
variable {prog : Program} {w : World} {A : Around} {E : Value → Shared → Prop} {R : Result → Shared → Prop} {hp : Heap} {g : Array GenState} {d : Drawn} {t : Nat} {os : OsState} {K : PySem.W.Frag} {name : Str} {tk : Tok} {v : Value} {x C t1 : Addr}
theorem osg_over (T : OexG K C) : ∃ (B : String) (bmB : List Value), StoreFacts B bmB "object.__setattr__" "object" ∧ PySem.W.excOver K C bmB = true ∧ ∃ cd, PySem.W.clsIn K C = some cd ∧ cd.hasDict = true := by
  obtain ⟨B, newId, initId, bmB, nm, q, N, bs, bm, sn, sub, ab, col, dd, k0, k1, k2, k3, k5, F, SF, hC, hb⟩ := T.cls
  have hcl : PySem.W.clsIn K C = some { name := nm, bases := bs, mro := .ref C :: bm, ns := N, qualname := q, hasDict := true, slotNames := sn, subclasses := sub, abstract := ab, collection := col, hasDel := false } := by unfold PySem.W.clsIn; rw [hC] <;> rfl
  refine ⟨B, bmB, SF, ?_, _, hcl, rfl⟩
  unfold PySem.W.excOver
  rw [hcl]
  show (C == C && PySem.W.excTail bmB bm) = true
  rw [hb, beq_self_eq_true]; rfl
theorem taker_of (h : PySem.W.findIn K (.ref C) name = some none) : PySem.W.takerIn K C name = some none := by
  unfold PySem.W.takerIn
  rw [h]; rfl
/-- the first field of one that is being made -/
theorem osg_new (T : OexG K C) (X : K.In hp) (hx : hp.get? x = some { cls := .ref C, dict := none, data := .fields #[.ref t1, .none, .none, .none, .bool false, .none] }) (hf : PySem.W.findIn K (.ref C) name = some none)
    (hq : ∀ h' tk' dx, (∀ b o, b ≠ x → hp.get? b = some o → h'.get? b = some o) → hp.objs.size ≤ dx → dx ≠ x → h'.get? x = some { cls := .ref C, dict := some dx, data := .fields #[.ref t1, .none, .none, .none, .bool false, .none] } →
      h'.Ns1 dx (fun y => if y = name then some v else none) → R (.ok (.ret .none)) ⟨h', g, d, tk', os⟩) :
    codeAny (model prog w) A (.call (.builtin "object.__setattr__") ⟨[.ref x, .str name tk, v], []⟩) R ⟨hp, g, d, t, os⟩ := by
  obtain ⟨B, bmB, SF, ho, cd, hc, hd⟩ := osg_over T
  refine PySem.W.osa_openX (od := none) SF X ⟨hx, rfl, rfl, trivial⟩ ho (taker_of hf) fun b => ?_
  have nx : x ≠ hp.objs.size := Nat.ne_of_lt (Heap.lt_size hx)
  refine wpAny_bind (wpAny_pure (wpAny_bind (PySem.W.instanceDict_exc hx (PySem.W.looks_clsIn X hc) hd ?_)))
  refine HandSPX.store_in_new ⟨_, #[], _, (Heap.get?_update_ne _ _ _ _ nx.symm).trans (Heap.get?_push_at rfl rfl), rfl, fun e he => absurd he (by simp), fun _ => rfl⟩ fun h' tk' hn sb => ?_
  refine hq h' tk' hp.objs.size (fun b o nb eb => ?_) (Nat.le_refl _) nx.symm ?_ hn
  · exact (sb.2 b (Nat.ne_of_lt (Heap.lt_size eb))).trans ((Heap.get?_update_ne _ _ _ _ nb).trans (Heap.get?_push_of_some _ eb))
  · exact (sb.2 x nx).trans (Heap.get?_update_self _ (Heap.get?_push_of_some _ hx) rfl)
/-- a further field -/
theorem osg_old {dx : Addr} {m0 : Str → Option Value} {nl : List Str} (T : OexG K C) (X : K.In hp) (hx : hp.get? x = some { cls := .ref C, dict := some dx, data := .fields #[.ref t1, .none, .none, .none, .bool false, .none] }) (hf : PySem.W.findIn K (.ref C) name = some none)
    (hns : hp.Ns1 dx m0) (hw : Within m0 nl) (hz : nl.length ≤ 1000)
    (hq : ∀ h' tk', (∀ b o, b ≠ dx → hp.get? b = some o → h'.get? b = some o) → h'.Ns1 dx (fun y => if y = name then some v else m0 y) → R (.ok (.ret .none)) ⟨h', g, d, tk', os⟩) :
    codeAny (model prog w) A (.call (.builtin "object.__setattr__") ⟨[.ref x, .str name tk, v], []⟩) R ⟨hp, g, d, t, os⟩ := by
  obtain ⟨B, bmB, SF, ho, cd, hc, hd⟩ := osg_over T
  obtain ⟨oD, _, _, hoD, _, _⟩ := hns.count hw
  refine PySem.W.osa_openX (od := some oD) SF X ⟨hx, rfl, rfl, hoD⟩ ho (taker_of hf) fun b => ?_
  refine wpAny_bind (wpAny_pure (wpAny_bind (wpAny_bind (wpAny_loadPart hx (wpAny_bind ((PySem.W.looks_clsIn X hc).here ?_))))))
  rw [hd]
  refine wpAny_pure (a := some dx) ?_
  exact PySem.OEX.store_in_old hns hw hz fun h' tk' hn sb => hq h' tk' (fun b o nb eb => (sb.2 b nb).trans eb) hn
end
section
variable {X : Cx} {pins : List (Addr × Obj)} {σ : L2.St} {H : Hp} {s : Shared} {a C dx : Addr} {f : Str} {y : V} {u : Value} {fs : List (Str × V)} {Q : Unit → Shared → Prop} {E : Value → Shared → Prop} {A : Around}
theorem ostg_new (T : OexG X.K C) (I : L2.Inv X pins σ H s) (e : H a = some (exo a C none)) (hno : PySem.W.findIn X.K (.ref C) f = some none) (ry : RelV y u)
    (h : ∀ dx s', H dx = none → dx ≠ a → L2.Inv X pins σ (upd (upd H dx (exd dx [(f, y)])) a (exo a C (some dx))) s' → Q () s') : wpAny (model X.prog X.w) A (setAttr (.ref a) f u) Q E s := by
  obtain ⟨t1, ho⟩ := exo_at I.hok e
  obtain ⟨hp, g, d, t, os⟩ := s
  refine PySem.W.set_plain I.kIn (od := none) ⟨ho, rfl, rfl, trivial⟩ T.sa (osg_new T I.kIn ho hno fun h' tk' dx k dn dne hx hn => ?_)
  have free : H dx = none := I.hok.fresh dn
  have old : ∀ {b : Addr} {o : Obj}, hp.get? b = some o → b ≠ dx := fun q => Nat.ne_of_lt (Nat.lt_of_lt_of_le (Heap.lt_size q) dn)
  have noa : ∀ {b : Addr}, H b = none → b ≠ a := fun n z => by
    rw [z, e] at n; cases n
  have look : ∀ {b : Addr} {v : HO}, H b = some v → exo a C none ≠ v → (upd (upd H dx (exd dx [(f, y)])) a (exo a C (some dx))) b = some v := fun {b v} q ne => by
    rw [upd_ne (at_ne e q ne), upd_ne (ne_of_none q free)]; exact q
  have un : Un X.fs [] H (upd (upd H dx (exd dx [(f, y)])) a (exo a C (some dx))) hp h' := ⟨fun b o q n _ _ => k b o (noa n) q, fun b o q n _ _ => ⟨o.slots, k b o (noa n) q⟩,
    fun b o q n _ => by rw [upd_ne (noa n), upd_ne (old q)]; exact n,
    fun b o q _ => by
      by_cases hb : b = a
      · exact ⟨_, by rw [hb]; exact hx⟩
      · exact ⟨o, k b o hb q⟩,
    fun b xs q => look q exo_tup, fun b o v q => look q exo_frz, fun b ps q => ⟨#[], by rw [look q exo_tbl]; simp⟩⟩
  refine h dx _ free dne (I.un (t' := tk') un fun b o q => ?_)
  by_cases hb : b = a
  · subst hb
    rw [upd_same] at q
    cases q
    exact exo_ok hx
  rw [upd_ne hb] at q
  by_cases hd : b = dx
  · subst hd
    rw [upd_same] at q
    cases q
    exact exd_ok hn (relO_put (fs := []) ry fun g => True.intro)
  rw [upd_ne hd] at q
  refine (I.hok b o q).stay (fun c v hc z => k c v ?_ z) (fun c hc => look hc exo_own) fun c xs hc => look hc exo_tup
  rcases hc with hc | hc
  · rw [hc]; exact hb
  · exact at_ne e hc exo_own
theorem ostg_old (T : OexG X.K C) (I : L2.Inv X pins σ H s) (e : H a = some (exo a C (some dx))) (ed : H dx = some (exd dx fs)) (hl : fs.length ≤ 900) (hno : PySem.W.findIn X.K (.ref C) f = some none) (ry : RelV y u)
    (h : ∀ s', L2.Inv X pins σ (upd H dx (exd dx ((f, y) :: fs))) s' → Q () s') : wpAny (model X.prog X.w) A (setAttr (.ref a) f u) Q E s := by
  obtain ⟨t1, ho⟩ := exo_at I.hok e
  obtain ⟨mA, hns, rel⟩ := exd_at I.hok ed
  have hw := within_of rel
  obtain ⟨hp, g, d, t, os⟩ := s
  obtain ⟨oD, _, _, hoD, _, _⟩ := hns.count hw
  refine PySem.W.set_plain I.kIn (od := some oD) ⟨ho, rfl, rfl, hoD⟩ T.sa (osg_old T I.kIn ho hno hns hw (by rw [List.length_map]; omega) fun h' tk' k hn => ?_)
  obtain ⟨o', es', ep', eo', r'⟩ := id hn
  exact h _ (I.write (t' := tk') (x := dx) (e := dx) (o := exd dx ((f, y) :: fs)) (by rw [ed]; exact True.intro) (.inl rfl) k ⟨o', eo'⟩ (exd_ok hn (relO_put ry rel)))
end
/-- self.f = e, of one that is being made -/
def tOsg (K : PySem.W.Frag) (f : Str) (to te : TE) : TS := fun D σ H => te σ H fun y H1 => to σ H1 fun x H2 => ∃ a C : Addr, x = .ref a ∧ OexG K C ∧ PySem.W.findIn K (.ref C) f = some none ∧
  ((H2 a = some (exo a C none) ∧ ∀ dx, H2 dx = none → dx ≠ a → D.nx σ (upd (upd H2 dx (exd dx [(f, y)])) a (exo a C (some dx)))) ∨
    ∃ (dx : Addr) (fs : List (Str × V)), H2 a = some (exo a C (some dx)) ∧ H2 dx = some (exd dx fs) ∧ fs.length ≤ 900 ∧ D.nx σ (upd H2 dx (exd dx ((f, y) :: fs))))
/-- C(e, ..), C's own __init__ keeping sp -/
def tMkG (C : Addr) (sp : Sp) (ta : TA) : L2.St → Hp → XK → Prop := fun σ H Q => ta σ H fun vs H1 => vs.length ≤ 1000 ∧ ∀ a, H1 a = none → sp (.ref a :: vs) (upd H1 a (exo a C none))
  (fun v H2 => v = .non ∧ ∃ (d : Addr) (fs : List (Str × V)), H2 a = some (exo a C (some d)) ∧ H2 d = some (exd d fs) ∧ H1 d = none ∧ Q (.ref C) (some d) (upd (del H2 a) d (.xd fs))) (fun _ _ _ => False)
section
variable {X : Cx} {o e : Expr} {es : List Expr} {to te : TE} {ta : TA} {f : Str} {p p' pos : Pos}
theorem ps_osg (ho : PE X o to) (he : PE X e te) (hs : swapsWith e (some (.Attribute o f p')) pos.line X.env = pure false := by rfl) : PS X (.Assign [.Attribute o f p'] e pos) (tOsg X.K f to te) := by
  refine ⟨fun pins s σ H D I h => plainObj_wpAny_Assign_Attribute (thn (he.run pins s σ H _ I h) fun v s1 ⟨y, H1, I1, r1, q1⟩ => thn (ho.run pins s1 σ H1 _ I1 q1) fun u s2 ⟨x, H2, I2, r2, a, C, ex, T, hno, q⟩ => ?_) hs⟩
  subst ex
  cases (show u = Value.ref a from r2)
  rcases q with ⟨ea, q⟩ | ⟨dx, fs, ea, ed, hl, q⟩
  · exact ostg_new T I2 ea hno r1 fun dx s' n ne J => ⟨σ, _, J, q dx n ne⟩
  · exact ostg_old T I2 ea ed hl hno r1 fun s' J => ⟨σ, _, J, q⟩
theorem pmk_oxg {CX : CXT} {x : Str} {C fI : Addr} {k : Nat} {fd : FuncData} {ps : List Str} {sp : Sp} (T : OexG X.K C) (iC : PySem.W.findIn X.K (.ref C) "__init__" = some (some (.ref fI))) (tI : PySem.W.typeIn X.K (.ref fI) = some (.type "function"))
    (F1 : FnOk X.prog X.w X.K X.mg X.base CX k fI fd ps sp) (hr : Room (k + 1) X.A) (hb : Binds X.K fd ps []) (hx : Passes CX X (fun _ _ _ => False)) (hg : Gl X x) (hm : X.mg x = some (.ref C)) (ha : PA X (e :: es) ta)
    (hdb : (x == ("__debug__" : Str)) = false := by decide) (he : starEach (e :: es) X.env = (false, eval e X.env) :: starEach es X.env := by rfl) (hpl : (backTo pos (starEach es X.env)).any (·.1) = false := by rfl) :
    PMk X (.Call (.Name x p) (e :: es) [] pos) (tMkG C sp ta) := by
  intro pins s σ H Q I h
  obtain ⟨B, newId, initId, bmB, nm, q, N, bs, bm, sn, sub, ab, col, dd, k0, k1, k2, k3, k5, F, SF, hC, hbm⟩ := T.cls
  refine wpAny_Call_Name_kw (ld_glob I hg hm ?_ hdb)
  refine PySem.W.callWith_K (h₀ := X.base) I.ok.mod.kin T.kC (thn (ha.run pos pins s σ H _ I h) fun us s1 ⟨vs, H1, I1, r1, hz, q1⟩ => ⟨I1.kIn, ?_⟩) he hpl
  show wpAny _ _ (call (.ref C) us) _ _ _
  obtain ⟨hp, g, dr, tk, os⟩ := s1
  generalize hA : hp.objs.size + 1 = A0
  have sz : hp.objs.size ≤ A0 := by omega
  have hn : H1 A0 = none := I1.hok.fresh sz
  have hq := q1 A0 hn
  generalize hG : (hp.push (PySem.W.kdv_tup us)).push (PySem.HandSPX.excO C hp.objs.size) = G
  have kk : ∀ b o, hp.get? b = some o → G.get? b = some o := fun b o e => by
    rw [← hG]; exact Heap.get?_push_of_some _ (Heap.get?_push_of_some _ e)
  have hget : G.get? A0 = some (PySem.HandSPX.excO C hp.objs.size) := by
    rw [← hG, ← hA]; heap_get
  have I2 : L2.Inv X pins σ (upd H1 A0 (exo A0 C none)) ⟨G, g, dr, tk, os⟩ := I1.laid (t' := tk) (a := A0) (o := exo A0 C none) (h' := G) kk sz (exo_ok hget)
  have r2 : Vals (V.ref A0 :: vs) (Value.ref A0 :: us) := .cons rfl r1
  have hl : (Value.ref A0 :: us).length = ps.length := by
    rw [← r2.length]
    exact F1.len _ _ _ _ hq
  have hus : us.length ≤ sizeLine := by
    rw [← Paired.length r1, sizeLine_eq]
    omega
  have bd := hb ⟨G, g, dr, tk, os⟩ (Value.ref A0 :: us) I2.kIn (by rw [List.append_nil]; exact hl)
  rw [List.append_nil] at bd
  refine wpAny_call (PySem.HandSPX.call_own F (fun Y => PySem.W.excTail_contains Y bm hbm) (I1.kIn _ _ hC) (PySem.W.looks_findIn I1.kIn iC) (fun self => PySem.W.bind_fn I1.kIn self tI) hus ?_)
  rw [hA, hG]
  refine codeAny_mono (F1.run _ X.stack _ _ ⟨Value.ref A0 :: us, []⟩ (Value.ref A0 :: us) _ _ (fun _ _ _ => False) (hr.make C us []) (I2.env0.make C us []) bd r2 hq) fun r s' z => ?_
  cases r with
  | error er => exact hx pins σ _ _ er s' I2 z
  | ok fl =>
    cases fl with
    | ret u =>
      obtain ⟨v, H2, os2, bare2, un2, hok2, rv, ev, d, fs, ea, ed, hd1, q2⟩ := z
      subst ev
      obtain ⟨h2, g2, d2, t2, os'⟩ := s'
      exact ⟨rv, mk_end (raises_own T.exC T.tyC) I1 sz kk un2 hok2 os2 bare2 ea ed hd1 q2⟩
    | next => exact z.elim
    | brk => exact z.elim
    | cont => exact z.elim
end
end TT

set_option Elab.async false
set_option linter.all false
set_option maxRecDepth 100000
namespace TT
open PySem PySem.Spec PyProof.Rows L2
/-! ### an error of two fields: its __init__, raised -/
def spInitF (f1 f2 : Str) (K : PySem.W.Frag) (C : Addr) : Sp := fun vs H Q _ => ∃ (a : Addr) (x y : V), vs = [.ref a, x, y] ∧ H a = some (exo a C none) ∧ ∀ dx, H dx = none → dx ≠ a → Q .non (upd (upd (upd H dx (exd dx [(f1, x)])) a (exo a C (some dx))) dx (exd dx [(f2, y), (f1, x)]))
structure Ers (P : Program) (w : World) (K : PySem.W.Frag) (mg : Str → Option Value) (base : Heap) (cn f1 f2 : Str) (C : Addr) : Prop where
  oex : OexG K C
  g : mg cn = some (.ref C)
  init : ∃ fI fd, PySem.W.findIn K (.ref C) "__init__" = some (some (.ref fI)) ∧ PySem.W.typeIn K (.ref fI) = some (.type "function") ∧ Binds K fd ["self", f1, f2] [] ∧ FnOk P w K mg base CX0 1 fI fd ["self", f1, f2] (spInitF f1 f2 K C)
section
variable {X : Cx} {C : Addr} {k : Nat} {W : WX} {e : Expr} {es : List Expr} {ta : TA} {p pos pos2 : Pos} {cn f1 f2 : Str}
theorem ps_ers (N : Ers X.prog X.w X.K X.mg X.base cn f1 f2 C) (hc : X.calm = true) (hr : Room k X.A) (tk : Takes X W) (ha : PA X (e :: es) ta) (hk : 2 ≤ k := by decide) (hg : Gl X cn := by rfl) (hdb : (cn == ("__debug__" : Str)) = false := by decide)
    (he : starEach (e :: es) X.env = (false, eval e X.env) :: starEach es X.env := by rfl) (hpl : (backTo pos (starEach es X.env)).any (·.1) = false := by rfl) :
    PS X (.Raise (some (.Call (.Name cn p) (e :: es) [] pos)) none pos2) (fun _ σ H => tMkG C (spInitF f1 f2 X.K C) ta σ H fun cls d H' => W cls d σ H') := by
  obtain ⟨fI, fd, iC, tI, hb, F1⟩ := N.init
  exact ps_raise hc tk (pmk_oxg N.oex iC tI F1 (hr.mono hk) hb pass0 hg N.g ha hdb he hpl)
end
theorem ers_raise {K : PySem.W.Frag} {C : Addr} {f1 f2 : Str} {x y : V} {H1 : Hp} {Q : XK} (h : ∀ d, H1 d = none → Q (.ref C) (some d) (upd H1 d (.xd [(f2, y), (f1, x)]))) :
    ([x, y] : List V).length ≤ 1000 ∧ ∀ a, H1 a = none → spInitF f1 f2 K C (.ref a :: [x, y]) (upd H1 a (exo a C none))
      (fun v H2 => v = .non ∧ ∃ (d : Addr) (fs : List (Str × V)), H2 a = some (exo a C (some d)) ∧ H2 d = some (exd d fs) ∧ H1 d = none ∧ Q (.ref C) (some d) (upd (del H2 a) d (.xd fs))) (fun _ _ _ => False) := by
  refine ⟨(by show 2 ≤ 1000; decide), fun a na => ⟨a, x, y, rfl, upd_same, fun dx n ne => ⟨rfl, dx, _, ?_, upd_same, ?_, ?_⟩⟩⟩
  · rw [upd_ne (Ne.symm ne), upd_same]
  · rw [upd_ne ne] at n; exact n
  · have n' : H1 dx = none := by rw [upd_ne ne] at n; exact n
    have z := h dx n'
    have e : upd (del (upd (upd (upd (upd H1 a (exo a C none)) dx (exd dx [(f1, x)])) a (exo a C (some dx))) dx (exd dx [(f2, y), (f1, x)])) a) dx (.xd [(f2, y), (f1, x)]) = upd H1 dx (.xd [(f2, y), (f1, x)]) := by
      funext b
      by_cases h1 : b = dx
      · subst h1; rw [upd_same, upd_same]
      · rw [upd_ne h1, upd_ne h1]
        by_cases h2 : b = a
        · subst h2; rw [del_same, na]
        · rw [del_ne h2, upd_ne h1, upd_ne h2, upd_ne h1, upd_ne h2]
    rw [e]
    exact z
/-- an own def that may raise -/
def DefX (P : Program) (w : World) (K : PySem.W.Frag) (mg : Str → Option Value) (base : Heap) (k : Nat) (x : Str) (ps : List Str) (sp : Sp) : Prop :=
  ∃ f fd, mg x = some (.ref f) ∧ PySem.W.keepIn K (.ref f) = true ∧ Binds K fd ps [] ∧ FnOk P w K mg base (L2.CX P w) k f fd ps sp
theorem DefX.mk {P : Program} {w : World} {K : PySem.W.Frag} {mg : Str → Option Value} {base : Heap} {k : Nat} {x : Str} {ps : List Str} {sp : Sp} {f : Addr} {fd : FuncData} (h1 : mg x = some (.ref f)) (h2 : PySem.W.keepIn K (.ref f) = true) (h3 : Binds K fd ps []) (h4 : FnOk P w K mg base (L2.CX P w) k f fd ps sp) : DefX P w K mg base k x ps sp := ⟨f, fd, h1, h2, h3, h4⟩
section
variable {X : Cx} {k j : Nat} {x : Str} {ps : List Str} {sp : Sp} {p pos : Pos} {e : Expr} {es : List Expr} {t : TA} {W : WX}
theorem pe_ownX (D : DefX X.prog X.w X.K X.mg X.base k x ps sp) (hr : Room j X.A) (tk : Takes X W) (ha : PA X (e :: es) t) (hkj : k ≤ j := by decide) (hg : Gl X x := by rfl) (hdb : (x == ("__debug__" : Str)) = false := by decide)
    (he : starEach (e :: es) X.env = (false, eval e X.env) :: starEach es X.env := by rfl) (hpl : (backTo pos (starEach es X.env)).any (·.1) = false := by rfl) :
    PE X (.Call (.Name x p) (e :: es) [] pos) (tCallS sp (WE W) t) := by
  obtain ⟨f, fd, hm, hk, hb, F⟩ := D
  exact pe_callS F (hr.mono hkj) hg hm hk hb (fun σ => passAt tk σ) ha hdb he hpl
end
end TT

set_option Elab.async false
set_option linter.all false
set_option maxRecDepth 100000
namespace TT
open PySem PySem.Spec PyProof.Rows L2
/-! ### enumerate(tuple) -/
set_option maxHeartbeats 1000000 in
theorem meets_enum1 {v : Value} {o : Obj} {H : Heap → Prop} (B : Begins v o H) :
    Meets (Builtin.«enumerate.__new__» ⟨[.type "enumerate", v], []⟩) (fun _ R s => H s.heap ∧
      R (.ok (.ret (.ref (s.heap.push o).objs.size))) { s with heap := (s.heap.push o).push { cls := .type "enumerate", data := .fields #[.none, .bool false, .ref s.heap.objs.size, rawInt 0, .none, .none] } }) := by
  refine .of_wp fun prog w A R s ⟨h1, h⟩ => ?_
  obtain ⟨hp, g, d, tk, os⟩ := s
  have sb := sub_enumerate
  have st : ∀ {A' : Around} {E : Value → Shared → Prop} {Q : Value → Shared → Prop}, Q (.ref hp.objs.size) ⟨hp.push o, g, d, tk, os⟩ → wpAny (model prog w) A' (pyIter v) Q E ⟨hp, g, d, tk, os⟩ := fun q => B.iter prog w _ _ _ _ h1 q
  wp_walk using st
  refine wpAny_stack_any fun z => wpAny_pure (?_)
  split
  · rename_i c _ _ _ _ _
    cases (c == Value.type "enumerate") <;> (wp_walk using st; exact ⟨_, rfl, h⟩)
  · wp_walk using st
    exact ⟨_, rfl, h⟩
section
variable {prog : Program} {w : World} {A : Around} {E : Value → Shared → Prop} {s : Shared}
theorem call_enum1 {v : Value} {o : Obj} {H : Heap → Prop} {Q : Value → Shared → Prop} (B : Begins v o H) (h1 : H s.heap)
    (h : ∀ h', IsEnum h' (s.heap.objs.size + 1) s.heap.objs.size 0 .none → h'.get? s.heap.objs.size = some o → (∀ b o, s.heap.get? b = some o → h'.get? b = some o) → Q (.ref (s.heap.objs.size + 1)) { s with heap := h' }) :
    wpAny (model prog w) A (call (.type "enumerate") [v]) Q E s := by
  refine callType_new F.called_enumerate (by decide) (F.typeCall_enumerate_1 _) (F.newCall_enumerate_1 _) (fun ob => F.args_object_init_2 ob _) F.entry_enumerate_new (meets_enum1 B) ⟨h1, ?_⟩
  have hz : (s.heap.push o).objs.size = s.heap.objs.size + 1 := Heap.size_push ..
  show _ ∧ _
  rw [hz]
  have he : IsEnum ((s.heap.push o).push { cls := .type "enumerate", data := .fields #[.none, .bool false, .ref s.heap.objs.size, rawInt 0, .none, .none] }) (s.heap.objs.size + 1) s.heap.objs.size 0 .none := by
    have q := Heap.get?_push_size (s.heap.push o) (o := { cls := .type "enumerate", data := .fields #[.none, .bool false, .ref s.heap.objs.size, rawInt 0, .none, .none] }) rfl
    rw [hz] at q
    exact q
  exact ⟨⟨_, he, rfl⟩, h _ he (Heap.get?_push_of_some _ (Heap.get?_push_size _ B.free)) fun b o x => Heap.get?_push_of_some _ (Heap.get?_push_of_some _ x)⟩
end
def IteT (K : PySem.W.Frag) (a : Addr) : It :=
  ⟨fun i H => ∃ (xs : List V) (x : V), SqT K H a xs ∧ xs[i]? = some x, fun i H v H' => ∃ T x, v = .ref T ∧ H T = none ∧ H' = upd H T (.tup [.int (i : Nat), x]) ∧ ∀ xs, SqT K H a xs → xs[i]? = some x, fun i H => ∃ xs : List V, SqT K H a xs ∧ xs.length = i⟩
theorem turn_enumT {P : Program} {w : World} {K : PySem.W.Frag} {elts : List Expr} {kk : Nat} {tpos : Pos} (a e it : Addr) :
    Turn P w K (.Tuple elts kk tpos) (IteT K a) [e, it] e (fun i h => (∃ old, IsEnum h e it ((i : Nat) : Int) old) ∧ h.IsTupleIter it a i ∧ e ≠ it) where
  mem := by simp
  obj := fun i h st b hb => by
    obtain ⟨⟨old, he⟩, ⟨o, ho, hc, hd⟩, _⟩ := st
    have q : b = e ∨ b = it := by simpa using hb
    rcases q with rfl | rfl
    · exact ⟨_, he, fun v q => nomatch q⟩
    · exact ⟨o, ho, fun v q => by rw [hd] at q; cases q⟩
  keep := fun i h h' st k => let ⟨⟨old, he⟩, hi, hne⟩ := st; ⟨⟨old, k e (by simp) _ he⟩, hi.at fun o q => k it (by simp) o q, hne⟩
  item := by
    intro X hP hw hK hc i pins s σ H E I hf st hg
    subst hP hw hK
    obtain ⟨⟨old, he⟩, hit, hne⟩ := st
    obtain ⟨xs, x, hq, hx⟩ := hg
    obtain ⟨its, rv, p, hz⟩ := I.tuple hq
    obtain ⟨u, hu, ru⟩ := rv.get hx
    have p' : s.heap.IsTuple a its.toArray := p
    obtain ⟨oa, ea, ca, na, da⟩ := id p
    obtain ⟨oi, ei, ci, di⟩ := id hit
    have nai : a ≠ it := fun z => by
      rw [z, ei] at ea
      cases ea
      exact absurd (Value.type.inj (ci.symm.trans ca)) (by decide)
    have nea : e ≠ a := fun z => by
      have q := he
      unfold IsEnum at q
      rw [z, ea] at q
      have q2 := Option.some.inj q
      rw [q2] at ca
      exact absurd (Value.type.inj ca) (by decide)
    have hel : e < s.heap.objs.size := Heap.lt_size he
    have hil : it < s.heap.objs.size := Heap.lt_size ei
    have li : i < its.toArray.size := by
      have := (List.getElem?_eq_some_iff.mp hu).1
      simpa using this
    refine wpAny_pyNext_enum_itemD (Draws.tuple (A := X.A.in1) (I.ok.hd hc) it a nai its.toArray) he ⟨hit, p'⟩ li hne (by simp [hne, nea]) fun x1 h' tk hP ho hst hT hsz hk => ?_
    have hxu : x1 = u := by
      have q : its.toArray[i]? = some u := by simpa using hu
      rw [q] at hP
      exact (Option.some.inj hP).symm
    subst hxu
    refine ⟨_, rfl, wpAny_letOwnedTupleGo_enum (s := { s with heap := h', toks := tk + 1 }) ho fun h'' he' sb => ?_⟩
    have hT2 : h''.get? s.heap.objs.size = some { cls := .type "tuple", data := .seq #[.int i tk, x1] } := (sb.2 _ (Nat.ne_of_gt hel)).trans hT
    have I1 : L2.Inv X pins σ (upd H s.heap.objs.size (.tup [.int (i : Nat), x])) { s with heap := h'', toks := tk + 1 } :=
      I.turnedNew (ch := [e, it]) (fun b ob hb q => (sb.2 b (fun z => hb (by simp [z]))).trans (hk b ob (fun z => hb (by simp [z])) (fun z => hb (by simp [z])) q)) hf (Nat.le_refl _)
        ⟨by show 2 ≤ sizeLine; decide, [.int i tk, x1], .cons ⟨_, rfl⟩ (.cons ru .nil), ⟨_, hT2, rfl, _, rfl⟩⟩
    refine ⟨.ref s.heap.objs.size, _, I1, rfl, ⟨_, x, rfl, I.hok.fresh (Nat.le_refl _), rfl, fun ys hy => by rw [I.tuple_inj hy hq]; exact hx⟩, ⟨⟨x1, ?_⟩, hst.1.at fun o q => (sb.2 it (Ne.symm hne)).trans q, hne⟩, fun b hb => ?_⟩
    · rw [show ((i + 1 : Nat) : Int) = (i : Int) + 1 by omega]; exact he'
    · have q : b = e ∨ b = it := by simpa using hb
      have hb' : b < s.heap.objs.size := by
        rcases q with z | z
        · rw [z]; exact hel
        · rw [z]; exact hil
      rw [upd_ne (Nat.ne_of_lt hb')]
      exact (hf b hb).1
  done := by
    intro X hP hw hK hc i pins s σ H E I hf st hg
    subst hP hw hK
    obtain ⟨⟨old, he⟩, hit, hne⟩ := st
    obtain ⟨xs, hq, hx⟩ := hg
    obtain ⟨its, rv, p, hz⟩ := I.tuple hq
    obtain ⟨oa, ea, ca, na, da⟩ := id p
    obtain ⟨oi, ei, ci, di⟩ := id hit
    have nai : a ≠ it := fun z => by
      rw [z, ei] at ea
      cases ea
      exact absurd (Value.type.inj (ci.symm.trans ca)) (by decide)
    obtain ⟨f0, f1, f2, f3, f4, f5⟩ := hf it (by simp)
    have hl := rv.length
    have e1 : its.toArray.size = i := by simp; omega
    exact wpAny_pyNext_enum_endD (Draws.tuple (A := X.A.in1) (I.ok.hd hc) it a nai its.toArray) he (by rw [e1]; exact ⟨hit, p⟩) fun h' eb => ⟨rfl, I.turned (t' := s.toks) (fun b o hb q => eb b o hb q) f0 f1 f3 f4 f5⟩
  self := fun A i s Q E st h => let ⟨⟨_, he⟩, _⟩ := st; wpAny_pyIter_enum he h
def iEnumT (K : PySem.W.Frag) (ta : TA) : TI := fun σ H R => ta σ H fun vs H1 => ∃ a xs, vs = [.ref a] ∧ SqT K H1 a xs ∧ R (IteT K a) H1
theorem pi_enumT {X : Cx} {e : Expr} {ta : TA} {p pos tpos : Pos} {elts : List Expr} {kk : Nat} (hg : Gl X "enumerate") (hm : X.mg "enumerate" = none) (ha : PA X [e] ta) (hs : starEach [e] X.env = [(false, eval e X.env)] := by rfl) :
    PI X (.Tuple elts kk tpos) (.Call (.Name "enumerate" p) [e] [] pos) (iEnumT X.K ta) := by
  refine ⟨fun pins s σ H R I h => Call_ (ld_blt I hg hm boot_enumerate (PyProof.Rows.callWith_type1 (thn (ha.run pos pins s σ H _ I h) fun us s1 ⟨vs, H1, I1, r1, a, xs, ex, hq, q⟩ => ?_) hs rfl))⟩
  subst ex
  cases r1 with
  | cons r rr =>
    cases rr
    cases r
    obtain ⟨its, rv, p', hz⟩ := I1.tuple hq
    refine call_enum1 (begins_tuple a its.toArray) (show s1.heap.IsTuple a its.toArray from p') fun h' he hit hk => wpAny_pyIter_enum he ?_
    have I2 : L2.Inv X pins σ H1 { s1 with heap := h' } := I1.kept (t' := s1.toks) hk
    refine ⟨s1.heap.objs.size + 1, [s1.heap.objs.size + 1, s1.heap.objs.size], _, _, H1, rfl, I2, turn_enumT a (s1.heap.objs.size + 1) s1.heap.objs.size, ⟨⟨.none, he⟩, ⟨_, hit, rfl, rfl⟩, Nat.succ_ne_self _⟩, fun b hb => ?_, q⟩
    have q2 : b = s1.heap.objs.size + 1 ∨ b = s1.heap.objs.size := by simpa using hb
    have hle : s1.heap.objs.size ≤ b := by
      rcases q2 with z | z
      · rw [z]; exact Nat.le_add_right _ _
      · rw [z]; exact Nat.le_refl _
    exact I1.fpOk hle (I1.hok.fresh hle)
theorem walk_enumT {K : PySem.W.Frag} {a : Addr} {xs : List V} : Walk (IteT K a) xs.length (fun H => SqT K H a xs) (YPair (fun i => some (.int (i : Nat))) (fun i => xs[i]?)) := by
  refine ⟨fun i _ hi q => ⟨xs, xs[i], q, by simp [hi]⟩, fun _ q => ⟨xs, q, rfl⟩, fun i H v H' _ q y => ?_⟩
  obtain ⟨T, x, h1, h2, h3, h4⟩ := y
  exact ⟨T, .int (i : Nat), x, h1, h2, h3, rfl, h4 xs q⟩
end TT

set_option Elab.async false
set_option linter.all false
set_option maxRecDepth 100000
namespace TT
open PySem PySem.Spec PyProof.Rows L2
section
variable {prog : Program} {w : World} {A : Around} {E : Value → Shared → Prop} {s : Shared}
theorem ints_at {us : List Value} {xs : List Int} (r : Vals (xs.map V.int) us) (i : Nat) (v : Value) (e : us[i]? = some v) : ∃ k t, xs[i]? = some k ∧ v = .int k t := by
  have hl : xs.length = us.length := by rw [← r.length, List.length_map]
  have hi : i < xs.length := by rw [hl]; exact (List.getElem?_eq_some_iff.mp e).1
  obtain ⟨u, h1, t, h2⟩ := r.get (i := i) (x := .int xs[i]) (by rw [List.getElem?_map, List.getElem?_eq_getElem hi]; rfl)
  rw [e] at h1
  cases h1
  exact ⟨_, t, List.getElem?_eq_getElem hi, h2⟩
abbrev bareSetI (led : Bool) : Obj := { cls := .type "set", dict := none, data := .set #[] 0 (.fresh 0 0 led) }
set_option maxHeartbeats 4000000 in
/-- set(xs), xs a list of whole numbers -/
theorem call_set_listI {l : Addr} {items : Array Value} {ns : List Int} {Q : Value → Shared → Prop} (hh : A.handled = none) (hl : s.heap.IsList l items) (hi : Vals (ns.map V.int) items.toList) (hb : ns.length + 1 < scanBound)
    (q : ∀ (h' : Heap) (tk c : Nat), SetR w h' s.heap.objs.size (fun j => decide (j ∈ ns)) c → c ≤ ns.length → (∀ b o, s.heap.get? b = some o → h'.get? b = some o) → Q (.ref s.heap.objs.size) { s with heap := h', toks := tk }) :
    wpAny (model prog w) A (call (.type "set") [.ref l]) Q E s := by
  have size : ns.length = items.size := by rw [← Array.length_toList, ← hi.length, List.length_map]
  obtain ⟨c, tl, hmro⟩ := PySem.F.called_set.mro
  have g1 := PySem.F.called_set.made
  have g2 := PySem.F.called_set.sub
  have g3 := PySem.F.called_set.notType
  have g4 := PySem.F.called_set.canCreate
  have g5 := PySem.F.typeCall_set_1 (.ref l)
  refine wpAny_call (codeAny_of_tree ?_)
  show wpAny _ _ (callAny (.type "set") _) _ _ _
  refine wpAny_pure ⟨Code.quiet_builtin _ (by decide +kernel), codeAny_builtin PySem.F.entry_type_call ?_⟩
  rw [Around.under_plain (weight_type_call_type "set" [.ref l] []) rfl]
  repeat (any_goals (first | assumption | wp_step))
  -- the new object
  refine codeAny_mono (code_set_led1 (.ref l) (E := E) (Q₁ := fun v s1 => v = .ref s.heap.objs.size ∧ s1 = { s with heap := s.heap.push (bareSetI (!w.params.followText "set-order")) }) ⟨rfl, rfl⟩) fun r s1 hr => ?_
  rcases r with e | fl
  · exact hr
  cases fl with
  | next => exact hr.elim
  | brk => exact hr.elim
  | cont => exact hr.elim
  | ret v =>
    obtain ⟨rfl, rfl⟩ := hr
    generalize hled : (!w.params.followText "set-order") = led
    have gN : (s.heap.push (bareSetI led)).get? s.heap.objs.size = some (bareSetI led) := Heap.get?_push_size _ rfl
    have gT : Shared.TypeIs { s with heap := s.heap.push (bareSetI led) } (.ref s.heap.objs.size) "set" := ⟨_, gN, rfl⟩
    have g6 := PySem.F.called_set.init.lookup
    have g7 := PySem.F.called_set.init.bind (.ref s.heap.objs.size)
    repeat (any_goals (first | assumption | wp_step))
    -- its __init__
    refine codeAny_mono (codeAny_call_builtin (R := wants (fun r s2 => r = .none ∧ ∃ h' tk c, s2 = { s with heap := h', toks := tk } ∧ SetR w h' s.heap.objs.size (fun j => decide (j ∈ ns)) c ∧ c ≤ ns.length ∧ (∀ b o, s.heap.get? b = some o → h'.get? b = some o)) E)
      PySem.F.called_set.init.plain PySem.F.entry_set_init (check_set_init_1 gT ?_)) fun r2 s2 hr2 => ?_
    · obtain ⟨⟨oc, od, oda, osl⟩, go, hc, nl, hd⟩ := hl
      simp only at hc hd
      subst hc
      subst hd
      have go' : (s.heap.push (bareSetI led)).get? l = some { cls := .type "list", dict := od, data := .seq items nl, slots := osl } := Heap.get?_push_of_some _ go
      have g8 := PySem.F.sub_list_set
      have g9 := PySem.F.sub_list_frozenset
      have g10 : (Value.type "list" == Value.type "dict") = false := by decide
      have gl : (s.heap.push (bareSetI led)).IsList l items := ⟨_, go', rfl, nl, rfl⟩
      unfold Builtin.«set.__init__» noKeywords Builtin.Frozenset.updateFrom
      generalize hPI : pyIter = PI
      wp_walk
      subst hPI
      refine wpAny_pyIter_list gl (wpAny_bind (wpAny_runValue ?_))
      have ll : l < s.heap.objs.size := Heap.lt_size go
      have sz1 : (s.heap.push (bareSetI led)).objs.size = s.heap.objs.size + 1 := Heap.size_push ..
      have a1 : l ≠ (s.heap.push (bareSetI led)).objs.size := by rw [sz1]; exact Nat.ne_of_lt (Nat.lt_succ_of_lt ll)
      have a2 : s.heap.objs.size ∉ [(s.heap.push (bareSetI led)).objs.size, l] := by
        rw [sz1]
        intro z
        rcases List.mem_cons.mp z with z | z
        · exact Nat.ne_of_lt (Nat.lt_succ_self _) z
        · exact Nat.ne_of_gt ll (List.mem_singleton.mp z)
      have a3 : A.in1.in1.in1.handled = none := by simp [hh]
      refine set_update_ints (ns := ns) ((Walks.list a3 _ l a1 items).toS) s.heap.objs.size a2 size.symm hb (fun i v e => ints_at hi i v (by rw [Array.getElem?_toList]; exact e)) items.size 0 _ (by omega) (Nat.zero_le _) ⟨⟨_, Heap.get?_push_size _ rfl, rfl, rfl⟩, gl.push _⟩ ⟨0, Nat.le_refl _, setR_new_at ?_⟩ ?_
      · exact (Heap.get?_push_of_some _ gN).trans (by rw [← hled])
      · rintro ⟨h', g', d', tk', os'⟩ c mv hc hS
        obtain rfl : g' = s.gens := mv.gens
        obtain rfl : d' = s.drawn := mv.drawn
        obtain rfl : os' = s.os := mv.os
        show wpAny _ _ _ _ _ _
        refine wpAny_pure ?_
        show wpAny _ _ (ret Value.none) _ _ _
        refine wpAny_pure ⟨rfl, h', tk', c, rfl, hS, by omega, fun b o e => mv.heap b o ?_ (Heap.get?_push_of_some _ (Heap.get?_push_of_some _ e))⟩
        have lt := Heap.lt_size e
        rw [sz1]
        intro z
        rcases List.mem_cons.mp z with z | z
        · exact Nat.ne_of_lt lt z
        · exact Nat.ne_of_lt (Nat.lt_succ_of_lt lt) (List.mem_singleton.mp z)
    · rcases r2 with e | fl2
      · exact hr2
      cases fl2 with
      | next => exact hr2.elim
      | brk => exact hr2.elim
      | cont => exact hr2.elim
      | ret r =>
        obtain ⟨rfl, h', tk, c, rfl, hS, hc, keep⟩ := hr2
        repeat (any_goals (first | assumption | wp_step))
        exact q _ _ _ hS hc keep
end
/-- sorted(set(xs)), xs a list of whole numbers -/
def tSortSet (K : PySem.W.Frag) (ta : TE) : TE := fun σ H Q => ta σ H fun x H1 => ∃ (l : Addr) (ns : List Int), x = .ref l ∧ SqL K H1 l (ns.map V.int) ∧ ns.length ≤ 60 ∧
  ∀ (p : Addr) (H' : Hp) (ks : List Int), Same H1 H' → H1 p = none → ks.Pairwise (· < ·) → (∀ k, k ∈ ks ↔ k ∈ ns) → ks.length ≤ ns.length → H' p = some (.lst (ks.map V.int)) → Q (.ref p) H'
theorem pe_sortSet {X : Cx} {a : Expr} {ta : TE} {p p2 q pos : Pos} (hm : X.mg "sorted" = none) (hm2 : X.mg "set" = none) (ha : PE X a ta) (hg : Gl X "sorted" := by rfl) (hg2 : Gl X "set" := by rfl) (hc : X.calm = true := by rfl)
    (na : starEach [a] X.env = (false, eval a X.env) :: starEach [] X.env := by rfl) : PE X (.Call (.Name "sorted" p) [.Call (.Name "set" p2) [a] [] q] [] pos) (tSortSet X.K ta) := by
  refine ⟨fun pins s σ H Q I h => ?_⟩
  refine Call_ (ld_blt I hg hm (show bootBuiltins ("sorted" : Str) = some (.builtin "sorted") by decide +kernel) (PyProof.Rows.callWith_builtin1 (PyProof.Rows.args_cons ?_ rfl) rfl rfl))
  refine Call_ (ld_blt I hg2 hm2 boot_set ?_)
  refine PyProof.Rows.callWith_type1 (PyProof.Rows.args_cons (thn (ha.run pins s σ H _ I h) fun v s1 ⟨x, H1, I1, r1, q1⟩ => PyProof.Rows.args_nil ?_) na) na rfl
  obtain ⟨l, ns, rfl, hq, hl, q1⟩ := q1
  cases r1
  obtain ⟨its, r, pl, hz⟩ := I1.list hq
  refine call_set_listI (I1.ok.hd hc) pl.isList (by simpa using r) (by unfold scanBound; omega) fun h' tk c hS hcn hk => PyProof.Rows.args_nil ?_
  have fr : H1 s1.heap.objs.size = none := I1.hok.fresh (Nat.le_refl _)
  have I2 : Inv X pins σ (upd H1 s1.heap.objs.size (SetO X.w s1.heap.objs.size (fun j => decide (j ∈ ns)) c)) { s1 with heap := h', toks := tk } := I1.laid (t' := tk) hk (Nat.le_refl _) (setO_new hS)
  refine cr_sortedSet hc pins _ σ _ [.ref s1.heap.objs.size] [.ref s1.heap.objs.size] Q I2 (.cons rfl .nil) ⟨_, _, _, rfl, upd_same, by omega, fun ks P up hmem hlen nP => ?_⟩
  refine q1 P _ ks ((same_upd fr).trans (same_upd nP)) (Same.free (same_upd fr) nP) up (fun k => ?_) (by omega) upd_same
  rw [hmem k]
  exact decide_eq_true_iff
end TT

set_option Elab.async false
set_option linter.all false
set_option maxRecDepth 100000
namespace TT
open PySem PySem.Spec PyProof.Rows L2
/-! ### list(zip(..)): the tuples are kept -/
abbrev ZK (h : Heap) (z TI TO T : Addr) (b : Bool) : Prop := h.get? z = some { cls := .type "zip", data := .fields #[rawInt T, .bool b, .bool false, .ref TI, .ref TO] }
section
variable {prog : Program} {w : World} {A : Around} {E : Value → Shared → Prop} {s : Shared} {z TI TO T i1 i2 : Addr} {fp1 fp2 : List Addr} {n1 n2 i : Nat} {P1 P2 : Nat → Value → Prop} {St1 St2 : Nat → Heap → Prop} {bb : Bool}
theorem zip_py {o : Obj} {Q : Option Value → Shared → Prop} (hz : s.heap.get? z = some o) (hc : o.cls = .type "zip")
    (q : wpAny (model prog w) A.in1 (Builtin.«zip.__next__» ⟨[.ref z], []⟩) (fun fin s' => ∃ v, fin = .done (.ret v) ∧ Q (some v) s') (fun e s' => (∃ a o, e = .ref a ∧ s'.heap.get? a = some o ∧ o.cls = .type "StopIteration") ∧ Q none s') s) :
    wpAny (model prog w) A (pyNext (.ref z)) Q E s := by
  have gT : Shared.TypeIs s (.ref z) "zip" := ⟨o, hz, hc⟩
  obtain ⟨oc, od, oda, osl⟩ := o
  simp only at hc
  subst hc
  have g1 := PySem.F.slot_zip_next.lookup
  have g2 := PySem.F.slot_zip_next.bind (.ref z)
  unfold pyNext
  wp_walk
  refine codeAny_mono (codeAny_call_builtin (R := fun r s' => (∃ v, r = .ok (.ret v) ∧ Q (some v) s') ∨ (∃ e, r = .error e ∧ (∃ a o, e = .ref a ∧ s'.heap.get? a = some o ∧ o.cls = .type "StopIteration") ∧ Q none s'))
    PySem.F.slot_zip_next.plain PySem.F.entry_zip_next (PySem.F.slot_zip_next.check _ _ _ _ _ _ _ _ gT (by trivial) ?_)) fun r s2 hr => ?_
  · refine wpAny_mono q (fun fin s' ⟨v, e, hq⟩ => ?_) (fun e s' h => .inr ⟨e, rfl, h⟩)
    subst e
    exact .inl ⟨v, rfl, hq⟩
  · rcases hr with ⟨v, rfl, hq⟩ | ⟨e, rfl, ⟨a, o, rfl, ha, hcls⟩, hq⟩
    · wp_walk
      exact hq
    · obtain ⟨oc, od2, oda2, osl2⟩ := o
      simp only at hcls
      subst hcls
      have g3 : isSubtype (.type "StopIteration") (.type "StopIteration") = pure true := by rfl
      wp_walk
      exact hq
theorem zk_upd {h : Heap} (hz : ZK h z TI TO T bb) : ZK (h.update z (Obj.mapFields fun x => x.setIfInBounds 1 (Value.bool true))) z TI TO T true := by
  unfold ZK at hz ⊢
  exact Heap.get?_update_self (Obj.mapFields fun x => x.setIfInBounds 1 (Value.bool true)) hz rfl
theorem zip_kept_item {o : Obj} {Q : Value → Shared → Prop} (D1 : Draws prog w A i1 fp1 n1 P1 St1) (D2 : Draws prog w A i2 fp2 n2 P2 St2) (hz : ZK s.heap z TI TO T bb) (hT : s.heap.get? T = some o) (hTI : IsTupOf2 s.heap TI (.ref i1) (.ref i2))
    (h1 : St1 i s.heap) (h2 : St2 i s.heap) (hi1 : i < n1) (hi2 : i < n2) (sep : ∀ b ∈ fp2, b ≠ i1 ∧ b ≠ z) (sep1 : ∀ b ∈ fp1, b ≠ i2 ∧ b ≠ z) (zi1 : z ≠ i1) (zi2 : z ≠ i2)
    (q : ∀ (x1 x2 : Value) (h' : Heap) (tk : Nat), P1 i x1 → P2 i x2 → St1 (i + 1) h' → St2 (i + 1) h' → ZK h' z TI TO T true → (∀ (c : Addr) (o : Obj), c ≠ z → c ≠ i1 → c ≠ i2 → s.heap.get? c = some o → h'.get? c = some o) →
      s.heap.objs.size ≤ h'.objs.size → Q (.ref h'.objs.size) { s with heap := h'.push { cls := .type "tuple", data := .seq #[x1, x2] }, toks := tk }) :
    wpAny (model prog w) A (Builtin.«zip.__next__» ⟨[.ref z], []⟩) (fun fin s' => ∃ v, fin = .done (.ret v) ∧ Q v s') E s := by
  unfold ZK rawInt at hz
  unfold IsTupOf2 at hTI
  unfold Builtin.«zip.__next__» Builtin.SmallTypes.ownedTupleIsFree
  wp_walk
  show wpAny _ _ (loadIfAlive (T : Int).toNat) _ _ _
  rw [Int.toNat_natCast]
  refine W.kdx_alive hT ?_
  obtain ⟨h0, e0, ehz, eh0, esz⟩ : ∃ h0 : Heap, h0 = (if bb = true then s.heap else s.heap.update z (Obj.mapFields fun x => x.setIfInBounds 1 (Value.bool true))) ∧ ZK h0 z TI TO T true ∧ (∀ c, c ≠ z → h0.get? c = s.heap.get? c) ∧ h0.objs.size = s.heap.objs.size := by
    refine ⟨_, rfl, ?_⟩
    cases bb
    · exact ⟨zk_upd hz, fun c hc => Heap.get?_update_ne _ _ _ _ hc, Heap.size_update ..⟩
    · exact ⟨hz, fun _ _ => rfl, rfl⟩
  have h10 : St1 i h0 := D1.frame i _ _ h1 fun b hb o e => by rw [eh0 b (sep1 b hb).2]; exact e
  have h20 : St2 i h0 := D2.frame i _ _ h2 fun b hb o e => by rw [eh0 b (sep b hb).2]; exact e
  cases bb
  all_goals (
    first
      | rw [if_neg Bool.false_ne_true] at e0
      | rw [if_pos rfl] at e0
    repeat ((fail_if_success (apply wpAny_forIn_array')); wp_step)
    rw [← e0]
    refine wpAny_forIn_array' _ (fun l b s' => (l = [.ref i1, .ref i2] ∧ b = (none, #[]) ∧ s'.heap = h0 ∧ s'.gens = s.gens ∧ s'.drawn = s.drawn ∧ s'.os = s.os) ∨
      (∃ x1, l = [.ref i2] ∧ b = (none, #[x1]) ∧ P1 i x1 ∧ St1 (i + 1) s'.heap ∧ Heap.SameBut i1 h0 s'.heap ∧ s'.gens = s.gens ∧ s'.drawn = s.drawn ∧ s'.os = s.os) ∨
      (∃ x1 x2 h1, l = [] ∧ b = (none, #[x1, x2]) ∧ P1 i x1 ∧ P2 i x2 ∧ St1 (i + 1) h1 ∧ St2 (i + 1) s'.heap ∧ Heap.SameBut i1 h0 h1 ∧ Heap.SameBut i2 h1 s'.heap ∧ s'.gens = s.gens ∧ s'.drawn = s.drawn ∧ s'.os = s.os)) _ (fun x rest b s' hI => ?_) (fun b s' hI => ?_) _ _ (.inl ⟨rfl, rfl, rfl, rfl, rfl, rfl⟩)
    · rcases hI with ⟨e, rfl, h1', h2', h3', h4'⟩ | ⟨x1, e, rfl, p1, st1, sb, h2', h3', h4'⟩ | ⟨x1, x2, hh, e, _⟩
      · cases e
        dsimp only
        refine wpAny_bind (wpAny_holding ?_)
        change wpAny _ _ (Builtin.SmallTypes.nextOf (.ref i1) >>= fun x => pure (some x)) _ _ _
        refine wpAny_bind (D1.item i s' _ _ hi1 (by rw [h1']; exact h10) fun x h' tk p st sb => wpAny_pure ?_)
        refine wpAny_pure ?_
        exact .inr (.inl ⟨x, rfl, rfl, p, st, (by rw [← h1']; exact sb), h2', h3', h4'⟩)
      · cases e
        dsimp only
        refine wpAny_bind (wpAny_holding ?_)
        change wpAny _ _ (Builtin.SmallTypes.nextOf (.ref i2) >>= fun x => pure (some x)) _ _ _
        refine wpAny_bind (D2.item i s' _ _ hi2 (D2.frame i _ _ h20 fun b hb o e => by rw [sb.2 b (sep b hb).1]; exact e) fun x h' tk p st sb2 => wpAny_pure ?_)
        refine wpAny_pure ?_
        exact .inr (.inr ⟨x1, x, _, rfl, rfl, p1, p, st1, st, sb, sb2, h2', h3', h4'⟩)
      · cases e
    · rcases hI with ⟨e, _⟩ | ⟨x1, e, _⟩ | ⟨x1, x2, hh, _, rfl, p1, p2, st1, st2, sb, sb2, h2', h3', h4'⟩
      · cases e
      · cases e
      · dsimp only
        refine wpAny_bind (wpAny_newTuple ?_ (by show 2 ≤ sizeLine; decide))
        refine wpAny_pure ⟨_, rfl, ?_⟩
        obtain ⟨h'', g', d', tk', os'⟩ := s'
        simp only at h2' h3' h4'
        subst h2' h3' h4'
        refine q x1 x2 h'' tk' p1 p2 (D1.frame (i + 1) _ _ st1 fun b hb o e => by rw [sb2.2 b (sep1 b hb).1]; exact e) st2 ?_ (fun c o n0 n1 n2 e => ?_) ?_
        · unfold ZK
          rw [sb2.2 z zi2, sb.2 z zi1]
          exact ehz
        · rw [sb2.2 c n2, sb.2 c n1, eh0 c n0]; exact e
        · rw [sb2.1, sb.1, esz]; exact Nat.le_refl _)
theorem zip_kept_end {o : Obj} {Q : PySem.Fin → Shared → Prop} (D1 : Draws prog w A i1 fp1 n1 P1 St1) (hz : ZK s.heap z TI TO T bb) (hT : s.heap.get? T = some o) (hTI : IsTupOf2 s.heap TI (.ref i1) (.ref i2))
    (h1 : St1 n1 s.heap) (sep1 : ∀ b ∈ fp1, b ≠ z)
    (q : ∀ (h' : Heap) (e : Addr), (∀ (c : Addr) (o : Obj), c ≠ z → c ≠ i1 → s.heap.get? c = some o → h'.get? c = some o) → (∃ o, h'.get? e = some o ∧ o.cls = .type "StopIteration") → E (.ref e) { s with heap := h' }) :
    wpAny (model prog w) A (Builtin.«zip.__next__» ⟨[.ref z], []⟩) Q E s := by
  unfold ZK rawInt at hz
  unfold IsTupOf2 at hTI
  unfold Builtin.«zip.__next__» Builtin.SmallTypes.ownedTupleIsFree
  wp_walk
  show wpAny _ _ (loadIfAlive (T : Int).toNat) _ _ _
  rw [Int.toNat_natCast]
  refine W.kdx_alive hT ?_
  obtain ⟨h0, e0, eh0⟩ : ∃ h0 : Heap, h0 = (if bb = true then s.heap else s.heap.update z (Obj.mapFields fun x => x.setIfInBounds 1 (Value.bool true))) ∧ (∀ c, c ≠ z → h0.get? c = s.heap.get? c) := by
    refine ⟨_, rfl, ?_⟩
    cases bb
    · exact fun c hc => Heap.get?_update_ne _ _ _ _ hc
    · exact fun _ _ => rfl
  have h10 : St1 n1 h0 := D1.frame n1 _ _ h1 fun b hb o e => by rw [eh0 b (sep1 b hb)]; exact e
  cases bb
  all_goals (
    first
      | rw [if_neg Bool.false_ne_true] at e0
      | rw [if_pos rfl] at e0
    repeat ((fail_if_success (apply wpAny_forIn_array')); wp_step)
    rw [← e0]
    refine wpAny_forIn_array' _ (fun l b s' => l = [.ref i1, .ref i2] ∧ b = (none, #[]) ∧ s'.heap = h0 ∧ s'.gens = s.gens ∧ s'.drawn = s.drawn ∧ s'.os = s.os ∧ s'.toks = s.toks) _ (fun x rest b s' hI => ?_) (fun b s' hI => ?_) _ _ ⟨rfl, rfl, rfl, rfl, rfl, rfl, rfl⟩
    · obtain ⟨e, rfl, h1', h2', h3', h4', h5'⟩ := hI
      cases e
      dsimp only
      refine wpAny_bind (wpAny_holding ?_)
      change wpAny _ _ (Builtin.SmallTypes.nextOf (.ref i1) >>= fun x => pure (some x)) _ _ _
      obtain ⟨h'', g', d', tk', os'⟩ := s'
      simp only at h1' h2' h3' h4' h5'
      subst h1' h2' h3' h4' h5'
      refine wpAny_bind (D1.done _ _ _ h10 fun h' e ext ho => ?_)
      exact q h' e (fun c o n0 n1 ec => ext c o n1 (by rw [eh0 c n0]; exact ec)) ho
    · cases hI.1)
end
end TT

set_option Elab.async false
set_option linter.all false
set_option maxRecDepth 100000
namespace TT
open PySem PySem.Spec PyProof.Rows L2
/-- what is made of so many -/
structure Made (H H' : Hp) (S : Addr) (xs ys : List V) (Ts : List Addr) (i : Nat) : Prop where
  at' : H' S = some (.lst (Ts.map V.ref))
  len : Ts.length = i
  it : ∀ (j : Nat) (T : Addr), Ts[j]? = some T → ∃ x y, xs[j]? = some x ∧ ys[j]? = some y ∧ H' T = some (.tup [x, y]) ∧ H T = none ∧ T ≠ S
  kept : Kept [S] H H'
/-- where the zip stands -/
structure ZSt (h : Heap) (z TI TO i1 i2 a b : Addr) (b1 b2 : Bool) (xs ys : Array Value) (i : Nat) : Prop where
  z : (IsZip h z TI TO .none ∧ ∃ a1 a2, IsTupOf2 h TO a1 a2) ∨ ∃ T bb o, ZK h z TI TO T bb ∧ h.get? T = some o ∧ T ∉ [z, TI, TO, i1, i2]
  TI : IsTupOf2 h TI (.ref i1) (.ref i2)
  s1 : SIt b1 h i1 a i ∧ SAt b1 h a xs
  s2 : SIt b2 h i2 b i ∧ SAt b2 h b ys
structure Apart (z TI TO i1 i2 a b : Addr) : Prop where
  sep : ZipSep2 z TI TO i1 i2 [i1, a] [i2, b]
  na : a ≠ i1
  nb : b ≠ i2
  a2 : a ≠ i2
  ab : b ≠ i1
  az : a ≠ z
  bz : b ≠ z
  i12 : i1 ≠ i2
  z1 : z ≠ i1
  z2 : z ≠ i2
section
variable {prog : Program} {w : World} {A : Around} {E : Value → Shared → Prop} {s : Shared} {z TI TO i1 i2 a b : Addr} {b1 b2 : Bool} {xs ys : Array Value} {i : Nat}
theorem zst_item {Q : Option Value → Shared → Prop} (hh : A.handled = none) (P : Apart z TI TO i1 i2 a b) (Z : ZSt s.heap z TI TO i1 i2 a b b1 b2 xs ys i) (h1 : i < xs.size) (h2 : i < ys.size)
    (q : ∀ (T : Addr) (x y : Value) (h' : Heap) (tk : Nat), s.heap.objs.size ≤ T → xs[i]? = some x → ys[i]? = some y → h'.get? T = some { cls := .type "tuple", data := .seq #[x, y] } →
      (∀ (c : Addr) (o : Obj), c ∉ [z, TI, TO, i1, i2] → s.heap.get? c = some o → h'.get? c = some o) → ZSt h' z TI TO i1 i2 a b b1 b2 xs ys (i + 1) → Q (some (.ref T)) { s with heap := h', toks := tk }) :
    wpAny (model prog w) A (pyNext (.ref z)) Q E s := by
  have hh' : A.in1.handled = none := by simp [hh]
  have D1 := sit_draws (prog := prog) (w := w) hh' b1 i1 a P.na xs
  have D2 := sit_draws (prog := prog) (w := w) hh' b2 i2 b P.nb ys
  rcases Z.z with ⟨hz, a1, a2, hTO⟩ | ⟨T0, bb, o, hz, hT, oT⟩
  · refine wpAny_pyNext_zipD2_item P.sep D1 D2 hz Z.TI hTO Z.s1 Z.s2 h1 h2 fun x1 x2 h' tk e1 e2 hz' hTO' st1 st2 hT hsz hk => ?_
    have kk : ∀ (c : Addr) (o : Obj), c ∉ [z, TI, TO, i1, i2] → s.heap.get? c = some o → h'.get? c = some o := fun c o hc e => hk c o (fun q => hc (by simp [q])) (fun q => hc (by simp [q])) (fun q => hc (by simp [q])) (fun q => hc (by simp [q])) e
    have nT : s.heap.objs.size ∉ [z, TI, TO, i1, i2] := fun q => by
      have q : s.heap.objs.size = z ∨ s.heap.objs.size = TI ∨ s.heap.objs.size = TO ∨ s.heap.objs.size = i1 ∨ s.heap.objs.size = i2 := by simpa using q
      rcases q with q | q | q | q | q
      · exact absurd (Heap.lt_size hz) (by rw [← q]; exact Nat.lt_irrefl _)
      · exact absurd (Heap.lt_size Z.TI) (by rw [← q]; exact Nat.lt_irrefl _)
      · exact absurd (Heap.lt_size hTO) (by rw [← q]; exact Nat.lt_irrefl _)
      · obtain ⟨o, e, _⟩ := Z.s1.1.live
        exact absurd (Heap.lt_size e) (by rw [← q]; exact Nat.lt_irrefl _)
      · obtain ⟨o, e, _⟩ := Z.s2.1.live
        exact absurd (Heap.lt_size e) (by rw [← q]; exact Nat.lt_irrefl _)
    exact q s.heap.objs.size x1 x2 h' tk (Nat.le_refl _) e1 e2 hT kk ⟨.inr ⟨_, false, _, hz', hT, nT⟩, hk _ _ P.sep.TIz P.sep.TITO P.sep.TIi1 P.sep.TIi2 Z.TI, st1, st2⟩
  · refine zip_py hz rfl ?_
    refine wpAny_mono (zip_kept_item (Q := fun v s' => Q (some v) s') (E := fun _ _ => False) D1 D2 hz hT Z.TI Z.s1 Z.s2 h1 h2 (fun c hc => ?_) (fun c hc => ?_) P.z1 P.z2 fun x1 x2 h' tk e1 e2 st1 st2 hz' hk hsz => ?_) (fun _ _ h => h) (fun _ _ h => h.elim)
    · have hc : c = i2 ∨ c = b := by simpa using hc
      rcases hc with rfl | rfl
      · exact ⟨P.i12.symm, P.z2.symm⟩
      · exact ⟨P.ab, P.bz⟩
    · have hc : c = i1 ∨ c = a := by simpa using hc
      rcases hc with rfl | rfl
      · exact ⟨P.i12, P.z1.symm⟩
      · exact ⟨P.a2, P.az⟩
    · have hT' : (h'.push { cls := .type "tuple", data := .seq #[x1, x2] }).get? h'.objs.size = some { cls := .type "tuple", data := .seq #[x1, x2] } := Heap.get?_push_size _ rfl
      have kp : ∀ (c : Addr) (o : Obj), h'.get? c = some o → (h'.push { cls := .type "tuple", data := .seq #[x1, x2] }).get? c = some o := fun c o e => Heap.get?_push_of_some _ e
      refine q h'.objs.size x1 x2 _ tk hsz e1 e2 hT' (fun c o hc e => kp _ _ (hk c o (fun q => hc (by simp [q])) (fun q => hc (by simp [q])) (fun q => hc (by simp [q])) e)) ⟨.inr ⟨_, true, _, kp _ _ hz', kp _ _ (hk _ _ (fun q => oT (by simp [q])) (fun q => oT (by simp [q])) (fun q => oT (by simp [q])) hT), oT⟩, ?_, ?_, ?_⟩
      · exact kp _ _ (hk _ _ P.sep.TIz P.sep.TIi1 P.sep.TIi2 Z.TI)
      · exact D1.frame _ _ _ st1 fun c _ o e => kp c o e
      · exact D2.frame _ _ _ st2 fun c _ o e => kp c o e
theorem zst_end {Q : Option Value → Shared → Prop} (hh : A.handled = none) (P : Apart z TI TO i1 i2 a b) (Z : ZSt s.heap z TI TO i1 i2 a b b1 b2 xs ys i) (h1 : i = xs.size) (h2 : i = ys.size)
    (q : ∀ (h' : Heap) (tk : Nat), (∀ (c : Addr) (o : Obj), c ∉ [z, TI, TO, i1, i2] → s.heap.get? c = some o → h'.get? c = some o) → Q none { s with heap := h', toks := tk }) :
    wpAny (model prog w) A (pyNext (.ref z)) Q E s := by
  have hh' : A.in1.handled = none := by simp [hh]
  have D1 := sit_draws (prog := prog) (w := w) hh' b1 i1 a P.na xs
  have D2 := sit_draws (prog := prog) (w := w) hh' b2 i2 b P.nb ys
  rcases Z.z with ⟨hz, a1, a2, hTO⟩ | ⟨T0, bb, o, hz, hT, oT⟩
  · exact wpAny_pyNext_zipD2_end P.sep D1 D2 hz Z.TI hTO Z.s1 Z.s2 (Nat.le_of_eq h1) (Nat.le_of_eq h2) (.inl h1) fun h' tk hk => q h' tk fun c o hc e => hk c o (fun q => hc (by simp [q])) (fun q => hc (by simp [q])) (fun q => hc (by simp [q])) (fun q => hc (by simp [q])) e
  · refine zip_py hz rfl ?_
    refine zip_kept_end D1 hz hT Z.TI (by rw [← h1]; exact Z.s1) (fun c hc => ?_) fun h' e hk ho => ⟨?_, q h' _ fun c o hc e => hk c o (fun q => hc (by simp [q])) (fun q => hc (by simp [q])) e⟩
    · have hc : c = i1 ∨ c = a := by simpa using hc
      rcases hc with rfl | rfl
      · exact P.z1.symm
      · exact P.az
    · obtain ⟨o, h1, h2⟩ := ho
      exact ⟨e, o, rfl, h1, h2⟩
end
theorem vals_snoc {vs : List V} {us : List Value} {v : V} {u : Value} (a : Vals vs us) (h : RelV v u) : Vals (vs ++ [v]) (us ++ [u]) := by
  induction a with
  | nil => exact .cons h .nil
  | cons x t ih => exact .cons x ih
section
variable {X : Cx} {pins : List (Addr × Obj)} {σ : L2.St} {H : Hp} {A : Around} {E : Value → Shared → Prop} {z TI TO i1 i2 a b S : Addr} {b1 b2 : Bool} {its its2 : List Value} {xs ys : List V}
set_option maxHeartbeats 4000000 in
theorem zip_loop (hh : A.handled = none) (P : Apart z TI TO i1 i2 a b) (rv : Vals xs its) (rv2 : Vals ys its2) (hl : ys.length = xs.length) (few : xs.length ≤ 900) (hS : S ∉ [z, TI, TO, i1, i2, a, b]) :
    ∀ (m i : Nat) (s : Shared) (H' : Hp) (Ts : List Addr), i + m = xs.length → Inv X pins σ H' s → Made H H' S xs ys Ts i → ZSt s.heap z TI TO i1 i2 a b b1 b2 its.toArray its2.toArray i → (∀ c ∈ [z, TI, TO, i1, i2], FpOk X pins H' c) → (∀ c ∈ [z, TI, TO, i1, i2], c < s.heap.objs.size) →
      codeAny (model X.prog X.w) A (Code.builtin "list.extend.loop" ⟨[.ref S, .ref z, .none], []⟩) (wants (fun r s2 => r = .none ∧ ∃ H' Ts, Inv X pins σ H' s2 ∧ Made H H' S xs ys Ts xs.length) E) s := by
  have l1 : its.toArray.size = xs.length := by rw [List.size_toArray, ← rv.length]
  have l2 : its2.toArray.size = xs.length := by rw [List.size_toArray, ← rv2.length, hl]
  have hh1 : A.in1.handled = none := by simp [hh]
  intro m
  induction m with
  | zero =>
    intro i s H' Ts him I M Z hf hlt
    obtain rfl : i = xs.length := by omega
    refine codeAny_builtin PySem.F.entry_extend_loop ?_
    rw [Around.under_plainId PySem.F.plain_extend_loop _]
    show wpAny _ A.in1 (pyNext (.ref z) >>= _) _ _ s
    refine wpAny_bind (zst_end hh1 P Z l1.symm l2.symm fun h' tk kk => ?_)
    show wpAny _ A.in1 (ret Value.none) _ _ _
    exact wpAny_pure ⟨rfl, H', Ts, I.turnedL (t' := tk) (ch := [z, TI, TO, i1, i2]) kk hf, M⟩
  | succ m ih =>
    intro i s H' Ts him I M Z hf hlt
    refine codeAny_builtin PySem.F.entry_extend_loop ?_
    rw [Around.under_plainId PySem.F.plain_extend_loop _]
    show wpAny _ A.in1 (pyNext (.ref z) >>= _) _ _ s
    refine wpAny_bind (zst_item hh1 P Z (by omega) (by omega) fun T x y h' tk hle e1 e2 hT kk Z' => ?_)
    obtain ⟨xv, hxv⟩ : ∃ xv, xs[i]? = some xv := ⟨_, List.getElem?_eq_getElem (by omega)⟩
    obtain ⟨yv, hyv⟩ : ∃ yv, ys[i]? = some yv := ⟨_, List.getElem?_eq_getElem (by omega)⟩
    obtain ⟨u, hu, rx⟩ := rv.get hxv
    obtain ⟨u2, hu2, ry⟩ := rv2.get hyv
    obtain rfl : x = u := by
      have e1 : its[i]? = some x := by simpa using e1
      rw [e1] at hu; exact Option.some.inj hu
    obtain rfl : y = u2 := by
      have e2 : its2[i]? = some y := by simpa using e2
      rw [e2] at hu2; exact Option.some.inj hu2
    have nT : H' T = none := I.hok.fresh hle
    have I1 : Inv X pins σ (upd H' T (.tup [xv, yv])) { s with heap := h', toks := tk } := I.turnedNew (t' := tk) (ch := [z, TI, TO, i1, i2]) kk hf hle ⟨by show 2 ≤ sizeLine; decide, [x, y], .cons rx (.cons ry .nil), ⟨_, hT, rfl, _, rfl⟩⟩
    have nST : S ≠ T := ne_of_none M.at' nT
    have hS1 : (upd H' T (.tup [xv, yv])) S = some (.lst (Ts.map V.ref)) := by rw [upd_ne nST]; exact M.at'
    obtain ⟨_, its3, n3, rv3, l3, hSh⟩ := I1.lstM hS1
    have hSh : h'.get? S = some { cls := .type "list", data := .seq its3.toArray n3 } := hSh
    show wpAny _ A.in1 (Builtin.List.listUpdate (.ref S) (fun x_1 => x_1.push (.ref T)) >>= fun _ => again (Code.builtin "list.extend.loop" ⟨[.ref S, .ref z, .none], []⟩)) _ _ _
    have l4 : its3.length ≤ 900 := by rw [← rv3.length, List.length_map, M.len]; omega
    have pl : (Obj.mapSeq (fun x_1 => x_1.push (Value.ref T)) { cls := Value.type "list", data := Data.seq its3.toArray n3 }).data.pastItsLine = none := by
      refine pastItsLine_seq ?_
      rw [Array.size_push, List.size_toArray]
      show its3.length + 1 ≤ 16777216 + 1
      omega
    wp_walk
    rw [pl]
    wp_walk
    refine ⟨plainId_quiet PySem.F.plain_extend_loop _, ?_⟩
    have I2 : Inv X pins σ (upd (upd H' T (.tup [xv, yv])) S (.lst (Ts.map V.ref ++ [.ref T]))) { s with heap := h'.update S (Obj.mapSeq fun x_1 => x_1.push (.ref T)), toks := tk } :=
      I1.lset (t' := tk) (its' := its3 ++ [.ref T]) hS1 hSh (by simp) (vals_snoc (v := .ref T) (u := .ref T) rv3 rfl) (by rw [List.length_append, List.length_map, M.len]; show i + 1 ≤ sizeLine; exact Nat.le_of_lt (small1000 (by omega)))
    refine ih (i + 1) _ _ (Ts ++ [T]) (by omega) I2 ?_ ?_ ?_ ?_
    · refine ⟨by rw [upd_same, List.map_append]; rfl, by rw [List.length_append, M.len]; rfl, fun j T2 hj => ?_, ?_⟩
      · by_cases h : j < Ts.length
        · rw [List.getElem?_append_left h] at hj
          obtain ⟨x0, y0, h1, h2, h3, h4, h5⟩ := M.it j T2 hj
          refine ⟨x0, y0, h1, h2, ?_, h4, h5⟩
          rw [upd_ne h5, upd_ne (ne_of_none h3 nT)]; exact h3
        · have hj2 : j = Ts.length := by
            have := (List.getElem?_eq_some_iff.mp hj).1
            rw [List.length_append, List.length_singleton] at this
            omega
          subst hj2
          rw [List.getElem?_concat_length] at hj
          cases hj
          refine ⟨xv, yv, by rw [M.len]; exact hxv, by rw [M.len]; exact hyv, by rw [upd_ne nST.symm, upd_same], ?_, nST.symm⟩
          cases e : H T with
          | none => rfl
          | some o =>
            have h1 := M.kept T o e (fun q => nST (List.mem_singleton.mp q).symm)
            rw [nT] at h1
            cases h1
      · exact M.kept.trans ((Kept.upd_new nT).trans (Kept.upd_in (List.mem_cons_self ..)))
    · have k7 : ∀ c, c ≠ S → ∀ o, h'.get? c = some o → (h'.update S (Obj.mapSeq fun x_1 => x_1.push (.ref T))).get? c = some o := fun c hc o e => by rw [Heap.get?_update_ne _ _ _ _ hc]; exact e
      have ns : ∀ c ∈ [z, TI, TO, i1, i2, a, b], c ≠ S := fun c hc e => hS (by rw [← e]; exact hc)
      refine ⟨?_, k7 _ (ns TI (by simp)) _ Z'.TI, ?_, ?_⟩
      · rcases Z'.z with ⟨hz, a1, a2, hTO⟩ | ⟨T0, bb, o, hz, hT0, oT⟩
        · exact .inl ⟨k7 _ (ns z (by simp)) _ hz, a1, a2, k7 _ (ns TO (by simp)) _ hTO⟩
        · by_cases e : T0 = S
          · subst e
            exact .inr ⟨_, bb, _, k7 _ (ns z (by simp)) _ hz, Heap.get?_update_self _ hSh rfl, oT⟩
          · exact .inr ⟨_, bb, _, k7 _ (ns z (by simp)) _ hz, k7 _ e _ hT0, oT⟩
      · refine (sit_draws (prog := X.prog) (w := X.w) hh b1 i1 a P.na its.toArray).frame _ _ _ Z'.s1 fun c hc o e => k7 c (ns c ?_) o e
        have hc : c = i1 ∨ c = a := by simpa using hc
        rcases hc with rfl | rfl <;> simp
      · refine (sit_draws (prog := X.prog) (w := X.w) hh b2 i2 b P.nb its2.toArray).frame _ _ _ Z'.s2 fun c hc o e => k7 c (ns c ?_) o e
        have hc : c = i2 ∨ c = b := by simpa using hc
        rcases hc with rfl | rfl <;> simp
    · intro c hc
      have h1 : c ≠ S := fun e => hS (by rw [← e]; simp at hc ⊢; rcases hc with h | h | h | h | h <;> simp [h])
      have h2 : c ≠ T := fun e => absurd (hlt c hc) (by rw [e]; exact Nat.not_lt.mpr hle)
      exact ⟨by rw [upd_ne h1, upd_ne h2]; exact (hf c hc).1, (hf c hc).2⟩
    · intro c hc
      show c < (h'.update S _).objs.size
      rw [Heap.size_update]
      exact Nat.lt_of_lt_of_le (hlt c hc) (Nat.le_trans hle (Nat.le_of_lt (Heap.lt_size hT)))
end
end TT

set_option Elab.async false
set_option linter.all false
set_option maxRecDepth 100000
namespace TT
open PySem PySem.Spec PyProof.Rows L2
theorem zip_no_len : typeLookup (Value.type "zip") (Str.ofString "__len__") = pure none := by rfl
theorem zip_no_hint : typeLookup (Value.type "zip") (Str.ofString "__length_hint__") = pure none := by rfl
section
variable {X : Cx} {pins : List (Addr × Obj)} {σ : L2.St} {H : Hp} {s : Shared} {A : Around} {E : Value → Shared → Prop} {z TI TO i1 i2 a b : Addr} {b1 b2 : Bool} {its its2 : List Value} {xs ys : List V} {a1 a2 : Value}
set_option maxHeartbeats 4000000 in
theorem call_list_zip {Q : Value → Shared → Prop} (hh : A.handled = none) (I : Inv X pins σ H s) (hz : IsZip s.heap z TI TO .none) (Z : ZSt s.heap z TI TO i1 i2 a b b1 b2 its.toArray its2.toArray 0) (P : Apart z TI TO i1 i2 a b) (hlt : ∀ c ∈ [z, TI, TO, i1, i2, a, b], c < s.heap.objs.size)
    (rv : Vals xs its) (rv2 : Vals ys its2) (hl : ys.length = xs.length) (few : xs.length ≤ 900) (hf : ∀ c ∈ [z, TI, TO, i1, i2], FpOk X pins H c)
    (q : ∀ (S : Addr) (H' : Hp) (s' : Shared) (Ts : List Addr), Inv X pins σ H' s' → H S = none → Made H H' S xs ys Ts xs.length → Q (.ref S) s') :
    wpAny (model X.prog X.w) A (call (.type "list") [.ref z]) Q E s := by
  obtain ⟨c, tl, hmro⟩ := PySem.F.called_list.mro
  have g1 := PySem.F.called_list.made
  have g2 := PySem.F.called_list.sub
  have g3 := PySem.F.called_list.notType
  have g4 := PySem.F.called_list.canCreate
  have g5 := PySem.F.typeCall_list_1 (.ref z)
  refine wpAny_call (codeAny_of_tree ?_)
  show wpAny _ _ (callAny (.type "list") _) _ _ _
  refine wpAny_pure ⟨Code.quiet_builtin _ (by decide +kernel), codeAny_builtin PySem.F.entry_type_call ?_⟩
  rw [Around.under_plain (weight_type_call_type "list" [.ref z] []) rfl]
  repeat (any_goals (first | assumption | wp_step))
  refine codeAny_mono (code_list_new (.ref z) (E := E) (Q₁ := fun v s1 => v = .ref s.heap.objs.size ∧ s1 = { s with heap := s.heap.push { cls := .type "list", data := .seq #[] } }) ⟨rfl, rfl⟩) fun r s1 hr => ?_
  rcases r with e | fl
  · exact hr
  cases fl with
  | next => exact hr.elim
  | brk => exact hr.elim
  | cont => exact hr.elim
  | ret v =>
    obtain ⟨rfl, rfl⟩ := hr
    have I1 : Inv X pins σ (upd H s.heap.objs.size (.lst [])) { s with heap := s.heap.push { cls := .type "list", data := .seq #[] } } := I.lnew (its := []) (t' := s.toks) .nil (Nat.zero_le _)
    have gN : (s.heap.push { cls := .type "list", data := .seq #[] }).get? s.heap.objs.size = some { cls := .type "list", data := .seq #[] } := Heap.get?_push_size _ rfl
    have gT : Shared.TypeIs { s with heap := s.heap.push { cls := .type "list", data := .seq #[] } } (.ref s.heap.objs.size) "list" := ⟨_, gN, rfl⟩
    have g6 := PySem.F.called_list.init.lookup
    have g7 := PySem.F.called_list.init.bind (.ref s.heap.objs.size)
    repeat (any_goals (first | assumption | wp_step))
    refine codeAny_mono (codeAny_call_builtin (R := wants (fun r s2 => r = .none ∧ ∃ H' Ts, Inv X pins σ H' s2 ∧ Made H H' s.heap.objs.size xs ys Ts xs.length) E)
      PySem.F.called_list.init.plain PySem.F.entry_list_init (PySem.F.slot_list_init.check _ _ _ _ _ _ _ _ gT (PySem.F.args_list_init_2 _ _) ?_)) fun r2 s2 hr2 => ?_
    · have g8 := zip_no_len
      have g9 := zip_no_hint
      have hz' : (s.heap.push { cls := .type "list", data := .seq #[] }).get? z = some { cls := .type "zip", data := .fields #[.none, .bool false, .bool false, .ref TI, .ref TO] } := Heap.get?_push_of_some _ hz
      have zl : z < s.heap.objs.size := Heap.lt_size hz
      unfold Builtin.«list.__init__» Builtin.List.listExtendWith
      generalize hPI : pyIter = PI
      wp_walk
      have hz2 : ((s.heap.push { cls := .type "list", data := .seq #[] }).update s.heap.objs.size (Obj.mapSeq fun x => #[])).get? z = some { cls := .type "zip", data := .fields #[.none, .bool false, .bool false, .ref TI, .ref TO] } := by
        rw [Heap.get?_update_ne _ _ _ _ (Nat.ne_of_lt zl)]; exact hz'
      wp_walk
      rw [if_neg (by
        have e1 : Builtin.List.listSameRef (.ref s.heap.objs.size) (.ref z) = false := by
          unfold Builtin.List.listSameRef
          exact beq_eq_false_iff_ne.mpr (Ne.symm (Nat.ne_of_lt zl))
        rw [e1]
        exact Bool.false_ne_true)]
      subst hPI
      refine wpAny_bind (wpAny_pyIter_zip hz2 ?_)
      generalize hPI : pyIter = PI
      refine wpAny_bind (wpAny_holding ?_)
      unfold Builtin.List.listLengthHint
      wp_walk
      have nS : s.heap.objs.size ∉ [z, TI, TO, i1, i2, a, b] := fun q => absurd (hlt _ q) (Nat.lt_irrefl _)
      have kS : ∀ c, c < s.heap.objs.size → ∀ o, s.heap.get? c = some o → ((((s.heap.push { cls := .type "list", data := .seq #[] }).update s.heap.objs.size (Obj.mapSeq fun x => #[])).update s.heap.objs.size (Obj.mapSeq fun x => x.push Value.none)).update s.heap.objs.size (Obj.mapSeq fun x => x.pop)).get? c = some o := fun c hc o e => by
        rw [Heap.get?_update_ne _ _ _ _ (Nat.ne_of_lt hc), Heap.get?_update_ne _ _ _ _ (Nat.ne_of_lt hc), Heap.get?_update_ne _ _ _ _ (Nat.ne_of_lt hc)]
        exact Heap.get?_push_of_some _ e
      have J1 := I1.lset (t' := s.toks) (its' := []) (f := fun _ => #[]) upd_same gN rfl .nil (Nat.zero_le _)
      have gN2 : ((s.heap.push { cls := .type "list", data := .seq #[] }).update s.heap.objs.size (Obj.mapSeq fun x => #[])).get? s.heap.objs.size = some { cls := .type "list", data := .seq #[] 0 } := Heap.get?_update_self _ gN rfl
      have J2 := J1.lset (t' := s.toks) (ys := [.non]) (its' := [Value.none]) (f := fun x => x.push Value.none) upd_same gN2 rfl (.cons rfl .nil) (by show 1 ≤ sizeLine; decide)
      have gN3 := Heap.get?_update_self (Obj.mapSeq fun x => x.push Value.none) gN2 rfl
      have J3 := J2.lset (t' := s.toks) (ys := []) (its' := []) (f := fun x => x.pop) upd_same gN3 rfl .nil (Nat.zero_le _)
      refine ⟨plainId_quiet PySem.F.plain_extend_loop _, ?_⟩
      have nH : H s.heap.objs.size = none := I.hok.fresh (Nat.le_refl _)
      have hh1 : A.in1.handled = none := by simp [hh]
      refine zip_loop (b1 := b1) (b2 := b2) hh1 P rv rv2 hl few nS xs.length 0 _ _ [] (by omega) J3 ⟨upd_same, rfl, fun j T h => by simp at h, ?_⟩ ?_ (fun c hc => ?_) (fun c hc => ?_)
      · exact (((Kept.upd_new nH).trans (Kept.upd_in (List.mem_cons_self ..))).trans (Kept.upd_in (List.mem_cons_self ..))).trans (Kept.upd_in (List.mem_cons_self ..))
      · refine ⟨?_, kS _ (hlt _ (by simp)) _ Z.TI, ?_, ?_⟩
        · rcases Z.z with ⟨hz, a1, a2, hTO⟩ | ⟨T0, bb, o, hz0, hT0, oT⟩
          · exact .inl ⟨kS _ (hlt _ (by simp)) _ hz, a1, a2, kS _ (hlt _ (by simp)) _ hTO⟩
          · exact .inr ⟨T0, bb, o, kS _ (hlt _ (by simp)) _ hz0, kS _ (Heap.lt_size hT0) _ hT0, oT⟩
        · refine (sit_draws (prog := X.prog) (w := X.w) hh b1 i1 a P.na its.toArray).frame _ _ _ Z.s1 fun c hc o e => kS c (hlt c ?_) o e
          have hc : c = i1 ∨ c = a := by simpa using hc
          rcases hc with rfl | rfl <;> simp
        · refine (sit_draws (prog := X.prog) (w := X.w) hh b2 i2 b P.nb its2.toArray).frame _ _ _ Z.s2 fun c hc o e => kS c (hlt c ?_) o e
          have hc : c = i2 ∨ c = b := by simpa using hc
          rcases hc with rfl | rfl <;> simp
      · have h1 : c ≠ s.heap.objs.size := fun e => nS (by rw [← e]; simp at hc ⊢; rcases hc with h | h | h | h | h <;> simp [h])
        exact ⟨by rw [upd_ne h1, upd_ne h1, upd_ne h1, upd_ne h1]; exact (hf c hc).1, (hf c hc).2⟩
      · have h1 := hlt c (by simp at hc ⊢; rcases hc with h | h | h | h | h <;> simp [h])
        show c < (Heap.update _ _ _).objs.size
        rw [Heap.size_update, Heap.size_update, Heap.size_update, Heap.size_push]
        exact Nat.lt_succ_of_lt h1
    · rcases r2 with e | fl2
      · exact hr2
      cases fl2 with
      | next => exact hr2.elim
      | brk => exact hr2.elim
      | cont => exact hr2.elim
      | ret r =>
        obtain ⟨rfl, H', Ts, I2, M2⟩ := hr2
        repeat (any_goals (first | assumption | wp_step))
        exact q _ _ _ _ I2 (I.hok.fresh (Nat.le_refl _)) M2
end
end TT

set_option Elab.async false
set_option linter.all false
set_option maxRecDepth 100000
namespace TT
open PySem PySem.Spec PyProof.Rows L2
/-- list(zip(xs, ys)), as long as each other -/
def tListZip (K : PySem.W.Frag) (ta : TA) : TE := fun σ H Q => ta σ H fun vs H1 => ∃ (b1 b2 : Bool) (a b : Addr) (xs ys : List V), vs = [.ref a, .ref b] ∧ SqB b1 K H1 a xs ∧ SqB b2 K H1 b ys ∧ ys.length = xs.length ∧ xs.length ≤ 900 ∧
  ∀ (S : Addr) (H' : Hp) (Ts : List Addr), H1 S = none → Made H1 H' S xs ys Ts xs.length → Q (.ref S) H'
theorem pe_listZip {X : Cx} {e e2 : Expr} {ta : TA} {p p2 q pos : Pos} (hm : X.mg "list" = none) (hm2 : X.mg "zip" = none) (ha : PA X [e, e2] ta) (hg : Gl X "list" := by rfl) (hg2 : Gl X "zip" := by rfl) (hc : X.calm = true := by rfl)
    (hs : starEach [e, e2] X.env = (false, eval e X.env) :: starEach [e2] X.env := by rfl) (hpl : (backTo q (starEach [e2] X.env)).any (·.1) = false := by rfl) :
    PE X (.Call (.Name "list" p) [.Call (.Name "zip" p2) [e, e2] [] q] [] pos) (tListZip X.K ta) := by
  refine ⟨fun pins s σ H Q I h => ?_⟩
  refine Call_ (ld_blt I hg hm (show bootBuiltins ("list" : Str) = some (.type "list") by decide +kernel) (PyProof.Rows.callWith_type1 (PyProof.Rows.args_cons ?_ rfl) rfl rfl))
  refine Call_ (ld_blt I hg2 hm2 PyProof.Rows.boot_zip (PyProof.Rows.callWith_type1 (thn (ha.run q pins s σ H _ I h) fun us s1 ⟨vs, H1, I1, r1, q1⟩ => ?_) hs hpl))
  obtain ⟨b1, b2, a, b, xs, ys, ex, hqx, hqy, hl, few, q1⟩ := q1
  subst ex
  cases r1 with
  | cons r rr =>
    cases rr with
    | cons r' rr =>
      cases rr
      cases r
      cases r'
      obtain ⟨its, rv, p1, la⟩ := inv_sqB I1 hqx
      obtain ⟨its2, rv2, p2, lb⟩ := inv_sqB I1 hqy
      refine zip_begins2 (sit_begins b1 a its.toArray) (sit_begins b2 b its2.toArray) p1 p2 fun h' hz hTI hTO h1 h2 hsz hk => PyProof.Rows.args_nil ?_
      have I2 : Inv X pins σ H1 { s1 with heap := h' } := I1.kept (t' := s1.toks) hk
      have fresh5 : ∀ c ∈ [s1.heap.objs.size + 4, s1.heap.objs.size + 2, s1.heap.objs.size + 3, s1.heap.objs.size, s1.heap.objs.size + 1], FpOk X pins H1 c := fun c hcm => by
        have e' : c = s1.heap.objs.size + 4 ∨ c = s1.heap.objs.size + 2 ∨ c = s1.heap.objs.size + 3 ∨ c = s1.heap.objs.size ∨ c = s1.heap.objs.size + 1 := by simpa using hcm
        have hle : s1.heap.objs.size ≤ c := by
          rcases e' with z | z | z | z | z
          · rw [z]; exact Nat.le_add_right _ _
          · rw [z]; exact Nat.le_add_right _ _
          · rw [z]; exact Nat.le_add_right _ _
          · rw [z]; exact Nat.le_refl _
          · rw [z]; exact Nat.le_add_right _ _
        exact I1.fpOk hle (I1.hok.fresh hle)
      have S := zip_sep2 (N := s1.heap.objs.size) (fp1 := [a]) (fp2 := [b]) (fun c hc => by rw [List.mem_singleton.mp hc]; exact la) (fun c hc => by rw [List.mem_singleton.mp hc]; exact lb)
      have P : Apart (s1.heap.objs.size + 4) (s1.heap.objs.size + 2) (s1.heap.objs.size + 3) s1.heap.objs.size (s1.heap.objs.size + 1) a b :=
        ⟨S, Nat.ne_of_lt la, Nat.ne_of_lt (Nat.lt_succ_of_lt lb), Nat.ne_of_lt (Nat.lt_succ_of_lt la), Nat.ne_of_lt lb, Nat.ne_of_lt (Nat.lt_of_lt_of_le la (Nat.le_add_right _ 4)), Nat.ne_of_lt (Nat.lt_of_lt_of_le lb (Nat.le_add_right _ 4)), Nat.ne_of_lt (Nat.lt_succ_self _),
          Nat.ne_of_gt (Nat.lt_of_lt_of_le (Nat.lt_succ_self _) (Nat.add_le_add_left (by decide : 1 ≤ 4) _)), Nat.ne_of_gt (Nat.add_lt_add_left (by decide : 1 < 4) _)⟩
      have Z : ZSt h' (s1.heap.objs.size + 4) (s1.heap.objs.size + 2) (s1.heap.objs.size + 3) s1.heap.objs.size (s1.heap.objs.size + 1) a b b1 b2 its.toArray its2.toArray 0 := by
        refine ⟨.inl ⟨hz, _, _, hTO⟩, hTI, ⟨.start h1, ?_⟩, ⟨.start h2, ?_⟩⟩
        · cases b1
          · obtain ⟨o, e, r⟩ := p1; exact ⟨o, hk _ _ e, r⟩
          · obtain ⟨o, e, r⟩ := p1; exact ⟨o, hk _ _ e, r⟩
        · cases b2
          · obtain ⟨o, e, r⟩ := p2; exact ⟨o, hk _ _ e, r⟩
          · obtain ⟨o, e, r⟩ := p2; exact ⟨o, hk _ _ e, r⟩
      refine call_list_zip (I1.ok.hd hc) I2 hz Z P (fun c hcm => ?_) rv rv2 hl few fresh5 fun Sd H' s' Ts I3 nS M => ⟨.ref Sd, H', I3, rfl, q1 Sd H' Ts nS M⟩
      have e' : c = s1.heap.objs.size + 4 ∨ c = s1.heap.objs.size + 2 ∨ c = s1.heap.objs.size + 3 ∨ c = s1.heap.objs.size ∨ c = s1.heap.objs.size + 1 ∨ c = a ∨ c = b := by simpa using hcm
      show c < h'.objs.size
      rw [hsz]
      rcases e' with z | z | z | z | z | z | z
      · rw [z]; exact Nat.add_lt_add_left (by decide) _
      · rw [z]; exact Nat.add_lt_add_left (by decide) _
      · rw [z]; exact Nat.add_lt_add_left (by decide) _
      · rw [z]; exact Nat.lt_of_lt_of_le (Nat.lt_succ_self _) (Nat.add_le_add_left (by decide : 1 ≤ 5) _)
      · rw [z]; exact Nat.add_lt_add_left (by decide) _
      · rw [z]; exact Nat.lt_of_lt_of_le la (Nat.le_add_right _ _)
      · rw [z]; exact Nat.lt_of_lt_of_le lb (Nat.le_add_right _ _)
end TT

set_option Elab.async false
set_option linter.all false
set_option maxRecDepth 100000
namespace TT
open PySem PySem.Spec PyProof.Rows L2
def topS (i : Nat) : Stmt := PySem.Challenge.pw_tiedtables_k12_what_is_loose.main.body.getD i (.Pass ⟨0, 0, 0, 0⟩)
/-! ### draws of a box -/
structure NX (mg : Str → Option Value) : Prop where
  b_abs : mg "abs" = none
theorem b01 (b : Bool) : (0 : Int) ≤ (if b = true then 1 else 0) ∧ -(2 ^ 64 : Int) < (if b = true then 1 else 0) ∧ (if b = true then 1 else 0 : Int) < 2 ^ 64 := by cases b <;> decide
theorem ixN_nat {n j : Nat} (h : j < n) : ixN n (j : Int) = some j := by
  unfold ixN
  rw [if_pos (Int.natCast_nonneg j), if_pos (by omega)]
  rfl
structure BoxAt (H : Hp) (b : Addr) (T : Nat) : Prop where
  ex : ∃ x y t : Int, 0 ≤ x ∧ (0 ≤ y ∧ y < 2305843009217694000) ∧ (0 ≤ t ∧ t ≤ T) ∧ H b = some (.lst [.int x, .int y, .int t])
theorem BoxAt.kept {H H' : Hp} {b : Addr} {T : Nat} {M : List Addr} (h : BoxAt H b T) (k : Kept M H H') (n : b ∉ M) : BoxAt H' b T := by
  obtain ⟨x, y, t, h1, h2, h3, e⟩ := h.ex
  exact ⟨x, y, t, h1, h2, h3, k.at e n⟩
theorem BoxAt.same {H H' : Hp} {b : Addr} {T : Nat} (h : BoxAt H b T) (s : Same H H') : BoxAt H' b T := by
  obtain ⟨x, y, t, h1, h2, h3, e⟩ := h.ex
  exact ⟨x, y, t, h1, h2, h3, s b _ e⟩
theorem BoxAt.mono {H : Hp} {b : Addr} {T T' : Nat} (h : BoxAt H b T) (l : T ≤ T') : BoxAt H b T' := by
  obtain ⟨x, y, t, h1, h2, h3, e⟩ := h.ex
  exact ⟨x, y, t, h1, h2, ⟨h3.1, by omega⟩, e⟩
section
variable {P : Program} {w : World} {K : PySem.W.Frag} {mg : Str → Option Value} {base : Heap}
def spBox (K : PySem.W.Frag) : Sp := fun vs H Q _ => ∃ (a : Addr) (ns : List Int) (k : Nat), vs = [.ref a, .int k] ∧ SqL K H a (ns.map V.int) ∧ k ≤ 100 ∧ ∀ (b : Addr) (H' : Hp), H b = none → BoxAt H' b 0 → Same H H' → Q (.ref b) H'
abbrev s_law_box : Stmt := topS 15
abbrev N_law_box : List Str := ["script", "k", "cell"]
theorem sc_law_box : FnScope N_law_box ["script", "k"] (defScope s_law_box) := ⟨rfl, rfl, rfl, by decide +kernel, rfl, by decide +kernel, by decide +kernel⟩

theorem ok_box {f : Addr} {fd : FuncData} (F : Fun K "_law_box" "_law_box" s_law_box f fd) (nb : NB mg) (nx : NX mg) : FnOk P w K mg base CX0 1 f fd ["script", "k"] (spBox K) := by
  refine F.ok sc_law_box (fun vs H Q E h => ?_) (fun cdv A outer sh H vs Q E hr h => ?_)
  · obtain ⟨a, ns, k, rfl, _⟩ := h
    rfl
  obtain ⟨a, ns, k, rfl, hS, hk, q⟩ := h
  have nd := sc_law_box.nd
  refine ⟨_, (pss_cons (ps_set (i := 2) nd rfl (Or.inl rfl) (pe_ifExp (pt_cmpR op_lt (pv 1) (pe_callB call_len_seq (by rfl) nb.b_len (by decide +kernel) (pa_cons (pv 0) pa_nil)) (nomark _)) (pe_ix ix_list (pv 0) (pv 1) (fun _ _ => rfl)) pe_int))
      (pss_one (ps_ret (pe_lst (pa_cons (pe_op op_mul (pe_callB call_abs (by rfl) nx.b_abs (by decide +kernel) (pa_cons (pv 2) pa_nil)) (pe_callTy call_int1 (by rfl) nb.b_int (by decide +kernel) (pa_cons (pe_cmpR op_ge (pe_callB call_abs (by rfl) nx.b_abs (by decide +kernel) (pa_cons (pv 2) pa_nil)) (pe_op op_pow pe_int pe_int) (nomark _)) pa_nil))) (pa_cons (pe_op op_add (pe_op op_add (pe_op op_mod (pv 2) pe_int) (pe_op op_mul pe_int (pv 1))) pe_int) (pa_cons pe_int pa_nil))))))), ?_⟩
  -- the cell
  have rest : ∀ (cell : Int), (∀ (b : Addr), H b = none → Q (.ref b) (upd H b (.lst [.int ((if cell < 0 then -cell else cell) * (if decide ((10 : Int) ^ (18 : Int).toNat ≤ if cell < 0 then -cell else cell) = true then 1 else 0)), .int (cell % 2305843009213693951 + 39373 * k + 17), .int 0]))) := fun cell b nb' => by
    have h0 : 0 ≤ cell % 2305843009213693951 ∧ cell % 2305843009213693951 < 2305843009213693951 := ⟨Int.emod_nonneg _ (by decide), Int.emod_lt_of_pos _ (by decide)⟩
    refine q b _ nb' ⟨_, _, _, ?_, ⟨by omega, by omega⟩, ⟨Int.le_refl _, Int.le_refl _⟩, upd_same⟩ (same_upd nb')
    refine Int.mul_nonneg (by split <;> omega) ?_
    exact (b01 _).1
  refine ⟨.int k, rfl, .ref a, rfl, a, _, rfl, .inl hS, _, _, rfl, rfl, _, rfl, ite2 (fun h1 => ?_) (fun h1 => ?_)⟩
  · have h1 : (k : Int) < ((ns.map V.int).length : Nat) := of_decide_eq_true h1
    rw [List.length_map] at h1
    have hk2 : k < ns.length := by omega
    have gk : (ns.map V.int)[k]? = some (.int ns[k]) := by rw [List.getElem?_map, List.getElem?_eq_getElem hk2]; rfl
    refine ⟨.ref a, rfl, .int k, rfl, a, _, k, .int ns[k], rfl, rfl, hS, atI_nat gk, ?_⟩
    generalize ns[k] = cell
    refine ⟨.int cell, rfl, cell, rfl, .int cell, rfl, cell, rfl, 10, 18, rfl, rfl, ⟨by decide, by decide, by decide⟩, _, _, rfl, rfl, .inr ⟨_, rfl, _, _, rfl, rfl, .inr ⟨(b01 _).2.1, (b01 _).2.2⟩, ?_⟩⟩
    refine ⟨.int cell, rfl, _, _, rfl, rfl, (by decide : (0 : Int) < 2305843009213693951), .int k, rfl, _, _, rfl, rfl, .inl ⟨by decide, by decide⟩, _, _, rfl, rfl, _, _, rfl, rfl, (by show 3 ≤ sizeLine; decide), fun b nb' => rest cell b nb'⟩
  · skip
    refine ⟨.int 0, rfl, 0, rfl, .int 0, rfl, 0, rfl, 10, 18, rfl, rfl, ⟨by decide, by decide, by decide⟩, _, _, rfl, rfl, .inr ⟨_, rfl, _, _, rfl, rfl, .inr ⟨(b01 _).2.1, (b01 _).2.2⟩, ?_⟩⟩
    refine ⟨.int 0, rfl, _, _, rfl, rfl, (by decide : (0 : Int) < 2305843009213693951), .int k, rfl, _, _, rfl, rfl, .inl ⟨by decide, by decide⟩, _, _, rfl, rfl, _, _, rfl, rfl, (by show 3 ≤ sizeLine; decide), fun b nb' => rest 0 b nb'⟩
def spTakeB : Sp := fun vs H Q _ => ∃ (b : Addr) (T : Nat) (m : Int), vs = [.ref b, .int m] ∧ BoxAt H b T ∧ T ≤ 1000000 ∧ 0 < m ∧ m < 2 ^ 62 ∧ ∀ (d : Int) (H' : Hp), 0 ≤ d → d < m → BoxAt H' b (T + 1) → Kept [b] H H' → Q (.int d) H'
abbrev s_law_take : Stmt := topS 16
abbrev N_law_take : List Str := ["box", "many", "found", "once"]
theorem sc_law_take : FnScope N_law_take ["box", "many"] (defScope s_law_take) := ⟨rfl, rfl, rfl, by decide +kernel, rfl, by decide +kernel, by decide +kernel⟩

theorem ok_take {f : Addr} {fd : FuncData} (F : Fun K "_law_take" "_law_take" s_law_take f fd) : FnOk P w K mg base CX0 1 f fd ["box", "many"] spTakeB := by
  refine F.ok sc_law_take (fun vs H Q E h => ?_) (fun cdv A outer sh H vs Q E hr h => ?_)
  · obtain ⟨b, T, m, rfl, _⟩ := h
    rfl
  obtain ⟨b, T, m, rfl, hB, hT, hm0, hm, q⟩ := h
  obtain ⟨x, y, t, h1, h2, h3, eb⟩ := hB.ex
  have nd := sc_law_take.nd
  refine ⟨_, (pss_cons (ps_if (pt_cmpR op_gt (pe_ix ix_list (pv 0) pe_int (fun _ _ => rfl)) pe_int (nomark _))
        (pss_cons (ps_set (i := 2) nd rfl (Or.inl rfl) (pe_op op_mod (pe_ix ix_list (pv 0) pe_int (fun _ _ => rfl)) (pv 1)))
        (pss_cons (ps_asg (pe_op op_fdivW (pe_ix ix_list (pv 0) pe_int (fun _ _ => rfl)) (pv 1)) (pg_sub (pv 0) pe_int set_list))
        (pss_one (ps_ret (pv 2)))))
        pss_nil)
      (pss_cons (ps_asg (pe_op op_add (pe_ix ix_list (pv 0) pe_int (fun _ _ => rfl)) pe_int) (pg_sub (pv 0) pe_int set_list))
      (pss_cons (ps_set (i := 3) nd rfl (Or.inl rfl) (pe_op op_mod (pe_op op_pow (pe_op op_add (pe_ix ix_list (pv 0) pe_int (fun _ _ => rfl)) (pe_op op_mul pe_int (pe_ix ix_list (pv 0) pe_int (fun _ _ => rfl)))) pe_int) pe_int))
      (pss_one (ps_ret (pe_op op_mod (pe_op op_fdivW (pe_op op_mod (pe_op op_add (pe_op op_mul (pv 3) (pe_op op_add (pe_op op_mod (pv 3) pe_int) pe_int)) (pe_op op_mul (pe_ix ix_list (pv 0) pe_int (fun _ _ => rfl)) pe_int)) pe_int) pe_int) (pv 1))))))), ?_⟩
  refine ⟨.ref b, rfl, b, _, 0, .int x, rfl, rfl, .inl (.inl eb), atI_nat (j := 0) rfl, _, _, rfl, rfl, _, rfl, ite2 (fun _ => ?_) (fun _ => ?_)⟩
  · refine ⟨.ref b, rfl, b, _, 0, .int x, rfl, rfl, .inl (.inl eb), atI_nat (j := 0) rfl, .int m, rfl, _, _, rfl, rfl, hm0, ?_⟩
    refine ⟨.ref b, rfl, b, _, 0, .int x, rfl, rfl, .inl (.inl eb), atI_nat (j := 0) rfl, .int m, rfl, _, _, rfl, rfl, wide_div (b := 62) hm0 (by omega) (by decide) (by decide), ?_⟩
    refine ⟨.ref b, rfl, b, _, _, 0, rfl, rfl, eb, ixN_nat (show 0 < 3 by decide), ?_⟩
    refine ⟨_, rfl, ?_⟩
    exact q _ _ (Int.emod_nonneg _ (by omega)) (Int.emod_lt_of_pos _ hm0) ⟨x / m, y, t, Int.ediv_nonneg h1 (by omega), h2, ⟨h3.1, by omega⟩, upd_same⟩ (Kept.upd_in (List.mem_cons_self ..))
  · refine ⟨.ref b, rfl, b, _, 2, .int t, rfl, rfl, .inl (.inl eb), atI_nat (j := 2) rfl, _, _, rfl, rfl, ?_⟩
    refine ⟨.ref b, rfl, b, _, _, 2, rfl, rfl, eb, ixN_nat (show 2 < 3 by decide), ?_⟩
    have e1 : (upd H b (.lst [.int x, .int y, .int (t + 1)])) b = some (.lst [.int x, .int y, .int (t + 1)]) := upd_same
    have k1 : Kept [b] H (upd H b (.lst [.int x, .int y, .int (t + 1)])) := Kept.upd_in (List.mem_cons_self ..)
    show tSeq _ _ _ _ (upd H b (.lst [.int x, .int y, .int (t + 1)]))
    generalize upd H b (.lst [.int x, .int y, .int (t + 1)]) = H1 at e1 k1 ⊢
    refine ⟨.ref b, rfl, b, _, 1, .int y, rfl, rfl, .inl (.inl e1), atI_nat (j := 1) rfl, .ref b, rfl, b, _, 2, .int (t + 1), rfl, rfl, .inl (.inl e1), atI_nat (j := 2) rfl, _, _, rfl, rfl, .inl ⟨by decide, by decide⟩, _, _, rfl, rfl, _, _, rfl, rfl, ⟨by decide, by decide, by omega⟩, _, _, rfl, rfl, (by decide : (0 : Int) < 2147483647), ?_⟩
    dsimp only
    generalize hx2 : (y + 39373 * (t + 1)) ^ (5 : Int).toNat % 2147483647 = z
    have hz : 0 ≤ z ∧ z < 2147483647 := by rw [← hx2]; exact ⟨Int.emod_nonneg _ (by decide), Int.emod_lt_of_pos _ (by decide)⟩
    refine ⟨.int z, rfl, .int z, rfl, _, _, rfl, rfl, (by decide : (0 : Int) < 40009), _, _, rfl, rfl, _, _, rfl, rfl, .inl ⟨by omega, by omega⟩, .ref b, rfl, b, _, 2, .int (t + 1), rfl, rfl, .inl (.inl e1), atI_nat (j := 2) rfl, _, _, rfl, rfl, .inr ⟨by decide, by decide⟩, _, _, rfl, rfl, _, _, rfl, rfl, (by decide : (0 : Int) < 2147483629), _, _, rfl, rfl, wide_div (b := 8) (by decide) (by decide) (by decide) (by decide), .int m, rfl, _, _, rfl, rfl, hm0, ?_⟩
    exact q _ _ (Int.emod_nonneg _ (by omega)) (Int.emod_lt_of_pos _ hm0) ⟨x, y, t + 1, h1, h2, ⟨by omega, by omega⟩, e1⟩ k1
end
end TT

set_option Elab.async false
set_option linter.all false
set_option maxRecDepth 100000
namespace TT
open PySem PySem.Spec PyProof.Rows L2
/-! ### names: the mathematics -/
def cl (z : Str) : List Nat := z.cps.toList
def ofL (l : List Nat) : Str := ⟨l.toArray⟩
theorem cl_ofL (l : List Nat) : cl (ofL l) = l := rfl
theorem cl_app (a b : Str) : cl (a ++ b) = cl a ++ cl b := by
  show (a.cps ++ b.cps).toList = _
  exact Array.toList_append
theorem cl_inj {a b : Str} (h : cl a = cl b) : a = b := by
  cases a; cases b
  exact congrArg Str.mk (Array.toList_inj.mp h)
theorem ofL_cl (z : Str) : ofL (cl z) = z := cl_inj rfl
theorem cl_len (z : Str) : z.length = (cl z).length := rfl
def low (c : Nat) : Prop := 97 ≤ c ∧ c ≤ 122
structure NameOk (z : Str) : Prop where
  pos : 0 < (cl z).length
  top : (cl z).length ≤ 8
  low : ∀ c ∈ cl z, low c
def abc : Str := "abcdefghijklmnopqrstuvwxyz"
theorem abc_cl : cl abc = (List.range 26).map (· + 97) := by decide +kernel
theorem abc_at {i : Nat} (h : i < 26) : (cl abc)[i]? = some (i + 97) := by
  rw [abc_cl, List.getElem?_map, List.getElem?_range h]
  rfl
theorem str_len_app (a b : Str) : (a ++ b).length = a.length + b.length := by rw [cl_len, cl_app, List.length_append]; rfl
theorem cut_cl (z : Str) (lo hi : Option Int) : cl (cutS z lo hi) = ((cl z).drop (HT.sIx z.length 0 lo)).take (HT.sIx z.length z.length hi - HT.sIx z.length 0 lo) := rfl
theorem flat_strs : ∀ zs : List Str, (zs.map V.str).all flatV = true
  | [] => rfl
  | _ :: zs => flat_strs zs
theorem inV_strs (z : Str) (zs : List Str) : inV (.str z) (zs.map V.str) = decide (z ∈ zs) := by
  induction zs with
  | nil => rfl
  | cons y r ih =>
    show (eqV (.str y) (.str z) || inV (.str z) (r.map V.str)) = _
    rw [ih]
    show ((y == z) || decide (z ∈ r)) = _
    by_cases h : y = z
    · subst h; simp
    · have h' : ¬ z = y := fun e => h e.symm
      simp [h, h']
def one (c : Nat) : Str := ⟨#[c]⟩
theorem cl_one (c : Nat) : cl (one c) = [c] := rfl
theorem sum_ones : ∀ l : List Nat, (l.map ((fun x : Str => x.length) ∘ one)).sum = l.length
  | [] => rfl
  | _ :: l => by
    rw [List.map_cons, List.sum_cons, sum_ones l]
    show 1 + l.length = l.length + 1
    omega
theorem join_ones (l : List Nat) : cl (Txt.join (Str.ofString "") (l.map one)) = l := by
  rw [TL.join_eq]
  induction l with
  | nil => rfl
  | cons x r ih =>
    cases r with
    | nil => rfl
    | cons y r =>
      show cl (one x ++ Str.ofString "" ++ Str.join (Str.ofString "") ((y :: r).map one)) = _
      rw [cl_app, cl_app, ih]
      rfl
/-! ### a box's names -/
def words12 : List Str := ["store", "row", "put", "drop", "set", "tie", "rule", "table", "old", "new", "to", "gone"]
theorem words12_ok : ∀ z ∈ words12, NameOk z := by
  have h : words12.all (fun z => decide (0 < (cl z).length) && decide ((cl z).length ≤ 8) && (cl z).all fun c => decide (97 ≤ c) && decide (c ≤ 122)) = true := by decide +kernel
  intro z hz
  have h1 := List.all_eq_true.mp h z hz
  simp only [Bool.and_eq_true, decide_eq_true_eq, List.all_eq_true] at h1
  exact ⟨h1.1.1, h1.1.2, h1.2⟩
theorem words12_nd : ∀ i, i < 12 → (((words12 ++ words12).drop i).take 12).Nodup := by decide +kernel
def Steps (s : Int) : Prop := s = 1 ∨ s = 3 ∨ s = 5 ∨ s = 7 ∨ s = 25 ∨ s = 675
def letN (first step : Int) (k : Nat) : Nat := ((first + step * k) % 26).toNat + 97
def valN (first step : Int) (k : Nat) : Int := (first + step * k) % 676
def nameN (hd tl : List Nat) (first step : Int) (k : Nat) : Str := ofL (hd ++ [(valN first step k / 26).toNat + 97, (valN first step k % 26).toNat + 97] ++ tl)
def longN (hd tl : List Nat) (first step lg : Int) (k : Nat) : Str := if lg = 1 ∧ k % 2 = 1 then ofL (cl (nameN hd tl first step (k - 1)) ++ [((first + k) % 26).toNat + 97]) else nameN hd tl first step k
theorem letN_low (first step : Int) (k : Nat) : low (letN first step k) := by
  have h1 := Int.emod_nonneg (first + step * k) (show (26 : Int) ≠ 0 by decide)
  have h2 := Int.emod_lt_of_pos (first + step * k) (show (0 : Int) < 26 by decide)
  unfold low letN
  omega
theorem letN_inj {first step : Int} {i j : Nat} (hs : Steps step) (hi : i < 13) (hj : j < 13) (e : letN first step i = letN first step j) : i = j := by
  unfold letN at e
  rcases hs with rfl | rfl | rfl | rfl | rfl | rfl <;> omega
theorem valN_b (first step : Int) (k : Nat) : 0 ≤ valN first step k ∧ valN first step k < 676 := ⟨Int.emod_nonneg _ (by decide), Int.emod_lt_of_pos _ (by decide)⟩
theorem valN_inj {first step : Int} {i j : Nat} (hs : Steps step) (hi : i < 13) (hj : j < 13) (e : valN first step i = valN first step j) : i = j := by
  unfold valN at e
  rcases hs with rfl | rfl | rfl | rfl | rfl | rfl <;> omega
theorem nameN_cl (hd tl : List Nat) (first step : Int) (k : Nat) : cl (nameN hd tl first step k) = hd ++ [(valN first step k / 26).toNat + 97, (valN first step k % 26).toNat + 97] ++ tl := rfl
theorem nameN_len (hd tl : List Nat) (first step : Int) (k : Nat) : (cl (nameN hd tl first step k)).length = hd.length + 2 + tl.length := by
  rw [nameN_cl, List.length_append, List.length_append]; rfl
theorem nameN_low {hd tl : List Nat} (h1 : ∀ c ∈ hd, low c) (h2 : ∀ c ∈ tl, low c) (first step : Int) (k : Nat) : ∀ c ∈ cl (nameN hd tl first step k), low c := by
  intro c hc
  rw [nameN_cl, List.mem_append, List.mem_append] at hc
  have hv := valN_b first step k
  rcases hc with (h | h) | h
  · exact h1 c h
  · simp only [List.mem_cons, List.not_mem_nil, or_false] at h
    unfold low
    rcases h with rfl | rfl <;> omega
  · exact h2 c h
theorem nameN_inj {hd tl : List Nat} {first step : Int} {i j : Nat} (hs : Steps step) (hi : i < 13) (hj : j < 13) (e : nameN hd tl first step i = nameN hd tl first step j) : i = j := by
  have e1 := congrArg cl e
  rw [nameN_cl, nameN_cl] at e1
  have e2 := List.append_cancel_right e1
  have e3 := List.append_cancel_left e2
  simp only [List.cons.injEq, and_true] at e3
  refine valN_inj (first := first) hs hi hj ?_
  have a := valN_b first step i
  have b := valN_b first step j
  omega
theorem longN_ok {hd tl : List Nat} (h1 : ∀ c ∈ hd, low c) (h2 : ∀ c ∈ tl, low c) (l1 : hd.length ≤ 3) (l2 : tl.length ≤ 2) (first step lg : Int) (k : Nat) : NameOk (longN hd tl first step lg k) := by
  unfold longN
  by_cases h : lg = 1 ∧ k % 2 = 1
  · rw [if_pos h]
    refine ⟨?_, ?_, ?_⟩
    · rw [cl_ofL, List.length_append]; show 0 < _ + 1; omega
    · rw [cl_ofL, List.length_append, nameN_len]; show _ + 1 ≤ 8; omega
    · intro c hc
      rw [cl_ofL, List.mem_append, List.mem_singleton] at hc
      rcases hc with hc | rfl
      · exact nameN_low h1 h2 _ _ _ c hc
      · have g1 := Int.emod_nonneg (first + k) (show (26 : Int) ≠ 0 by decide)
        have g2 := Int.emod_lt_of_pos (first + k) (show (0 : Int) < 26 by decide)
        unfold low; omega
  · rw [if_neg h]
    exact ⟨by rw [nameN_len]; omega, by rw [nameN_len]; omega, nameN_low h1 h2 _ _ _⟩
theorem longN_inj {hd tl : List Nat} {first step lg : Int} {i j : Nat} (hs : Steps step) (hi : i < 13) (hj : j < 13) (e : longN hd tl first step lg i = longN hd tl first step lg j) : i = j := by
  unfold longN at e
  by_cases h : lg = 1 ∧ i % 2 = 1 <;> by_cases h' : lg = 1 ∧ j % 2 = 1
  · rw [if_pos h, if_pos h'] at e
    have e1 := congrArg cl e
    rw [cl_ofL, cl_ofL] at e1
    have e2 := List.append_inj_left' e1 rfl
    have := nameN_inj hs (i := i - 1) (j := j - 1) (by omega) (by omega) (cl_inj e2)
    omega
  · rw [if_pos h, if_neg h'] at e
    have e1 := congrArg (fun z => (cl z).length) e
    simp only [cl_ofL, List.length_append, nameN_len, List.length_singleton] at e1
    omega
  · rw [if_neg h, if_pos h'] at e
    have e1 := congrArg (fun z => (cl z).length) e
    simp only [cl_ofL, List.length_append, nameN_len, List.length_singleton] at e1
    omega
  · rw [if_neg h, if_neg h'] at e
    exact nameN_inj hs hi hj e
theorem cut_lo (xs : List V) (i : Nat) : cutV xs (some (i : Int)) none = xs.drop i := by
  unfold cutV
  rw [HT.sIx_none, HT.sIx_nat]
  by_cases h : i ≤ xs.length
  · rw [Nat.min_eq_left h]
    exact List.take_of_length_le (by rw [List.length_drop]; exact Nat.le_refl _)
  · rw [Nat.min_eq_right (by omega), Nat.sub_self, List.take_zero, List.drop_of_length_le (by omega)]
theorem cut_hi (xs : List V) (m : Nat) : cutV xs none (some (m : Int)) = xs.take m := by
  unfold cutV
  rw [HT.sIx_none, HT.sIx_nat, List.drop_zero, Nat.sub_zero]
  by_cases h : m ≤ xs.length
  · rw [Nat.min_eq_left h]
  · rw [Nat.min_eq_right (by omega), List.take_of_length_le (Nat.le_refl _), List.take_of_length_le (by omega)]
theorem range_nd {f : Nat → Str} {m : Nat} (h : ∀ i j, i < m → j < m → f i = f j → i = j) : ((List.range m).map f).Nodup := by
  rw [List.nodup_iff_pairwise_ne, List.pairwise_iff_getElem]
  intro i j hi hj hij e
  rw [List.length_map, List.length_range] at hi hj
  simp only [List.getElem_map, List.getElem_range] at e
  have := h i j hi hj e
  omega
section
variable {P : Program} {w : World} {K : PySem.W.Frag} {mg : Str → Option Value} {base : Heap}
def spNamesB : Sp := fun vs H Q _ => ∃ (b : Addr) (T m : Nat), vs = [.ref b, .int m] ∧ BoxAt H b T ∧ T + 20 ≤ 1000000 ∧ m ≤ 12 ∧
  ∀ (p : Addr) (zs : List Str) (H' : Hp), zs.length = m → zs.Nodup → (∀ z ∈ zs, NameOk z) → H p = none → H' p = some (.lst (zs.map V.str)) → BoxAt H' b (T + 20) → Kept [b] H H' → Q (.ref p) H'
theorem Kept.fresh {M : List Addr} {H H' : Hp} (h : Kept M H H') {p : Addr} (n : H' p = none) (hm : ∀ q ∈ M, q ≠ p) : H p = none := by
  cases e : H p with
  | none => rfl
  | some o =>
    have := h p o e fun z => hm p z rfl
    rw [n] at this
    cases this
theorem BoxAt.ne {H : Hp} {b p : Addr} {T : Nat} (S : BoxAt H b T) (n : H p = none) : b ≠ p := by
  obtain ⟨x, y, t, _, _, _, e⟩ := S.ex
  exact ne_of_none e n
abbrev s_law_names : Stmt := topS 17
abbrev N_law_names : List Str := ["box", "many", "letters", "first", "way", "step", "words", "head", "tail", "longer", "found", "k", "value", "name", "turn"]
theorem sc_law_names : FnScope N_law_names ["box", "many"] (defScope s_law_names) := ⟨rfl, rfl, rfl, by decide +kernel, rfl, by decide +kernel, by decide +kernel⟩

set_option maxHeartbeats 4000000 in
theorem ok_names {f : Addr} {fd : FuncData} (F : Fun K "_law_names" "_law_names" s_law_names f fd) (nb : NB mg) (D_law_take : Def P w K mg base 1 "_law_take" ["box", "many"] spTakeB) : FnOk P w K mg base CX0 2 f fd ["box", "many"] spNamesB := by
  refine F.ok sc_law_names (fun vs H Q E h => ?_) (fun cdv A outer sh H vs Q E hr h => ?_)
  · obtain ⟨b, T, m, rfl, _⟩ := h
    rfl
  obtain ⟨b, T, m, rfl, S, hT, hm, q⟩ := h
  have nd := sc_law_names.nd
  refine ⟨_, (pss_cons (ps_asg (pe_tup (pa_cons pe_str (pa_cons (pe_own D_law_take hr (pa_cons (pv 0) (pa_cons pe_int pa_nil))) (pa_cons (pe_own D_law_take hr (pa_cons (pv 0) (pa_cons pe_int pa_nil))) pa_nil)))) (pg_tup rfl (pgs_cons (pg_name (i := 2) nd rfl (Or.inr rfl)) (pgs_cons (pg_name (i := 3) nd rfl (Or.inr rfl)) (pgs_cons (pg_name (i := 4) nd rfl (Or.inl rfl)) pgs_nil)))))
      (pss_cons (ps_set (i := 5) nd rfl (Or.inr rfl) (pe_ix ix_list (pe_lst (pa_cons pe_int (pa_cons pe_int (pa_cons pe_int (pa_cons pe_int (pa_cons pe_int (pa_cons pe_int pa_nil))))))) (pe_own D_law_take hr (pa_cons (pv 0) (pa_cons pe_int pa_nil))) (fun _ _ => rfl)))
      (pss_cons (ps_if (pt_cmpR op_eq (pv 4) pe_int (nomark _))
        (pss_cons (ps_set (i := 6) nd rfl (Or.inl rfl) (pe_split pe_str pe_str))
        (pss_one (ps_ret (pe_slice sl_list (pe_slice sl_list (pe_op op_cat (pv 6) (pv 6)) (po_some (pe_op op_mod (pv 3) pe_int)) po_none) po_none (po_some (pv 1))))))
        pss_nil)
      (pss_cons (ps_if (pt_cmpR op_eq (pv 4) pe_int (nomark _))
        (pss_one (ps_ret (pe_lc (own := [("k", 11)]) (g := (gName 11)) (tt := tYes) rfl nd (pi_range1 (by rfl) nb.b_range (pa_cons (pv 1) pa_nil)) (blkOk_by (N := N_law_names) (sc := defScope s_law_names) (by decide +kernel)) (fun _ _ _ _ _ => (pg_name (i := 11) nd rfl (Or.inl rfl))) (fun _ _ _ _ _ => pts_nil) (fun _ _ _ _ _ => (pe_item_str (pv 2) (pe_op op_mod (pe_op op_add (pv 3) (pe_op op_mul (pv 5) (pv 11))) pe_int) (fun _ _ => rfl))))))
        pss_nil)
      (pss_cons (ps_set (i := 7) nd rfl (Or.inl rfl) (pe_join pe_str (pe_lc (own := [("turn", 14)]) (g := (gName 14)) (tt := tYes) rfl nd (pi_range1 (by rfl) nb.b_range (pa_cons (pe_own D_law_take hr (pa_cons (pv 0) (pa_cons pe_int pa_nil))) pa_nil)) (blkOk_by (N := N_law_names) (sc := defScope s_law_names) (by decide +kernel)) (fun _ _ _ _ _ => (pg_name (i := 14) nd rfl (Or.inl rfl))) (fun _ _ _ _ _ => pts_nil) (fun _ _ _ _ _ => (pe_item_str (pv 2) (pe_own D_law_take hr (pa_cons (pv 0) (pa_cons pe_int pa_nil))) (fun _ _ => rfl))))))
      (pss_cons (ps_set (i := 8) nd rfl (Or.inl rfl) (pe_join pe_str (pe_lc (own := [("turn", 14)]) (g := (gName 14)) (tt := tYes) rfl nd (pi_range1 (by rfl) nb.b_range (pa_cons (pe_own D_law_take hr (pa_cons (pv 0) (pa_cons pe_int pa_nil))) pa_nil)) (blkOk_by (N := N_law_names) (sc := defScope s_law_names) (by decide +kernel)) (fun _ _ _ _ _ => (pg_name (i := 14) nd rfl (Or.inl rfl))) (fun _ _ _ _ _ => pts_nil) (fun _ _ _ _ _ => (pe_item_str (pv 2) (pe_own D_law_take hr (pa_cons (pv 0) (pa_cons pe_int pa_nil))) (fun _ _ => rfl))))))
      (pss_cons (ps_par (i := 9) (j := 10) (by rfl) nd rfl rfl (by decide) rfl rfl (pa_cons (pe_own D_law_take hr (pa_cons (pv 0) (pa_cons pe_int pa_nil))) (pa_cons (pe_lst pa_nil) pa_nil)) (by rfl))
      (pss_cons (ps_for PassesOwn.never rfl (pi_range1 (by rfl) nb.b_range (pa_cons (pv 1) pa_nil)) (pg_name (i := 11) nd rfl (Or.inl rfl))
        (pss_cons (ps_set (i := 12) nd rfl (Or.inl rfl) (pe_op op_mod (pe_op op_add (pv 3) (pe_op op_mul (pv 5) (pv 11))) pe_int))
        (pss_cons (ps_set (i := 13) nd rfl (Or.inl rfl) (pe_op op_add_str (pe_op op_add_str (pe_op op_add_str (pv 7) (pe_item_str (pv 2) (pe_op op_fdivW (pv 12) pe_int) (fun _ _ => rfl))) (pe_item_str (pv 2) (pe_op op_mod (pv 12) pe_int) (fun _ _ => rfl))) (pv 8)))
        (pss_cons (ps_if (PW.pt (pw_and (pt_cmpR op_eq (pv 9) pe_int (nomark _)) (pw_and1 (pt_cmpR op_eq (pe_op op_mod (pv 11) pe_int) pe_int (nomark _)))))
          (pss_one (ps_set (i := 13) nd rfl (Or.inl rfl) (pe_op op_add_str (pe_ix ix_list (pv 10) (pe_un un_neg pe_int) (fun _ _ => rfl)) (pe_item_str (pv 2) (pe_op op_mod (pe_op op_add (pv 3) (pv 11)) pe_int) (fun _ _ => rfl)))))
          pss_nil)
        (pss_one (ps_expr (pe_bm PySem.F.plainAttrs_list PySem.F.slot_list_append PySem.F.type_list_append mt_append (pv 10) (pa_cons (pv 13) pa_nil))))))))
      (pss_one (ps_ret (pv 10))))))))))), ?_⟩
  -- letters, first, way
  refine ⟨.ref b, rfl, b, T, _, rfl, S, by omega, by decide, by decide, fun first H1 f0 f1 S1 K1 => ?_⟩
  refine ⟨.ref b, rfl, b, T + 1, _, rfl, S1, by omega, by decide, by decide, fun way H2 w0 w1 S2 K2 => ?_⟩
  refine ⟨(by show 3 ≤ sizeLine; decide), fun p2 n2 => ?_⟩
  have nb2 := S2.ne n2
  have S3 : BoxAt (upd H2 p2 (.tup [.str abc, .int first, .int way])) b (T + 2) := S2.same (same_upd n2)
  have K3 : Kept [b] H (upd H2 p2 (.tup [.str abc, .int first, .int way])) := (K1.trans K2).trans (Kept.upd_new n2)
  refine ⟨p2, _, rfl, .inl (.inl upd_same), rfl, _, _, rfl, _, _, rfl, _, _, rfl, rfl, ?_⟩
  -- step
  refine ⟨(by show 6 ≤ sizeLine; decide), fun p7 n7 => ?_⟩
  have nb7 := S3.ne n7
  refine ⟨.ref b, rfl, b, T + 2, _, rfl, S3.same (same_upd n7), by omega, by decide, by decide, fun e7 H7 e0 e1 S7 K7 => ?_⟩
  have h7 : H7 p7 = some (.lst [.int 1, .int 3, .int 5, .int 7, .int 25, .int 675]) := K7.at upd_same (by simp [nb7.symm])
  obtain ⟨step, hst, hat⟩ : ∃ step : Int, Steps step ∧ atI [V.int 1, V.int 3, V.int 5, V.int 7, V.int 25, V.int 675] e7 = some (.int step) := by
    have : e7 = 0 ∨ e7 = 1 ∨ e7 = 2 ∨ e7 = 3 ∨ e7 = 4 ∨ e7 = 5 := by omega
    rcases this with rfl | rfl | rfl | rfl | rfl | rfl
    · exact ⟨1, .inl rfl, rfl⟩
    · exact ⟨3, .inr (.inl rfl), rfl⟩
    · exact ⟨5, .inr (.inr (.inl rfl)), rfl⟩
    · exact ⟨7, .inr (.inr (.inr (.inl rfl))), rfl⟩
    · exact ⟨25, .inr (.inr (.inr (.inr (.inl rfl)))), rfl⟩
    · exact ⟨675, .inr (.inr (.inr (.inr (.inr rfl)))), rfl⟩
  refine ⟨p7, _, _, _, rfl, rfl, .inl (.inl h7), hat, ?_⟩
  have K8 : Kept [b] H H7 := K3.trans ((Kept.upd_new n7).trans K7)
  have sb : -(2 ^ 40) < step ∧ step < 2 ^ 40 := by rcases hst with rfl | rfl | rfl | rfl | rfl | rfl <;> decide
  show tSeq _ _ _ [some (.ref b), some (.int m), some (.str abc), some (.int first), some (.int way), some (.int step), none, none, none, none, none, none, none, none, none] H7
  refine ⟨.int way, rfl, rfl, _, rfl, ite2 (fun _ => ?_) (fun _ => ?_)⟩
  · -- words
    refine ⟨⟨_, rfl⟩, _, _, rfl, rfl, rfl, (by decide +kernel), fun W nW => ?_⟩
    have S8 := S7.same (same_upd (o := .lst ((Txt.split "store row put drop set tie rule table old new to gone" " ").map V.str)) nW)
    have eW : (upd H7 W (.lst ((Txt.split "store row put drop set tie rule table old new to gone" " ").map V.str))) W = some (.lst (words12.map V.str)) := by
      rw [upd_same, show Txt.split "store row put drop set tie rule table old new to gone" " " = words12 from by decide +kernel]
    have k9 : Kept [b] H7 (upd H7 W (.lst ((Txt.split "store row put drop set tie rule table old new to gone" " ").map V.str))) := Kept.upd_new nW
    show tSeq _ _ _ _ (upd H7 W (.lst ((Txt.split "store row put drop set tie rule table old new to gone" " ").map V.str)))
    generalize upd H7 W (.lst ((Txt.split "store row put drop set tie rule table old new to gone" " ").map V.str)) = H9 at S8 eW k9 ⊢
    have g0 := Int.emod_nonneg first (show (12 : Int) ≠ 0 by decide)
    have g1 := Int.emod_lt_of_pos first (show (0 : Int) < 12 by decide)
    refine ⟨.ref W, rfl, .ref W, rfl, W, W, _, _, rfl, rfl, eW, eW, (by decide +kernel), fun D1 n1 => ?_⟩
    refine ⟨.int first, rfl, _, _, rfl, rfl, (by decide : (0 : Int) < 12), _, rfl, D1, _, rfl, .inl (.inl upd_same), fun D2 n2 => ?_⟩
    refine ⟨.int m, rfl, _, rfl, D2, _, rfl, .inl (.inl upd_same), fun D3 n3 => ?_⟩
    obtain ⟨i0, hi0⟩ : ∃ i0 : Nat, first % 12 = (i0 : Int) := ⟨(first % 12).toNat, by omega⟩
    have t9 : Kept [b] H9 (upd (upd (upd H9 D1 (.lst (words12.map V.str ++ words12.map V.str))) D2 (.lst (cutV (words12.map V.str ++ words12.map V.str) (some (first % 12)) none))) D3 (.lst (cutV (cutV (words12.map V.str ++ words12.map V.str) (some (first % 12)) none) none (some (m : Int))))) := (Kept.upd_new n1).trans ((Kept.upd_new n2).trans (Kept.upd_new n3))
    have s9 := (same_upd (o := .lst (words12.map V.str ++ words12.map V.str)) n1).trans ((same_upd (o := .lst (cutV (words12.map V.str ++ words12.map V.str) (some (first % 12)) none)) n2).trans (same_upd (o := .lst (cutV (cutV (words12.map V.str ++ words12.map V.str) (some (first % 12)) none) none (some (m : Int)))) n3))
    have n39 : H9 D3 = none := Same.free ((same_upd n1).trans (same_upd n2)) n3
    refine q D3 (((words12 ++ words12).drop i0).take m) _ ?_ ?_ (fun z hz => ?_) ?_ ?_ ((S8.same s9).mono (by omega)) (K8.trans (k9.trans t9))
    · rw [List.length_take, List.length_drop]
      have : (words12 ++ words12).length = 24 := rfl
      omega
    · have h1 : (((words12 ++ words12).drop i0).take m) = ((((words12 ++ words12).drop i0).take 12).take m) := by rw [List.take_take, Nat.min_eq_left hm]
      rw [h1]
      exact (words12_nd i0 (by omega)).sublist (List.take_sublist _ _)
    · have h1 := List.mem_of_mem_drop (List.mem_of_mem_take hz)
      rcases List.mem_append.mp h1 with h | h <;> exact words12_ok z h
    · exact K8.fresh (k9.fresh n39 (by simp [S8.ne n39])) (by simp [S7.ne (k9.fresh n39 (by simp [S8.ne n39]))])
    · rw [upd_same, hi0, cut_lo, cut_hi, ← List.map_append, ← List.map_drop, ← List.map_take]
  refine ⟨.int way, rfl, rfl, _, rfl, ite2 (fun _ => ?_) (fun _ => ?_)⟩
  · -- letters
    refine ⟨.int m, rfl, (m : Int), rfl, by omega, by omega, fun D nD => ?_⟩
    have nbD := S7.ne nD
    refine lc_range (lo := 0) (n := (m : Int).toNat) (fun i H' => H' D = some (.lst (((List.range i).map fun k => one (letN first step k)).map V.str)) ∧ Kept [D] H7 H') ⟨upd_same, Kept.upd_new nD⟩ (fun k H9 hk hP => ?_) (fun H9 hP => ?_)
    · obtain ⟨eD, kk⟩ := hP
      refine ⟨rfl, ?_⟩
      unfold tYes
      dsimp only
      refine iteT ?_
      have x0 := Int.emod_nonneg (first + step * k) (show (26 : Int) ≠ 0 by decide)
      have x1 := Int.emod_lt_of_pos (first + step * k) (show (0 : Int) < 26 by decide)
      refine ⟨.str abc, rfl, .int first, rfl, .int step, rfl, .int (0 + (k : Int)), rfl, _, _, rfl, rfl, .inl ⟨by omega, by omega⟩, _, _, rfl, rfl, _, _, rfl, rfl, (by decide : (0 : Int) < 26), abc, (first + step * k) % 26, letN first step k, rfl, ?_, x0, by omega, ?_, ?_, _, eD, ?_, ?_, kk.trans (Kept.upd_in (List.mem_cons_self ..))⟩
      · show V.int ((first + step * (0 + (k : Int))) % 26) = _
        rw [Int.zero_add]
      · rw [cl_len, abc_cl]; simp; omega
      · rw [← Array.getElem?_toList]
        exact abc_at (i := ((first + step * k) % 26).toNat) (by omega)
      · rw [List.length_map, List.length_map, List.length_range]; exact small1000 (by omega)
      · rw [upd_same, List.range_succ, List.map_append, List.map_append]; rfl
    · obtain ⟨eD, kk⟩ := hP
      refine q D _ H9 (by rw [List.length_map, List.length_range]; rfl) (range_nd fun i j hi hj e => ?_) (fun z hz => ?_) ?_ eD ((S7.kept kk (by simp [nbD])).mono (by omega)) (K8.trans (kk.new nD |>.mono fun _ h => absurd h List.not_mem_nil))
      · have := congrArg cl e
        rw [cl_one, cl_one] at this
        exact letN_inj hst (by omega) (by omega) (List.cons.inj this).1
      · obtain ⟨k, _, rfl⟩ := List.mem_map.mp hz
        exact ⟨by show 0 < 1; decide, by show 1 ≤ 8; decide, fun c hc => by rw [cl_one, List.mem_singleton] at hc; rw [hc]; exact letN_low ..⟩
      · exact K8.fresh nD (by simp [nbD])
  -- hd
  refine ⟨⟨_, rfl⟩, .ref b, rfl, b, T + 3, _, rfl, S7, by omega, by decide, by decide, fun nhd Hhd n0hd n1hd Shd Khd => ⟨nhd, rfl, by omega, by omega, fun D nD => ?_⟩⟩
  have nbD := Shd.ne nD
  refine lc_range (lo := 0) (n := nhd.toNat) (fun i H' => ∃ l : List Nat, l.length = i ∧ (∀ x ∈ l, low x) ∧ H' D = some (.lst ((l.map one).map V.str)) ∧ BoxAt H' b (T + 4 + i) ∧ Kept [D, b] Hhd H') ⟨[], rfl, fun _ h => absurd h List.not_mem_nil, upd_same, Shd.same (same_upd nD), Kept.upd_in (List.mem_cons_self ..)⟩ (fun i H5 hi hP => ?_) (fun H10 hP => ?_)
  · obtain ⟨l, el, hl, eD, S5, K5⟩ := hP
    refine ⟨rfl, ?_⟩
    unfold tYes
    dsimp only
    refine iteT ?_
    refine ⟨.str abc, rfl, .ref b, rfl, b, _, _, rfl, S5, by omega, by decide, by decide, fun d H6 d0 d1 S6 K6 => ?_⟩
    obtain ⟨j, rfl⟩ : ∃ j : Nat, d = (j : Int) := ⟨d.toNat, by omega⟩
    have hj : j < 26 := by omega
    have eD6 : H6 D = some (.lst ((l.map one).map V.str)) := K6.at eD (by simp [nbD.symm])
    refine ⟨abc, (j : Int), j + 97, rfl, rfl, by omega, by omega, ?_, ?_, _, eD6, ?_, l ++ [j + 97], ?_, ?_, ?_, ?_, ?_⟩
    · rw [cl_len, abc_cl]; simp; omega
    · show abc.cps[j]? = _
      rw [← Array.getElem?_toList]; exact abc_at hj
    · rw [List.length_map, List.length_map]; exact small1000 (by omega)
    · rw [List.length_append, el]; rfl
    · intro x hx
      rcases List.mem_append.mp hx with h | h
      · exact hl x h
      · rw [List.mem_singleton.mp h]; unfold low; omega
    · rw [upd_same, List.map_append, List.map_append]; rfl
    · exact S6.kept (Kept.upd_in (M := [D]) (List.mem_cons_self ..)) (by simp [nbD])
    · exact (K5.trans (K6.mono (by intro p hp; exact List.mem_cons_of_mem _ hp))).trans (Kept.upd_in (List.mem_cons_self ..))
  obtain ⟨lhd, elhd, hlhd, eD, S5, K5⟩ := hP
  refine ⟨_, D, lhd.map one, rfl, rfl, .inl (.inl (.inl eD)), ?_, ?_⟩
  · rw [List.map_map, sum_ones]
    show lhd.length + (lhd.map one).length * 0 ≤ _
    omega
  generalize hz5 : Txt.join (Str.ofString "") (lhd.map one) = zhd
  have chd : cl zhd = lhd := by rw [← hz5]; exact join_ones lhd
  have lenhd : lhd.length ≤ 3 := by omega
  have hdS : BoxAt H10 b (T + 7) := S5.mono (by omega)
  have hdK : Kept [b] H H10 := K8.trans (Khd.trans (K5.new nD))
  clear eD hz5 nbD Khd Shd S5 K5 nD n1hd n0hd elhd
  show tSeq _ _ _ [some (.ref b), some (.int m), some (.str abc), some (.int first), some (.int way), some (.int step), none, some (.str zhd), none, none, none, none, none, none, none] H10
  -- tl
  refine ⟨⟨_, rfl⟩, .ref b, rfl, b, T + 7, _, rfl, hdS, by omega, by decide, by decide, fun ntl Htl n0tl n1tl Stl Ktl => ⟨ntl, rfl, by omega, by omega, fun D nD => ?_⟩⟩
  have nbD := Stl.ne nD
  refine lc_range (lo := 0) (n := ntl.toNat) (fun i H' => ∃ l : List Nat, l.length = i ∧ (∀ x ∈ l, low x) ∧ H' D = some (.lst ((l.map one).map V.str)) ∧ BoxAt H' b (T + 8 + i) ∧ Kept [D, b] Htl H') ⟨[], rfl, fun _ h => absurd h List.not_mem_nil, upd_same, Stl.same (same_upd nD), Kept.upd_in (List.mem_cons_self ..)⟩ (fun i H5 hi hP => ?_) (fun H11 hP => ?_)
  · obtain ⟨l, el, hl, eD, S5, K5⟩ := hP
    refine ⟨rfl, ?_⟩
    unfold tYes
    dsimp only
    refine iteT ?_
    refine ⟨.str abc, rfl, .ref b, rfl, b, _, _, rfl, S5, by omega, by decide, by decide, fun d H6 d0 d1 S6 K6 => ?_⟩
    obtain ⟨j, rfl⟩ : ∃ j : Nat, d = (j : Int) := ⟨d.toNat, by omega⟩
    have hj : j < 26 := by omega
    have eD6 : H6 D = some (.lst ((l.map one).map V.str)) := K6.at eD (by simp [nbD.symm])
    refine ⟨abc, (j : Int), j + 97, rfl, rfl, by omega, by omega, ?_, ?_, _, eD6, ?_, l ++ [j + 97], ?_, ?_, ?_, ?_, ?_⟩
    · rw [cl_len, abc_cl]; simp; omega
    · show abc.cps[j]? = _
      rw [← Array.getElem?_toList]; exact abc_at hj
    · rw [List.length_map, List.length_map]; exact small1000 (by omega)
    · rw [List.length_append, el]; rfl
    · intro x hx
      rcases List.mem_append.mp hx with h | h
      · exact hl x h
      · rw [List.mem_singleton.mp h]; unfold low; omega
    · rw [upd_same, List.map_append, List.map_append]; rfl
    · exact S6.kept (Kept.upd_in (M := [D]) (List.mem_cons_self ..)) (by simp [nbD])
    · exact (K5.trans (K6.mono (by intro p hp; exact List.mem_cons_of_mem _ hp))).trans (Kept.upd_in (List.mem_cons_self ..))
  obtain ⟨ltl, eltl, hltl, eD, S5, K5⟩ := hP
  refine ⟨_, D, ltl.map one, rfl, rfl, .inl (.inl (.inl eD)), ?_, ?_⟩
  · rw [List.map_map, sum_ones]
    show ltl.length + (ltl.map one).length * 0 ≤ _
    omega
  generalize hz5 : Txt.join (Str.ofString "") (ltl.map one) = ztl
  have ctl : cl ztl = ltl := by rw [← hz5]; exact join_ones ltl
  have lentl : ltl.length ≤ 2 := by omega
  have tlS : BoxAt H11 b (T + 10) := S5.mono (by omega)
  have tlK : Kept [b] H H11 := hdK.trans (Ktl.trans (K5.new nD))
  clear eD hz5 nbD Ktl Stl S5 K5 nD n1tl n0tl eltl
  show tSeq _ _ _ [some (.ref b), some (.int m), some (.str abc), some (.int first), some (.int way), some (.int step), none, some (.str zhd), some (.str ztl), none, none, none, none, none, none] H11
  refine ⟨.ref b, rfl, b, T + 10, _, rfl, tlS, by omega, by decide, by decide, fun lg H12 g0 g1 S12 K12 => ⟨Nat.zero_le _, fun D nD => ⟨_, _, rfl, ?_⟩⟩⟩
  have nbD := S12.ne nD
  have K12' : Kept [b] H H12 := tlK.trans K12
  have lz1 : zhd.length ≤ 3 := by rw [cl_len, chd]; exact lenhd
  have lz2 : ztl.length ≤ 2 := by rw [cl_len, ctl]; exact lentl
  refine ⟨.int m, rfl, (m : Int), rfl, by omega, by omega, ?_⟩
  refine for_range (lo := 0) (n := (m : Int).toNat) (fun k σ H' => (∃ y11 y12 y13, σ = [some (.ref b), some (.int m), some (.str abc), some (.int first), some (.int way), some (.int step), none, some (.str zhd), some (.str ztl), some (.int lg), some (.ref D), y11, y12, y13, none]) ∧
      H' D = some (.lst (((List.range k).map (longN lhd ltl first step lg)).map V.str)) ∧ Kept [D] H12 H') ⟨⟨_, _, _, rfl⟩, upd_same, Kept.upd_new nD⟩ (fun k σ H9 hk hP => ?_) (fun σ H9 hP => ?_)
  · obtain ⟨⟨y11, y12, y13, rfl⟩, eD, kk⟩ := hP
    have hkm : k < m := by omega
    have hv := valN_b first step k
    have hv2 : (first + step * (0 + (k : Int))) % 676 = valN first step k := by rw [Int.zero_add]; rfl
    refine ⟨.int first, rfl, .int step, rfl, .int (0 + (k : Int)), rfl, _, _, rfl, rfl, .inl ⟨by omega, by omega⟩, _, _, rfl, rfl, _, _, rfl, rfl, (by decide : (0 : Int) < 676), ?_⟩
    dsimp only
    rw [hv2]
    generalize hvv : valN first step k = v at hv
    have q0 : 0 ≤ v / 26 ∧ v / 26 < 26 := by omega
    have r0 : 0 ≤ v % 26 ∧ v % 26 < 26 := by omega
    have la : abc.length = 26 := by rw [cl_len, abc_cl]; simp
    have at1 : abc.cps[(v / 26).toNat]? = some ((v / 26).toNat + 97) := by rw [← Array.getElem?_toList]; exact abc_at (by omega)
    have at2 : abc.cps[(v % 26).toNat]? = some ((v % 26).toNat + 97) := by rw [← Array.getElem?_toList]; exact abc_at (by omega)
    have lone : ∀ c, (one c).length = 1 := fun c => rfl
    refine ⟨.str zhd, rfl, .str abc, rfl, .int v, rfl, _, _, rfl, rfl, wide_div (b := 8) (by decide) (by decide) (by decide) (by decide), abc, v / 26, (v / 26).toNat + 97, rfl, rfl, q0.1, by omega, by omega, at1, zhd, one ((v / 26).toNat + 97), rfl, rfl, ?_, ?_⟩
    · rw [lone]; exact Nat.le_of_lt (small1000 (by omega))
    refine ⟨.str abc, rfl, .int v, rfl, _, _, rfl, rfl, (by decide : (0 : Int) < 26), abc, v % 26, (v % 26).toNat + 97, rfl, rfl, r0.1, by omega, by omega, at2, _, one ((v % 26).toNat + 97), rfl, rfl, ?_, ?_⟩
    · rw [str_len_app, lone, lone]; exact Nat.le_of_lt (small1000 (by omega))
    refine ⟨.str ztl, rfl, _, _, rfl, rfl, ?_, ?_⟩
    · rw [str_len_app, str_len_app, lone, lone]; exact Nat.le_of_lt (small1000 (by omega))
    have en : zhd ++ one ((v / 26).toNat + 97) ++ one ((v % 26).toNat + 97) ++ ztl = nameN lhd ltl first step k := cl_inj (by
      rw [cl_app, cl_app, cl_app, chd, ctl, nameN_cl, hvv, cl_one, cl_one, List.append_assoc lhd]; rfl)
    rw [en]
    have ln : (nameN lhd ltl first step k).length ≤ 7 := by rw [cl_len, nameN_len]; omega
    have put : ∀ (z : Str), z = longN lhd ltl first step lg k → (((List.range k).map (longN lhd ltl first step lg)).map V.str) ++ [V.str z] = (((List.range (k + 1)).map (longN lhd ltl first step lg)).map V.str) := fun z e => by
      rw [e, List.range_succ, List.map_append, List.map_append]; rfl
    have lL : (((List.range k).map (longN lhd ltl first step lg)).map V.str).length = k := by rw [List.length_map, List.length_map, List.length_range]
    have done : ∀ z, z = longN lhd ltl first step lg k → ∀ y11 y12, (∃ a b' c', [some (V.ref b), some (.int m), some (.str abc), some (.int first), some (.int way), some (.int step), none, some (.str zhd), some (.str ztl), some (.int lg), some (.ref D), y11, y12, some (.str z), none] = [some (V.ref b), some (.int m), some (.str abc), some (.int first), some (.int way), some (.int step), none, some (.str zhd), some (.str ztl), some (.int lg), some (.ref D), a, b', c', none]) := fun z e _ _ => ⟨_, _, _, rfl⟩
    refine ⟨.int lg, rfl, rfl, _, rfl, ite2 (fun h1 => ?_) (fun h1 => iteF ?_)⟩
    · have h1 : lg = 1 := V.int.inj (of_decide_eq_true h1)
      refine ⟨.int (0 + (k : Int)), rfl, _, _, rfl, rfl, (by decide : (0 : Int) < 2), rfl, _, rfl, ite2 (fun h2 => ?_) (fun h2 => ?_)⟩
      · have h2 : (0 + (k : Int)) % 2 = 1 := V.int.inj (of_decide_eq_true h2)
        have h3 : k % 2 = 1 := by omega
        have hlast : (((List.range k).map (longN lhd ltl first step lg)).map V.str)[k - 1]? = some (.str (nameN lhd ltl first step (k - 1))) := by
          rw [List.getElem?_map, List.getElem?_map, List.getElem?_range (by omega)]
          show some (V.str (longN lhd ltl first step lg (k - 1))) = _
          unfold longN
          rw [if_neg (by omega)]
        have hix : ixN (((List.range k).map (longN lhd ltl first step lg)).map V.str).length (-1) = some (k - 1) := by
          rw [lL]
          unfold ixN
          rw [if_neg (by decide), if_pos (by omega)]
          congr 1
          omega
        have hat : atI (((List.range k).map (longN lhd ltl first step lg)).map V.str) (-1) = some (.str (nameN lhd ltl first step (k - 1))) := by
          unfold atI
          rw [hix]
          exact hlast
        have w0 := Int.emod_nonneg (first + k) (show (26 : Int) ≠ 0 by decide)
        have w1 := Int.emod_lt_of_pos (first + k) (show (0 : Int) < 26 by decide)
        have at3 : abc.cps[((first + k) % 26).toNat]? = some (((first + k) % 26).toNat + 97) := by rw [← Array.getElem?_toList]; exact abc_at (by omega)
        refine ⟨.ref D, rfl, 1, rfl, D, _, -1, .str (nameN lhd ltl first step (k - 1)), rfl, rfl, .inl (.inl eD), hat, .str abc, rfl, .int first, rfl, .int (0 + (k : Int)), rfl, _, _, rfl, rfl, _, _, rfl, rfl, (by decide : (0 : Int) < 26), abc, (first + k) % 26, ((first + k) % 26).toNat + 97, rfl, ?_, w0, by omega, by omega, at3, nameN lhd ltl first step (k - 1), one (((first + k) % 26).toNat + 97), rfl, rfl, ?_, ?_⟩
        · show V.int ((first + (0 + (k : Int))) % 26) = _
          rw [Int.zero_add]
        · rw [lone, cl_len, nameN_len]; exact Nat.le_of_lt (small1000 (by omega))
        have ez : nameN lhd ltl first step (k - 1) ++ one (((first + k) % 26).toNat + 97) = longN lhd ltl first step lg k := by
          unfold longN
          rw [if_pos ⟨h1, h3⟩]
          exact cl_inj (by rw [cl_app, cl_one, cl_ofL])
        rw [ez]
        refine ⟨.ref D, rfl, .inl ⟨rfl, _, .inl (.inl eD)⟩, _, rfl, D, _, _, rfl, rfl, eD, by rw [lL]; exact small1000 (by omega), ⟨_, _, _, rfl⟩, by rw [upd_same, put _ rfl], kk.trans (Kept.upd_in (List.mem_cons_self ..))⟩
      · have h3 : ¬ k % 2 = 1 := fun z => h2 (decide_eq_true (congrArg V.int (show (0 + (k : Int)) % 2 = 1 by omega)))
        have ez : nameN lhd ltl first step k = longN lhd ltl first step lg k := by unfold longN; rw [if_neg (fun z => h3 z.2)]
        rw [ez]
        refine ⟨.ref D, rfl, .inl ⟨rfl, _, .inl (.inl eD)⟩, _, rfl, D, _, _, rfl, rfl, eD, by rw [lL]; exact small1000 (by omega), ⟨_, _, _, rfl⟩, by rw [upd_same, put _ rfl], kk.trans (Kept.upd_in (List.mem_cons_self ..))⟩
    · have h3 : ¬ lg = 1 := fun z => h1 (decide_eq_true (congrArg V.int z))
      have ez : nameN lhd ltl first step k = longN lhd ltl first step lg k := by unfold longN; rw [if_neg (fun z => h3 z.1)]
      rw [ez]
      refine ⟨.ref D, rfl, .inl ⟨rfl, _, .inl (.inl eD)⟩, _, rfl, D, _, _, rfl, rfl, eD, by rw [lL]; exact small1000 (by omega), ⟨_, _, _, rfl⟩, by rw [upd_same, put _ rfl], kk.trans (Kept.upd_in (List.mem_cons_self ..))⟩
  · obtain ⟨⟨y11, y12, y13, rfl⟩, eD, kk⟩ := hP
    refine ⟨.ref D, rfl, q D _ H9 (by rw [List.length_map, List.length_range]; rfl) (range_nd fun i j hi hj e => longN_inj hst (by omega) (by omega) e) (fun z hz => ?_) ?_ eD ((S12.kept kk (by simp [nbD])).mono (by omega)) (K12'.trans (kk.new nD |>.mono fun _ h => absurd h List.not_mem_nil))⟩
    · obtain ⟨k, _, rfl⟩ := List.mem_map.mp hz
      exact longN_ok hlhd hltl lenhd lentl _ _ _ _
    · exact K12'.fresh nD (by simp [nbD])
end
end TT

set_option Elab.async false
set_option linter.all false
set_option maxRecDepth 100000
namespace TT
open PySem PySem.Spec PyProof.Rows L2
/-! ### worths -/
def wV : Option Int → V
  | none => .non
  | some i => .int i
def wD : Option Int → PyData
  | none => .none
  | some i => .int i
def WOk : Option Int → Prop
  | none => True
  | some i => -1000000000 ≤ i ∧ i ≤ 1000000000
theorem dp_w {K : PySem.W.Frag} {H : Hp} : ∀ o : Option Int, Dp K H (wV o) (wD o)
  | none => .non
  | some i => .int i
/-! ### tables as plain data -/
abbrev Col := Str × Option Int
abbrev Tab := Str × List Col
def colD (x : Col) : PyData := .tuple [.str x.1, wD x.2]
def tabD (x : Tab) : PyData := .tuple [.str x.1, .tuple (x.2.map colD)]
structure ColsOk (n : Nat) (cs : List Col) : Prop where
  top : cs.length ≤ n
  nd : (cs.map (·.1)).Nodup
  nm : ∀ x ∈ cs, NameOk x.1
  w : ∀ x ∈ cs, WOk x.2
  key : ∀ x, cs[0]? = some x → x.2 = none
structure TabsOk (n : Nat) (ts : List Tab) : Prop where
  nd : (ts.map (·.1)).Nodup
  nm : ∀ x ∈ ts, NameOk x.1
  cs : ∀ x ∈ ts, ColsOk n x.2 ∧ 0 < x.2.length
theorem strOk_name {z : Str} (h : NameOk z) : PyData.strOk z = true := by
  unfold PyData.strOk
  rw [Array.all_eq_true']
  intro x hx
  have := h.low x (by unfold cl; exact Array.mem_toList_iff.mpr hx)
  unfold low at this
  simp; omega
theorem lay_w : ∀ o : Option Int, (wD o).canLay0 = true ∧ (wD o).depth = 0
  | none => ⟨rfl, rfl⟩
  | some _ => ⟨rfl, rfl⟩
theorem lay_cols : ∀ cs : List Col, (∀ x ∈ cs, NameOk x.1) → PyData.canLayAll0 (cs.map colD) = true ∧ PyData.depthAll (cs.map colD) ≤ 1
  | [], _ => ⟨rfl, Nat.zero_le _⟩
  | x :: cs, h => by
    obtain ⟨h1, h2⟩ := lay_cols cs fun y hy => h y (List.mem_cons_of_mem _ hy)
    have h3 := strOk_name (h x (List.mem_cons_self ..))
    obtain ⟨h4, h5⟩ := lay_w x.2
    constructor
    · show ((PyData.strOk x.1 && ((wD x.2).canLay0 && true)) && PyData.canLayAll0 (cs.map colD)) = true
      rw [h3, h4, h1]; rfl
    · show max (max 0 (max (wD x.2).depth 0) + 1) (PyData.depthAll (cs.map colD)) ≤ 1
      rw [h5]
      exact Nat.max_le.mpr ⟨Nat.le_refl _, h2⟩
theorem shaped_cols {cs : List Col} (h : ∀ x ∈ cs, NameOk x.1) : SeqAt.shaped (.list (cs.map colD)) = true := by
  obtain ⟨h1, h2⟩ := lay_cols cs h
  show (PyData.canLayAll0 (cs.map colD) && decide (PyData.depthAll (cs.map colD) + 1 ≤ 64)) = true
  rw [h1, decide_eq_true (by omega)]; rfl
theorem eqv_nil (ds : List PyData) : PyData.eqv (.list ds) (.list []) = ds.isEmpty := by
  cases ds <;> rfl
theorem msk_at {M : List Addr} {H : Hp} {p : Addr} {o : HO} (h : H p = some o) (n : p ∉ M) : msk M H p = some o := by
  unfold msk
  rw [if_neg n]
  exact h
/-- len of a list or a tuple, named -/
def rLenQ (K : PySem.W.Frag) : List V → Hp → VK → Prop := fun xs H Q => ∃ p ys, xs = [V.ref p] ∧ (SqL K H p ys ∨ SqT K H p ys) ∧ Q (.int (ys.length : Int)) H
/-! ### a list that grows, its items beside what is masked -/
structure Grow (K : PySem.W.Frag) (M : List Addr) (H : Hp) (P : Addr) (vs : List V) (ds : List PyData) : Prop where
  at' : H P = some (.lst vs)
  dp : DpAll K (msk (P :: M) H) vs ds
section
variable {K : PySem.W.Frag} {M : List Addr} {H H' : Hp} {P : Addr} {vs : List V} {ds : List PyData} {v : V} {d : PyData} {o : HO} {s c : Addr}
theorem Grow.start : Grow K M (upd H P (.lst [])) P [] [] := ⟨upd_same, .nil⟩
theorem sub_push : ∀ p ∈ M, p ∈ P :: M := fun _ h => List.mem_cons_of_mem _ h
theorem Grow.kept (g : Grow K M H P vs ds) (k : Kept M H H') (n : P ∉ M) : Grow K M H' P vs ds := ⟨k.at g.at' n, dpAll_same (msk_same (k.mono sub_push)) g.dp⟩
theorem Grow.put (g : Grow K M H P vs ds) (h : Dp K (msk (P :: M) H) v d) : Grow K M (upd H P (.lst (vs ++ [v]))) P (vs ++ [v]) (ds ++ [d]) :=
  ⟨upd_same, dpAll_same (msk_same (Kept.upd_in (List.mem_cons_self ..))) (dpAll_snoc g.dp h)⟩
theorem Grow.done (g : Grow K M H P vs ds) (n : P ∉ M) : Dp K (msk M H) (.ref P) (.list ds) := .lst (.inl (.inl (msk_at g.at' n))) (dpAll_same (msk_less sub_push) g.dp)
theorem Grow.len (g : Grow K M H P vs ds) : vs.length = ds.length := dpAll_len g.dp
end
/-! ### a box's tables -/
theorem BoxAt.out {H : Hp} {b p : Addr} {T : Nat} (S : BoxAt H b T) (n : H p = none) : p ∉ [b] := fun z => by
  have := S.ne n
  exact this (List.mem_singleton.mp z).symm
section
variable {P : Program} {w : World} {K : PySem.W.Frag} {mg : Str → Option Value} {base : Heap}
def spTablesB (K : PySem.W.Frag) : Sp := fun vs H Q _ => ∃ (b : Addr) (T m : Nat), vs = [.ref b, .int m] ∧ BoxAt H b T ∧ T + 300 ≤ 1000000 ∧ 0 < m ∧ m ≤ 6 ∧
  ∀ (p : Addr) (ts : List Tab) (H' : Hp), 0 < ts.length → ts.length ≤ m → TabsOk 5 ts → H p = none → Dp K (msk [b] H') (.ref p) (.tuple (ts.map tabD)) → BoxAt H' b (T + 300) → Kept [b] H H' → Q (.ref p) H'
abbrev s_law_tables : Stmt := topS 18
abbrev N_law_tables : List Str := ["box", "most", "found", "shared", "name", "names", "columns", "column"]
theorem sc_law_tables : FnScope N_law_tables ["box", "most"] (defScope s_law_tables) := ⟨rfl, rfl, rfl, by decide +kernel, rfl, by decide +kernel, by decide +kernel⟩

set_option maxHeartbeats 4000000 in
theorem ok_tables {f : Addr} {fd : FuncData} (F : Fun K "_law_tables" "_law_tables" s_law_tables f fd) (nb : NB mg) (D_law_take : Def P w K mg base 1 "_law_take" ["box", "many"] spTakeB)
    (D_law_names : Def P w K mg base 2 "_law_names" ["box", "many"] spNamesB) : FnOk P w K mg base CX0 3 f fd ["box", "most"] (spTablesB K) := by
  refine F.ok sc_law_tables (fun vs H Q E h => ?_) (fun cdv A outer sh H vs Q E hr h => ?_)
  · obtain ⟨b, T, m, rfl, _⟩ := h
    rfl
  obtain ⟨b, T, m, rfl, S, hT, hm0, hm, q⟩ := h
  have nd := sc_law_tables.nd
  refine ⟨_, (pss_cons (ps_par (i := 2) (j := 3) (by rfl) nd rfl rfl (by decide) rfl rfl (pa_cons (pe_lst pa_nil) (pa_cons (pe_own D_law_names hr (pa_cons (pv 0) (pa_cons pe_int pa_nil))) pa_nil)) (by rfl))
      (pss_cons (ps_for PassesOwn.never rfl (pi_list (pe_own D_law_names hr (pa_cons (pv 0) (pa_cons (pe_op op_add pe_int (pe_own D_law_take hr (pa_cons (pv 0) (pa_cons (pv 1) pa_nil)))) pa_nil)))) (pg_name (i := 4) nd rfl (Or.inl rfl))
        (pss_cons (ps_set (i := 5) nd rfl (Or.inl rfl) (pe_slice sl_list (pe_ix ix_list (pe_lst (pa_cons (pv 3) (pa_cons (pe_own D_law_names hr (pa_cons (pv 0) (pa_cons pe_int pa_nil))) pa_nil))) (pe_own D_law_take hr (pa_cons (pv 0) (pa_cons pe_int pa_nil))) (fun _ _ => rfl)) po_none (po_some (pe_op op_add pe_int (pe_own D_law_take hr (pa_cons (pv 0) (pa_cons pe_int pa_nil)))))))
        (pss_cons (ps_set (i := 6) nd rfl (Or.inl rfl) (pe_lst (pa_cons (pe_tup (pa_cons (pe_ix ix_list (pv 5) pe_int (fun _ _ => rfl)) (pa_cons pe_non pa_nil))) pa_nil)))
        (pss_cons (ps_for PassesOwn.never rfl (pi_list (pe_slice sl_list (pv 5) (po_some pe_int) po_none)) (pg_name (i := 7) nd rfl (Or.inl rfl))
          (pss_one (ps_expr (pe_bm PySem.F.plainAttrs_list PySem.F.slot_list_append PySem.F.type_list_append mt_append (pv 6) (pa_cons (pe_tup (pa_cons (pv 7) (pa_cons (pe_ix ix_list (pe_lst (pa_cons pe_non (pa_cons (pe_op op_sub (pe_own D_law_take hr (pa_cons (pv 0) (pa_cons pe_int pa_nil))) pe_int) (pa_cons (pe_op op_pow pe_int pe_int) pa_nil)))) (pe_own D_law_take hr (pa_cons (pv 0) (pa_cons pe_int pa_nil))) (fun _ _ => rfl)) pa_nil))) pa_nil)))))
        (pss_one (ps_expr (pe_bm PySem.F.plainAttrs_list PySem.F.slot_list_append PySem.F.type_list_append mt_append (pv 2) (pa_cons (pe_tup (pa_cons (pv 4) (pa_cons (pe_callTy call_tuple_of (by rfl) nb.b_tuple (by decide +kernel) (pa_cons (pv 6) pa_nil)) pa_nil))) pa_nil))))))))
      (pss_one (ps_ret (pe_callTy call_tuple_of (by rfl) nb.b_tuple (by decide +kernel) (pa_cons (pv 2) pa_nil)))))), ?_⟩
  -- found, shared
  refine ⟨Nat.zero_le _, fun F1 n1 => ?_⟩
  have S1 : BoxAt (upd H F1 (.lst [])) b T := S.same (same_upd n1)
  have oF := S.out n1
  refine ⟨.ref b, rfl, b, T, 5, rfl, S1, by omega, by decide, fun sh zsh H2 lsh ndsh oksh fsh eSh S2 K2 => ⟨_, _, rfl, ?_⟩⟩
  have eF2 : H2 F1 = some (.lst []) := K2.at upd_same oF
  -- names
  refine ⟨.ref b, rfl, .ref b, rfl, .int m, rfl, b, _, (m : Int), rfl, S2, by omega, by omega, by omega, fun d H3 d0 d1 S3 K3 => ⟨_, _, rfl, rfl, ?_⟩⟩
  obtain ⟨mm, hmm⟩ : ∃ mm : Nat, 1 + d = (mm : Int) := ⟨(1 + d).toNat, by omega⟩
  refine ⟨b, _, mm, congrArg (fun z => [V.ref b, V.int z]) hmm, S3, by omega, by omega, fun pn zs H4 lzs ndzs okzs fzs eZs S4 K4 => ?_⟩
  have K24 := K3.trans K4
  have oSh := S1.out fsh
  have oPn := S3.out fzs
  have eF4 := K24.at eF2 oF
  have eSh4 := K24.at eSh oSh
  have K04 : Kept [F1, b] H H4 := (Kept.upd_new n1).trans ((K2.trans K24).mono fun p h => List.mem_cons_of_mem _ h)
  refine ⟨pn, rfl, ⟨_, .inl (.inl eZs)⟩, ?_⟩
  have nFp : F1 ≠ pn := ne_of_none ((K2.trans K3).at upd_same oF) fzs
  have nFs : F1 ≠ sh := ne_of_none upd_same fsh
  refine for_it (walk_list (xs := zs.map V.str)) (fun i σ H' => (∃ y4 y5 y6 y7, σ = [some (.ref b), some (.int m), some (.ref F1), some (.ref sh), y4, y5, y6, y7]) ∧ (∃ us ts, Grow K [b] H' F1 us (ts.map tabD) ∧ ts.map (·.1) = zs.take i ∧ ∀ x ∈ ts, ColsOk 5 x.2 ∧ 0 < x.2.length) ∧
      BoxAt H' b (T + 41 + i * 35) ∧ H' sh = some (.lst (zsh.map V.str)) ∧ H' pn = some (.lst (zs.map V.str)) ∧ Kept [F1, b] H H') ⟨⟨_, _, _, _, rfl⟩, ⟨[], [], ⟨eF4, .nil⟩, rfl, fun _ h => absurd h List.not_mem_nil⟩, S4.mono (by omega), eSh4, eZs, K04⟩ (fun i σ H' _ hP => .inl (.inl hP.2.2.2.2.1)) (fun i x σ H' H5 hi hP hY => ?_) (fun σ H5 hP => ?_)
  · obtain ⟨rfl, hx⟩ := hY
    obtain ⟨⟨y4, y5, y6, y7, rfl⟩, ⟨us, ts, gr, htn, hts⟩, S5, eSh5, eZ5, K05⟩ := hP
    have hi' : i < mm := by rw [List.length_map, lzs] at hi; exact hi
    rw [List.getElem?_map] at hx
    obtain ⟨z, hz, rfl⟩ := Option.map_eq_some_iff.mp hx
    -- names of columns
    refine ⟨.ref sh, rfl, .ref b, rfl, b, _, 5, rfl, S5, by omega, by decide, fun ow zow H6 low' ndow okow fow eOw S6 K6 => ?_⟩
    have K56 : Kept [b] H5 H6 := K6
    refine ⟨(by show 2 ≤ sizeLine; decide), fun L0 nL0 => ?_⟩
    have S6' := S6.same (same_upd (o := .lst [.ref sh, .ref ow]) nL0)
    have oL0 := S6.out nL0
    refine ⟨.ref b, rfl, b, _, 2, rfl, S6', by omega, by decide, by decide, fun e7 H7 e70 e71 S7 K7 => ?_⟩
    have k67 : Kept [b] H6 H7 := (Kept.upd_new nL0).trans K7
    have eL7 : H7 L0 = some (.lst [.ref sh, .ref ow]) := K7.at upd_same oL0
    have oSh5 : sh ∉ [b] := oSh
    have oOw := S5.out fow
    have eSh7 := k67.at (K6.at eSh5 oSh5) oSh5
    have eOw7 := k67.at eOw oOw
    obtain ⟨x, zx, hat, ex7, lx, ndx, okx⟩ : ∃ (x : Addr) (zx : List Str), atI [V.ref sh, V.ref ow] e7 = some (.ref x) ∧ H7 x = some (.lst (zx.map V.str)) ∧ zx.length = 5 ∧ zx.Nodup ∧ ∀ z ∈ zx, NameOk z := by
      have : e7 = 0 ∨ e7 = 1 := by omega
      rcases this with rfl | rfl
      · exact ⟨sh, zsh, rfl, eSh7, lsh, ndsh, oksh⟩
      · exact ⟨ow, zow, rfl, eOw7, low', ndow, okow⟩
    refine ⟨L0, _, _, _, rfl, rfl, .inl (.inl eL7), hat, ?_⟩
    refine ⟨.ref b, rfl, b, _, 5, rfl, S7, by omega, by decide, by decide, fun t H8 t0 t1 S8 K8 => ⟨_, _, rfl, rfl, ?_⟩⟩
    obtain ⟨tt, htt⟩ : ∃ tt : Nat, 1 + t = (tt : Int) := ⟨(1 + t).toNat, by omega⟩
    have ox : x ∉ [b] := fun z => by
      rw [List.mem_singleton.mp z] at ex7
      obtain ⟨xx, yy, tq, _, _, _, e⟩ := S7.ex
      rw [e] at ex7
      have h1 := congrArg List.length (HO.lst.inj (Option.some.inj ex7))
      rw [List.length_map, lx] at h1
      exact absurd (show (3 : Nat) = 5 from h1) (by decide)
    have ex8 := K8.at ex7 ox
    refine ⟨_, rfl, x, _, rfl, .inl (.inl ex8), fun N nN => ?_⟩
    rw [htt, cut_hi, ← List.map_take]
    have K58 : Kept [b] H5 H8 := K56.trans (k67.trans K8)
    have S8N := S8.same (same_upd (o := .lst ((zx.take tt).map V.str)) nN)
    obtain ⟨c0, zr, rfl⟩ : ∃ c0 zr, zx = c0 :: zr := by
      cases zx with
      | nil => cases lx
      | cons a r => exact ⟨a, r, rfl⟩
    obtain ⟨t', rfl⟩ : ∃ t', tt = t' + 1 := ⟨tt - 1, by omega⟩
    have lzr : zr.length = 4 := by simpa using lx
    have eN : (upd H8 N (.lst (((c0 :: zr).take (t' + 1)).map V.str))) N = some (.lst (((c0 :: zr).take (t' + 1)).map V.str)) := upd_same
    have K59 : Kept [b] H5 (upd H8 N (.lst (((c0 :: zr).take (t' + 1)).map V.str))) := K58.trans (Kept.upd_new nN)
    show tSeq _ _ _ [some (.ref b), some (.int m), some (.ref F1), some (.ref sh), some (.str z), some (.ref N), y6, y7] (upd H8 N (.lst (((c0 :: zr).take (t' + 1)).map V.str)))
    generalize upd H8 N (.lst (((c0 :: zr).take (t' + 1)).map V.str)) = H9 at eN K59 S8N ⊢
    refine ⟨.ref N, rfl, N, _, 0, .str c0, rfl, rfl, .inl (.inl eN), atI_nat (j := 0) rfl, (by show 2 ≤ sizeLine; decide), fun tp ntp => ⟨(by show 1 ≤ sizeLine; decide), fun C nC => ?_⟩⟩
    have ntC : tp ≠ C := ne_of_none upd_same nC
    have sN := (same_upd (o := .tup [.str c0, .non]) ntp).trans (same_upd (o := .lst [.ref tp]) nC)
    have S10 := S8N.same sN
    have eN10 := sN _ _ eN
    have n9C : H9 C = none := Same.free (same_upd ntp) nC
    have K5C : Kept [b] H5 (upd (upd H9 tp (.tup [.str c0, .non])) C (.lst [.ref tp])) := K59.trans (Kept.of_same sN)
    have eF5 := gr.at'
    have eF10 := K5C.at eF5 oF
    have nFC : F1 ≠ C := fun z => by rw [← z] at n9C; rw [K59.at eF5 oF] at n9C; cases n9C
    have nFt : F1 ≠ tp := fun z => by rw [← z] at ntp; rw [K59.at eF5 oF] at ntp; cases ntp
    have nbC := S8N.ne n9C
    have nbt := S8N.ne ntp
    have gC : Grow K [F1, b] (upd (upd H9 tp (.tup [.str c0, .non])) C (.lst [.ref tp])) C [.ref tp] [colD (c0, none)] := ⟨upd_same, .cons (.tup (.inl (.inl (msk_at (by rw [upd_ne ntC, upd_same]) (by simp [ntC, nFt.symm, nbt.symm])))) (.cons (.str _) (.cons .non .nil))) .nil⟩
    show tSeq _ _ _ _ (upd (upd H9 tp (.tup [.str c0, .non])) C (.lst [.ref tp]))
    generalize upd (upd H9 tp (.tup [.str c0, .non])) C (.lst [.ref tp]) = H10 at S10 eN10 K5C eF10 gC ⊢
    refine ⟨.ref N, rfl, _, rfl, N, _, rfl, .inl (.inl eN10), fun N2 nN2 => ?_⟩
    rw [show (1 : Int) = ((1 : Nat) : Int) from rfl, cut_lo]
    have lzn : ((c0 :: zr).take (t' + 1)).length = t' + 1 := by rw [List.length_take, List.length_cons, lzr]; omega
    have ezn : ((c0 :: zr).take (t' + 1)).drop 1 = zr.take t' := rfl
    have nCN2 : C ≠ N2 := ne_of_none gC.at' nN2
    have gC2 := gC.kept (Kept.upd_new (o := .lst ((((c0 :: zr).take (t' + 1)).map V.str).drop 1)) nN2) (by simp [nFC.symm, nbC.symm])
    have S11 := S10.same (same_upd (o := .lst ((((c0 :: zr).take (t' + 1)).map V.str).drop 1)) nN2)
    have eN2 : (upd H10 N2 (.lst ((((c0 :: zr).take (t' + 1)).map V.str).drop 1))) N2 = some (.lst ((zr.take t').map V.str)) := by rw [upd_same, ← List.map_drop, ezn]
    have K5N : Kept [b] H5 (upd H10 N2 (.lst ((((c0 :: zr).take (t' + 1)).map V.str).drop 1))) := K5C.trans (Kept.upd_new nN2)
    have nbN2 := S10.ne nN2
    refine ⟨N2, rfl, ⟨_, .inl (.inl eN2)⟩, ?_⟩
    generalize upd H10 N2 (.lst ((((c0 :: zr).take (t' + 1)).map V.str).drop 1)) = H11 at gC2 S11 eN2 K5N ⊢
    refine for_it (walk_list (xs := (zr.take t').map V.str)) (fun k σ H' => (∃ y7, σ = [some (.ref b), some (.int m), some (.ref F1), some (.ref sh), some (.str z), some (.ref N), some (.ref C), y7]) ∧ (∃ cu cols, Grow K [F1, b] H' C cu (cols.map colD) ∧ cols.map (·.1) = (c0 :: zr).take (k + 1) ∧ (∀ x ∈ cols, WOk x.2) ∧ cols[0]? = some (c0, none)) ∧
      BoxAt H' b (T + 41 + i * 35 + 25 + k * 2) ∧ H' N2 = some (.lst ((zr.take t').map V.str)) ∧ Kept [C, b] H11 H') ⟨⟨_, rfl⟩, ⟨_, [(c0, none)], gC2, rfl, fun x hx => by rw [List.mem_singleton.mp hx]; trivial, rfl⟩, S11.mono (by omega), eN2, Kept.refl _ _⟩ (fun k σ H' _ hP => .inl (.inl hP.2.2.2.1)) (fun k x σ H' H'' hk hP hY => ?_) (fun σ H12 hP => ?_)
    · obtain ⟨rfl, hx⟩ := hY
      obtain ⟨⟨y7, rfl⟩, ⟨cu, cols, gc, hcn, hcw, hc0⟩, S12, eN12, K12⟩ := hP
      rw [List.getElem?_map] at hx
      obtain ⟨cn, hcn2, rfl⟩ := Option.map_eq_some_iff.mp hx
      have hk4 : k < 4 := by
        rw [List.length_map, List.length_take] at hk
        omega
      have hk5 : k < t' := by
        rw [List.length_map, List.length_take] at hk
        omega
      have oC : C ∉ [F1, b] := by simp [nFC.symm, nbC.symm]
      have oCb : C ∉ [b] := by simp [nbC.symm]
      refine ⟨.ref C, rfl, .inl ⟨rfl, _, .inl (.inl gc.at')⟩, .str cn, rfl, .ref b, rfl, b, _, 9, rfl, S12, by omega, by decide, by decide, fun v Ha v0 v1 Sa Ka => ⟨_, _, rfl, rfl, 10, 9, rfl, rfl, ⟨by decide, by decide, by decide⟩, (by show 3 ≤ sizeLine; decide), fun L nL => ?_⟩⟩
      have oL := Sa.out nL
      refine ⟨.ref b, rfl, b, _, 3, rfl, Sa.same (same_upd nL), by omega, by decide, by decide, fun e Hb e0 e1 Sb Kb => ?_⟩
      have eL : Hb L = some (.lst [.non, .int (v - 3), .int (10 ^ (9 : Int).toNat)]) := Kb.at upd_same oL
      obtain ⟨o, ho, hato⟩ : ∃ o : Option Int, WOk o ∧ atI [V.non, V.int (v - 3), V.int (10 ^ (9 : Int).toNat)] e = some (wV o) := by
        have : e = 0 ∨ e = 1 ∨ e = 2 := by omega
        rcases this with rfl | rfl | rfl
        · exact ⟨none, trivial, rfl⟩
        · exact ⟨some (v - 3), ⟨by omega, by omega⟩, rfl⟩
        · exact ⟨some (10 ^ (9 : Int).toNat), ⟨by decide, by decide⟩, rfl⟩
      refine ⟨L, _, _, _, rfl, rfl, .inl (.inl eL), hato, (by show 2 ≤ sizeLine; decide), fun t nt => ?_⟩
      have kab : Kept [b] H'' (upd Hb t (.tup [.str cn, wV o])) := Ka.trans ((Kept.upd_new nL).trans (Kb.trans (Kept.upd_new nt)))
      have gc2 := gc.kept (kab.mono fun p h => by rw [List.mem_singleton.mp h]; simp) oC
      have nCt : C ≠ t := ne_of_none ((Ka.trans ((Kept.upd_new nL).trans Kb)).at gc.at' oCb) nt
      have nbt2 := Sb.ne nt
      have nFt2 : F1 ≠ t := ne_of_none ((Ka.trans ((Kept.upd_new nL).trans Kb)).at (K12.at (K5N.at eF5 oF) (by simp [nFC, oF])) oF) nt
      have hcl : cols.length = k + 1 := by
        have := congrArg List.length hcn
        rw [List.length_map, List.length_take, List.length_cons, lzr] at this
        omega
      have hcz : zr[k]? = some cn := by
        rw [List.getElem?_take_of_lt hk5] at hcn2
        exact hcn2
      have put := gc2.put (v := .ref t) (d := colD (cn, o)) (.tup (.inl (.inl (msk_at upd_same (by simp [nCt.symm, nFt2.symm, nbt2.symm])))) (.cons (.str _) (.cons (dp_w o) .nil)))
      refine ⟨C, cu, .ref t, rfl, rfl, gc2.at', small1000 (by rw [gc.len, List.length_map, hcl]; omega), ⟨_, rfl⟩, ⟨_, cols ++ [(cn, o)], by rw [List.map_append]; exact put, ?_, ?_, ?_⟩, ?_, ?_, ?_⟩
      · rw [List.map_append, hcn, List.take_add_one (i := k + 1), List.getElem?_cons_succ, hcz]; rfl
      · intro x hx
        rcases List.mem_append.mp hx with h | h
        · exact hcw x h
        · rw [List.mem_singleton.mp h]; exact ho
      · rw [List.getElem?_append_left (by omega)]; exact hc0
      · exact ((Sb.same (same_upd nt)).kept (Kept.upd_in (M := [C]) (List.mem_cons_self ..)) (by simp [nbC])).mono (by omega)
      · have nCN : N2 ≠ C := nCN2.symm
        rw [upd_ne nCN]
        exact kab.at eN12 (by simp [nbN2.symm])
      · exact K12.trans ((kab.mono fun p h => List.mem_cons_of_mem _ h).trans (Kept.upd_in (List.mem_cons_self ..)))
    · obtain ⟨⟨y7, rfl⟩, ⟨cu, cols, gc, hcn, hcw, hc0⟩, S12, eN12, K12⟩ := hP
      have lzt : (zr.take t').length = t' := by rw [List.length_take, lzr]; omega
      rw [List.length_map, lzt] at hcn S12
      have nC5 : H5 C = none := K59.fresh n9C (by simp [nbC])
      have k11 : Kept [b] H5 H12 := by
        have k1 : Kept (C :: [b]) H5 H12 := (K5N.mono fun p h => List.mem_cons_of_mem _ h).trans K12
        exact k1.new nC5
      have gf := gr.kept k11 oF
      refine ⟨.ref F1, rfl, .inl ⟨rfl, _, .inl (.inl gf.at')⟩, .str z, rfl, .ref C, rfl, C, cu, rfl, .inl ⟨.inl (.inl gc.at'), fun l nl => ⟨(by show 2 ≤ sizeLine; decide), fun t nt => ?_⟩⟩⟩
      have nFl : F1 ≠ l := ne_of_none gf.at' nl
      have nbl := S12.ne nl
      have sl := same_upd (o := .tup cu) nl
      have nlt : l ≠ t := ne_of_none upd_same nt
      have gfl := gf.kept (Kept.upd_new (o := .tup cu) nl) oF
      have nFt : F1 ≠ t := ne_of_none gfl.at' nt
      have nbt := (S12.same sl).ne nt
      have st := same_upd (o := .tup [.str z, .ref l]) nt
      have gft := gfl.kept (Kept.upd_new (o := .tup [.str z, .ref l]) nt) oF
      have okc : ColsOk 5 cols := by
        have hnd : (cols.map (·.1)).Nodup := by rw [hcn]; exact ndx.sublist (List.take_sublist _ _)
        refine ⟨?_, hnd, fun x hx => okx _ (List.mem_of_mem_take (by rw [← hcn]; exact List.mem_map.mpr ⟨x, hx, rfl⟩)), hcw, fun x hx => ?_⟩
        · have := congrArg List.length hcn
          rw [List.length_map, List.length_take, List.length_cons, lzr] at this
          omega
        · rw [hc0] at hx; cases hx; rfl
      have lc0 : 0 < cols.length := by
        cases cols with
        | nil => cases hc0
        | cons _ _ => exact Nat.succ_pos _
      have hdp : Dp K (msk (F1 :: [b]) (upd (upd H12 l (.tup cu)) t (.tup [.str z, .ref l]))) (.ref t) (tabD (z, cols)) :=
        .tup (.inl (.inl (msk_at upd_same (by simp [nFt.symm, nbt.symm])))) (.cons (.str _) (.cons (.tup (.inl (.inl (msk_at (by rw [upd_ne nlt]; exact upd_same) (by simp [nFl.symm, nbl.symm]))))
          (dpAll_same ((msk_less sub_push).trans (msk_same ((Kept.of_same sl).trans (Kept.of_same st)))) gc.dp)) .nil))
      have put := gft.put hdp
      have hlt : ts.length = i := by
        have := congrArg List.length htn
        rw [List.length_map, List.length_take, lzs] at this
        omega
      refine ⟨F1, us, .ref t, rfl, rfl, gft.at', small1000 (by rw [gr.len, List.length_map, hlt]; omega), ⟨_, _, _, _, rfl⟩, ⟨_, ts ++ [(z, cols)], by rw [List.map_append]; exact put, ?_, ?_⟩, ?_, ?_, ?_, ?_⟩
      · rw [List.map_append, htn, List.take_add_one, hz]; rfl
      · intro y hy
        rcases List.mem_append.mp hy with h | h
        · exact hts y h
        · rw [List.mem_singleton.mp h]; exact ⟨okc, lc0⟩
      · have hkz : ((zr.take t').map V.str).length = t' := by rw [List.length_map, lzt]
        exact (((S12.same sl).same st).kept (Kept.upd_in (M := [F1]) (List.mem_cons_self ..)) (by simp; exact fun z => oF (by rw [← z]; exact List.mem_singleton.mpr rfl))).mono (by omega)
      · rw [upd_ne nFs.symm]
        exact st _ _ (sl _ _ (k11.at eSh5 oSh5))
      · rw [upd_ne nFp.symm]
        exact st _ _ (sl _ _ (k11.at eZ5 oPn))
      · exact K05.trans (((k11.mono fun p h => List.mem_cons_of_mem _ h).trans ((Kept.of_same (sl.trans st)))).trans (Kept.upd_in (List.mem_cons_self ..)))
  · obtain ⟨⟨y4, y5, y6, y7, rfl⟩, ⟨us, ts, gr, htn, hts⟩, S5, eSh5, eZ5, K05⟩ := hP
    rw [List.length_map, List.take_length] at htn
    refine ⟨.ref F1, rfl, F1, us, rfl, .inl ⟨.inl (.inl gr.at'), fun l nl => ?_⟩⟩
    have lts : ts.length = mm := by rw [← List.length_map (as := ts) (fun x => x.1), htn, lzs]
    have nFl : F1 ≠ l := ne_of_none gr.at' nl
    have sl := same_upd (o := .tup us) nl
    have fl : H l = none := by
      refine K05.fresh nl fun p hp => ?_
      simp only [List.mem_cons, List.not_mem_nil, or_false] at hp
      rcases hp with rfl | rfl
      · exact nFl
      · exact S5.ne nl
    refine q l ts _ (by omega) (by omega) ⟨by rw [htn]; exact ndzs, fun x hx => okzs _ (by rw [← htn]; exact List.mem_map.mpr ⟨x, hx, rfl⟩), hts⟩ fl (.tup (.inl (.inl (msk_at upd_same (S5.out nl)))) ?_) ((S5.same sl).mono (by rw [List.length_map, lzs]; omega)) ?_
    · exact dpAll_same ((msk_less sub_push).trans (msk_same (Kept.of_same sl))) gr.dp
    · exact (K05.new n1).trans (Kept.upd_new nl)
end
end TT

set_option Elab.async false
set_option linter.all false
set_option maxRecDepth 100000
namespace TT
open PySem PySem.Spec PyProof.Rows L2
/-! ### what is told of data -/
def tyN : PyData → String
  | .none => "NoneType"
  | .bool _ => "bool"
  | .int _ => "int"
  | .str _ => "str"
  | .list _ => "list"
  | .tuple _ => "tuple"
  | .dict _ => "dict"
theorem dp_ty {K : PySem.W.Frag} {H : Hp} {v : V} {d : PyData} (h : Dp K H v d) : TyX K H v (.type (tyN d)) := by
  cases h with
  | non => exact .base .non
  | bl b => exact .base (.bl b)
  | int i => exact .base (.int i)
  | str x => exact .base (.str x)
  | lst h _ =>
    rcases h with (h | ⟨o, h⟩) | ⟨o, _, _, h, c, _⟩
    · exact .base (.lst h)
    · exact .base (.frz h)
    · exact .kList h c
  | tup h _ =>
    rcases h with (h | ⟨o, h⟩) | ⟨o, _, _, h, c, _⟩
    · exact .base (.tup h)
    · exact .fTuple h
    · exact .kTuple h c
def isIB : PyData → Bool
  | .int _ | .bool _ => true
  | _ => false
def isBB : PyData → Bool
  | .bool _ => true
  | _ => false
def isSB : PyData → Bool
  | .str _ => true
  | _ => false
def isTB : PyData → Bool
  | .tuple _ => true
  | _ => false
def isLB : PyData → Bool
  | .list _ => true
  | _ => false
theorem kit_i {K : PySem.W.Frag} (d : PyData) : PySem.W.kitOne K (.type (tyN d)) (.type "int") = some (isIB d) := by
  cases d
  · exact kit_ty (show kitB "NoneType" "int" = some false by decide +kernel)
  · exact kit_ty (show kitB "bool" "int" = some true by decide +kernel)
  · exact kit_ty (show kitB "int" "int" = some true by decide +kernel)
  · exact kit_ty (show kitB "str" "int" = some false by decide +kernel)
  · exact kit_ty (show kitB "list" "int" = some false by decide +kernel)
  · exact kit_ty (show kitB "tuple" "int" = some false by decide +kernel)
  · exact kit_ty (show kitB "dict" "int" = some false by decide +kernel)
theorem kit_b {K : PySem.W.Frag} (d : PyData) : PySem.W.kitOne K (.type (tyN d)) (.type "bool") = some (isBB d) := by
  cases d
  · exact kit_ty (show kitB "NoneType" "bool" = some false by decide +kernel)
  · exact kit_ty (show kitB "bool" "bool" = some true by decide +kernel)
  · exact kit_ty (show kitB "int" "bool" = some false by decide +kernel)
  · exact kit_ty (show kitB "str" "bool" = some false by decide +kernel)
  · exact kit_ty (show kitB "list" "bool" = some false by decide +kernel)
  · exact kit_ty (show kitB "tuple" "bool" = some false by decide +kernel)
  · exact kit_ty (show kitB "dict" "bool" = some false by decide +kernel)
theorem kit_s {K : PySem.W.Frag} (d : PyData) : PySem.W.kitOne K (.type (tyN d)) (.type "str") = some (isSB d) := by
  cases d
  · exact kit_ty (show kitB "NoneType" "str" = some false by decide +kernel)
  · exact kit_ty (show kitB "bool" "str" = some false by decide +kernel)
  · exact kit_ty (show kitB "int" "str" = some false by decide +kernel)
  · exact kit_ty (show kitB "str" "str" = some true by decide +kernel)
  · exact kit_ty (show kitB "list" "str" = some false by decide +kernel)
  · exact kit_ty (show kitB "tuple" "str" = some false by decide +kernel)
  · exact kit_ty (show kitB "dict" "str" = some false by decide +kernel)
theorem kit_t {K : PySem.W.Frag} (d : PyData) : PySem.W.kitOne K (.type (tyN d)) (.type "tuple") = some (isTB d) := by
  cases d
  · exact kit_ty (show kitB "NoneType" "tuple" = some false by decide +kernel)
  · exact kit_ty (show kitB "bool" "tuple" = some false by decide +kernel)
  · exact kit_ty (show kitB "int" "tuple" = some false by decide +kernel)
  · exact kit_ty (show kitB "str" "tuple" = some false by decide +kernel)
  · exact kit_ty (show kitB "list" "tuple" = some false by decide +kernel)
  · exact kit_ty (show kitB "tuple" "tuple" = some true by decide +kernel)
  · exact kit_ty (show kitB "dict" "tuple" = some false by decide +kernel)
theorem kit_l {K : PySem.W.Frag} (d : PyData) : PySem.W.kitOne K (.type (tyN d)) (.type "list") = some (isLB d) := by
  cases d
  · exact kit_ty (show kitB "NoneType" "list" = some false by decide +kernel)
  · exact kit_ty (show kitB "bool" "list" = some false by decide +kernel)
  · exact kit_ty (show kitB "int" "list" = some false by decide +kernel)
  · exact kit_ty (show kitB "str" "list" = some false by decide +kernel)
  · exact kit_ty (show kitB "list" "list" = some true by decide +kernel)
  · exact kit_ty (show kitB "tuple" "list" = some false by decide +kernel)
  · exact kit_ty (show kitB "dict" "list" = some false by decide +kernel)
theorem kit_tl {K : PySem.W.Frag} (d : PyData) : PySem.W.kitAny K (.type (tyN d)) [.type "tuple", .type "list"] = some (isTB d || isLB d) :=
  kitAny_cons (b := isTB d) (kit_t d) (fun h => by
    rw [h]
    exact kitAny_cons (b := isLB d) (kit_l d) (fun h => by rw [h]; exact kitAny_nil) fun h => by rw [h]; rfl) fun h => by rw [h]; rfl
theorem kit_lt {K : PySem.W.Frag} (d : PyData) : PySem.W.kitAny K (.type (tyN d)) [.type "list", .type "tuple"] = some (isLB d || isTB d) :=
  kitAny_cons (b := isLB d) (kit_l d) (fun h => by
    rw [h]
    exact kitAny_cons (b := isTB d) (kit_t d) (fun h => by rw [h]; exact kitAny_nil) fun h => by rw [h]; rfl) fun h => by rw [h]; rfl
/-! sizes -/
mutual
def Fit : PyData → Prop
  | .str z => z.length ≤ 10000
  | .list ds | .tuple ds => ds.length ≤ 900 ∧ FitAll ds
  | _ => True
def FitAll : List PyData → Prop
  | [] => True
  | d :: ds => Fit d ∧ FitAll ds
end
theorem fit_mem : ∀ {ds : List PyData} {d : PyData}, FitAll ds → d ∈ ds → Fit d
  | d :: ds, e, h, m => by
    rcases List.mem_cons.mp m with rfl | m
    · exact h.1
    · exact fit_mem h.2 m
theorem fit_of : ∀ {ds : List PyData}, (∀ d ∈ ds, Fit d) → FitAll ds
  | [], _ => trivial
  | d :: ds, h => ⟨h d (List.mem_cons_self ..), fit_of fun e m => h e (List.mem_cons_of_mem _ m)⟩
theorem dpAll_at {K : PySem.W.Frag} {H : Hp} {ds : List PyData} {vs : List V} {i : Nat} {d : PyData} (a : DpAll K H vs ds) (h : ds[i]? = some d) : ∃ v, vs[i]? = some v ∧ Dp K H v d := by
  have l := dpAll_len a
  have hi : i < vs.length := by rw [l]; exact (List.getElem?_eq_some_iff.mp h).1
  obtain ⟨d', h1, h2⟩ := dpAll_get i a (List.getElem?_eq_getElem hi)
  rw [h] at h1
  cases h1
  exact ⟨_, List.getElem?_eq_getElem hi, h2⟩
/-- the promise of what looks at a thing and tells True or False: new objects alone are laid -/
def spB (R : PyData → Bool) (K : PySem.W.Frag) : Sp := fun vs H Q _ => ∃ (v : V) (d : PyData), vs = [v] ∧ Dp K H v d ∧ Fit d ∧ ∀ H', Same H H' → Q (.bl (R d)) H'
/-! ### the program's words, of data -/
def numB : PyData → Bool
  | .int _ => true
  | _ => false
def worthB : PyData → Bool
  | .none => true
  | .int i => decide (-1000000000 ≤ i) && decide (i ≤ 1000000000)
  | _ => false
def lowB (c : Nat) : Bool := decide (97 ≤ c) && decide (c ≤ 122)
def nameB : PyData → Bool
  | .str z => (decide (1 ≤ z.length) && decide (z.length ≤ 8)) && (cl z).all lowB
  | _ => false
def tupB (lo hi : Int) : PyData → Bool
  | .tuple ds => decide (lo ≤ (ds.length : Int)) && decide ((ds.length : Int) ≤ hi)
  | _ => false
def fstD : PyData → PyData
  | .tuple (a :: _) => a
  | _ => .none
def sndD : PyData → PyData
  | .tuple (_ :: b :: _) => b
  | _ => .none
def strOf : PyData → Str
  | .str z => z
  | _ => Str.empty
def isN : PyData → Bool
  | .none => true
  | _ => false
def colB (d : PyData) : Bool := tupB 2 2 d && (nameB (fstD d) && worthB (sndD d))
def namesOf (ds : List PyData) : List Str := ds.map fun d => strOf (fstD d)
def colsB : PyData → Bool
  | .tuple ds => (decide (1 ≤ ds.length) && decide (ds.length ≤ 5)) && (ds.all colB && (isN (sndD (ds.headD .none)) && decide (namesOf ds).Nodup))
  | _ => false
def tabB (d : PyData) : Bool := tupB 2 2 d && (nameB (fstD d) && colsB (sndD d))
def tabsB : PyData → Bool
  | .tuple ds => (decide (1 ≤ ds.length) && decide (ds.length ≤ 6)) && (ds.all tabB && decide (namesOf ds).Nodup)
  | _ => false
end TT

set_option Elab.async false
set_option linter.all false
set_option maxRecDepth 100000
namespace TT
open PySem PySem.Spec PyProof.Rows L2
/-! ### comprehensions that ask item by item -/
def PvM (H1 : Hp) (D : Addr) (f : Nat → V) (i : Nat) (H : Hp) : Prop := H D = some (.lst ((List.range i).map f)) ∧ Kept [D] H1 H
theorem pvm_start (H1 : Hp) (D : Addr) (f : Nat → V) : PvM H1 D f 0 (upd H1 D (.lst [])) := ⟨upd_same, Kept.upd_in (List.mem_cons_self ..)⟩
theorem pvm_step {H1 H H4 : Hp} {D : Addr} {f : Nat → V} {i : Nat} {y : V} (h : PvM H1 D f i H) (s : Same H H4) (e : y = f i) (l : i ≤ 1000) :
    ∃ acc, H4 D = some (.lst acc) ∧ acc.length < sizeLine ∧ PvM H1 D f (i + 1) (upd H4 D (.lst (acc ++ [y]))) := by
  refine ⟨_, s _ _ h.1, ?_, ?_, (h.2.trans (Kept.of_same s)).trans (Kept.upd_in (List.mem_cons_self ..))⟩
  · rw [List.length_map, List.length_range]; exact small1000 l
  · rw [upd_same, List.range_succ, List.map_append, e]; rfl
theorem pvm_same {H1 H : Hp} {D : Addr} {f : Nat → V} {i : Nat} (h : PvM H1 D f i H) (n : H1 D = none) : Same H1 H := fun b o e => h.2 b o e fun z => by
  rw [List.mem_singleton.mp z, n] at e
  cases e
theorem range_all {α : Type} (R : α → Bool) (d : α) : ∀ (l : List α), ((List.range l.length).map fun i => R (l.getD i d)).all id = l.all R := by
  intro l
  have e : (List.range l.length).map (fun i => R (l.getD i d)) = l.map R := by
    refine List.ext_getElem (by simp) fun i h1 h2 => ?_
    simp only [List.length_map, List.length_range] at h1
    simp [List.getD_eq_getElem?_getD, List.getElem?_eq_getElem h1]
  rw [e, List.all_map]
  rfl
theorem range_map {α β : Type} (f : α → β) (d : α) (l : List α) : (List.range l.length).map (fun i => f (l.getD i d)) = l.map f := by
  refine List.ext_getElem (by simp) fun i h1 h2 => ?_
  simp only [List.length_map, List.length_range] at h1
  simp [List.getD_eq_getElem?_getD, List.getElem?_eq_getElem h1]
theorem lt_one (c d : Nat) : decide (([c] : List Nat) < [d]) = decide (c < d) := by
  refine decide_eq_decide.mpr ?_
  rw [List.cons_lt_cons_iff]
  constructor
  · rintro (h | ⟨_, h⟩)
    · exact h
    · exact absurd h (List.not_lt_nil [])
  · intro h; exact .inl h
theorem two_of {α : Type} : ∀ {l : List α}, l.length = 2 → ∃ a b, l = [a, b]
  | [a, b], _ => ⟨a, b, rfl⟩
  | [], h => by cases h
  | [_], h => by cases h
  | _ :: _ :: _ :: _, h => by simp at h
theorem tup2 {K : PySem.W.Frag} {H : Hp} {v : V} {d : PyData} (hd : Dp K H v d) (h : tupB 2 2 d = true) : ∃ p x y a b, v = .ref p ∧ d = .tuple [a, b] ∧ SqT K H p [x, y] ∧ Dp K H x a ∧ Dp K H y b := by
  cases hd with
  | non => cases h
  | bl b => cases h
  | int i => cases h
  | str z => cases h
  | lst _ _ => cases h
  | tup hs a =>
    rename_i p xs ds
    have h' : (decide ((2 : Int) ≤ (ds.length : Int)) && decide ((ds.length : Int) ≤ 2)) = true := h
    rw [Bool.and_eq_true] at h'
    have g1 := of_decide_eq_true h'.1
    have g2 := of_decide_eq_true h'.2
    have hl : ds.length = 2 := by omega
    obtain ⟨a1, b1, rfl⟩ := two_of hl
    cases a with
    | cons h1 r =>
      cases r with
      | cons h2 r =>
        cases r
        exact ⟨p, _, _, a1, b1, rfl, rfl, hs, h1, h2⟩
theorem isT_of {K : PySem.W.Frag} {H : Hp} {v : V} {d : PyData} (hd : Dp K H v d) (h : isTB d = true) : ∃ p xs ds, v = .ref p ∧ d = .tuple ds ∧ SqT K H p xs ∧ DpAll K H xs ds := by
  cases hd with
  | non => cases h
  | bl b => cases h
  | int i => cases h
  | str z => cases h
  | lst _ _ => cases h
  | tup hs a => exact ⟨_, _, _, rfl, rfl, hs, a⟩
theorem tupB_isT {lo hi : Int} {d : PyData} (h : tupB lo hi d = true) : isTB d = true := by
  cases d <;> first | rfl | cases h
def strName (d : PyData) : Bool := tupB 2 2 d && isSB (fstD d)
theorem getD_of {α : Type} {l : List α} {i : Nat} {a d : α} (h : l[i]? = some a) : l.getD i d = a := by
  rw [List.getD_eq_getElem?_getD, h]; rfl
theorem all_imp {R S : PyData → Bool} {ds : List PyData} (h : ds.all R = true) (i : ∀ d, R d = true → S d = true) : ds.all S = true :=
  List.all_eq_true.mpr fun d hd => i d (List.all_eq_true.mp h d hd)
theorem takeWhile_full {α : Type} (p : α → Bool) : ∀ l : List α, l.all p = true → l.takeWhile p = l
  | [], _ => rfl
  | a :: r, h => by
    rw [List.all_cons, Bool.and_eq_true] at h
    rw [List.takeWhile_cons, if_pos h.1, takeWhile_full p r h.2]
theorem takeWhile_short {α : Type} (p : α → Bool) : ∀ l : List α, (l.takeWhile p).length = l.length → l.all p = true
  | [], _ => rfl
  | a :: r, h => by
    rw [List.takeWhile_cons] at h
    by_cases ha : p a = true
    · rw [if_pos ha, List.length_cons, List.length_cons] at h
      rw [List.all_cons, ha, takeWhile_short p r (by omega)]; rfl
    · rw [if_neg ha] at h
      simp at h
theorem takeWhile_le {α : Type} (p : α → Bool) : ∀ l : List α, (l.takeWhile p).length ≤ l.length
  | [] => Nat.le_refl 0
  | a :: r => by
    rw [List.takeWhile_cons]
    split
    · rw [List.length_cons, List.length_cons]
      exact Nat.succ_le_succ (takeWhile_le p r)
    · exact Nat.zero_le _
theorem takeWhile_next {α : Type} (p : α → Bool) : ∀ (l : List α), (l.takeWhile p).length < l.length → ∃ a r, l.drop (l.takeWhile p).length = a :: r ∧ p a = false
  | [], h => by simp at h
  | a :: r, h => by
    rw [List.takeWhile_cons] at h ⊢
    by_cases ha : p a = true
    · rw [if_pos ha, List.length_cons, List.length_cons] at h
      rw [if_pos ha, List.length_cons, List.drop_succ_cons]
      exact takeWhile_next p r (by omega)
    · rw [if_neg ha]
      exact ⟨a, r, rfl, by simpa using ha⟩
/-- nothing is left of a text just where all its signs are among those stripped -/
theorem strip_empty (z y : Str) : Txt.stripChars z y = Str.ofString "" ↔ (cl z).all y.cps.contains = true := by
  have e0 : cl (Str.ofString "") = [] := rfl
  unfold Txt.stripChars
  rw [stripBy_eq]
  generalize y.cps.contains = p
  have cs : ∀ i j, cl (Builtin.Str.strSub z i j) = ((cl z).drop i).take (j - i) := fun i j => StrLaws.strSub_toList ..
  have lo : stripLo p true z = ((cl z).takeWhile p).length := rfl
  constructor
  · intro h
    have h1 := congrArg cl h
    rw [cs, e0, lo] at h1
    have h2 := congrArg List.length h1
    rw [List.length_take, List.length_drop, List.length_nil] at h2
    by_cases hlt : ((cl z).takeWhile p).length < (cl z).length
    · exfalso
      obtain ⟨a, r, hd, hp⟩ := takeWhile_next p _ hlt
      have hi : stripHi p true z ((cl z).takeWhile p).length = z.length - (((cl z).drop ((cl z).takeWhile p).length).reverse.takeWhile p).length := rfl
      rw [hi] at h2
      have hle : (((cl z).drop ((cl z).takeWhile p).length).reverse.takeWhile p).length < ((cl z).drop ((cl z).takeWhile p).length).length := by
        have g := takeWhile_le p ((cl z).drop ((cl z).takeWhile p).length).reverse
        rw [List.length_reverse] at g
        refine Nat.lt_of_le_of_ne g fun e => ?_
        have g2 := takeWhile_short p ((cl z).drop ((cl z).takeWhile p).length).reverse (by rw [List.length_reverse]; exact e)
        rw [List.all_reverse, hd, List.all_cons, hp] at g2
        cases g2
      rw [List.length_drop] at hle
      have el : z.length = (cl z).length := rfl
      omega
    · exact takeWhile_short p _ (by have := takeWhile_le p (cl z); omega)
  · intro h
    refine cl_inj ?_
    rw [cs, e0, lo, takeWhile_full p _ h, List.drop_length, List.take_nil]
theorem abc_low (c : Nat) : abc.cps.contains c = lowB c := by
  rw [Array.contains_eq_mem]
  unfold lowB
  have h : (c ∈ abc.cps) ↔ (97 ≤ c ∧ c ≤ 122) := by
    rw [← Array.mem_toList_iff]
    show c ∈ cl abc ↔ _
    rw [abc_cl, List.mem_map]
    constructor
    · rintro ⟨a, ha, rfl⟩
      have := List.mem_range.mp ha
      omega
    · intro ⟨h1, h2⟩
      exact ⟨c - 97, List.mem_range.mpr (by omega), by omega⟩
  by_cases h1 : c ∈ abc.cps
  · have h2 := h.mp h1
    rw [decide_eq_true h1, decide_eq_true h2.1, decide_eq_true h2.2]; rfl
  · rw [decide_eq_false h1]
    by_cases h3 : 97 ≤ c
    · rw [decide_eq_true h3, decide_eq_false (fun h4 => h1 (h.mpr ⟨h3, h4⟩))]; rfl
    · rw [decide_eq_false h3]; rfl
theorem strip_name (z : Str) : decide (Txt.stripChars z abc = Str.ofString "") = (cl z).all lowB := by
  have e : abc.cps.contains = lowB := funext abc_low
  have h := strip_empty z abc
  rw [e] at h
  cases g : (cl z).all lowB with
  | true => exact decide_eq_true (h.mpr g)
  | false => exact decide_eq_false fun q => by rw [h.mp q] at g; cases g
theorem nameB_ok {z : Str} (h : nameB (.str z) = true) : NameOk z := by
  have h' : ((decide (1 ≤ z.length) && decide (z.length ≤ 8)) && (cl z).all lowB) = true := h
  simp only [Bool.and_eq_true, decide_eq_true_eq, List.all_eq_true] at h'
  refine ⟨h'.1.1, h'.1.2, fun c hc => ?_⟩
  have := h'.2 c hc
  unfold lowB at this
  simp only [Bool.and_eq_true, decide_eq_true_eq] at this
  exact this
theorem dp_strs {K : PySem.W.Frag} {H : Hp} : ∀ zs : List Str, DpAll K H (zs.map V.str) (zs.map PyData.str)
  | [] => .nil
  | z :: zs => .cons (.str z) (dp_strs zs)
theorem lay_strs : ∀ zs : List Str, (∀ z ∈ zs, NameOk z) → PyData.canLayAll0 (zs.map PyData.str) = true ∧ PyData.depthAll (zs.map PyData.str) = 0
  | [], _ => ⟨rfl, rfl⟩
  | z :: zs, h => by
    obtain ⟨h1, h2⟩ := lay_strs zs fun y hy => h y (List.mem_cons_of_mem _ hy)
    constructor
    · show (PyData.strOk z && PyData.canLayAll0 (zs.map PyData.str)) = true
      rw [strOk_name (h z (List.mem_cons_self ..)), h1]; rfl
    · show max 0 (PyData.depthAll (zs.map PyData.str)) = 0
      rw [h2]; rfl
theorem shaped_strs {zs : List Str} (h : ∀ z ∈ zs, NameOk z) : SeqAt.shaped (.list (zs.map PyData.str)) = true := by
  obtain ⟨h1, h2⟩ := lay_strs zs h
  show (PyData.canLayAll0 (zs.map PyData.str) && decide (PyData.depthAll (zs.map PyData.str) + 1 ≤ 64)) = true
  rw [h1, h2]; rfl
theorem name_at {K : PySem.W.Frag} {H : Hp} {x : V} {a : PyData} (h : Dp K H x a) (hn : nameB a = true) : ∃ z, a = .str z ∧ x = .str z ∧ NameOk z := by
  cases h with
  | str z => exact ⟨z, rfl, rfl, nameB_ok hn⟩
  | non => cases hn
  | bl b => cases hn
  | int i => cases hn
  | lst _ _ => cases hn
  | tup _ _ => cases hn
/-- what may be shown whole -/
structure Shows (d : PyData) : Prop where
  sh : d.showable = true
  nd : d.hasDict = false
  dp : d.depth ≤ 60
  sz : d.shown.length ≤ sizeLine
end TT

set_option Elab.async false
set_option linter.all false
set_option maxRecDepth 100000
namespace TT
open PySem PySem.Spec PyProof.Rows L2
/-! ### sizes of data: bounds of its ints, of its lists' lengths, of all its signs -/
mutual
def Nice (B L : Nat) : PyData → Prop
  | .none | .bool _ => True
  | .int i => i.natAbs ≤ B
  | .str z => ∀ c ∈ cl z, c < 128
  | .list ds | .tuple ds => ds.length ≤ L ∧ NiceAll B L ds
  | .dict _ => False
def NiceAll (B L : Nat) : List PyData → Prop
  | [] => True
  | d :: ds => Nice B L d ∧ NiceAll B L ds
end
mutual
def wt : PyData → Nat
  | .none => 4
  | .bool _ => 5
  | .int _ => 25
  | .str z => 10 * z.length + 12
  | .list ds | .tuple ds => 6 + wtAll ds
  | .dict _ => 0
def wtAll : List PyData → Nat
  | [] => 0
  | d :: ds => wt d + 3 + wtAll ds
end
theorem niceAll_iff {B L : Nat} : ∀ {ds : List PyData}, NiceAll B L ds ↔ ∀ d ∈ ds, Nice B L d
  | [] => ⟨fun _ _ h => absurd h List.not_mem_nil, fun _ => trivial⟩
  | d :: ds => by
    constructor
    · intro h e he
      rcases List.mem_cons.mp he with rfl | he
      · exact h.1
      · exact niceAll_iff.mp h.2 e he
    · intro h
      exact ⟨h d (List.mem_cons_self ..), niceAll_iff.mpr fun e he => h e (List.mem_cons_of_mem _ he)⟩
mutual
theorem Nice.mono {B B' L L' : Nat} (hB : B ≤ B') (hL : L ≤ L') : ∀ {d : PyData}, Nice B L d → Nice B' L' d
  | .none, _ => trivial
  | .bool _, _ => trivial
  | .int i, h => Nat.le_trans (show i.natAbs ≤ B from h) hB
  | .str _, h => h
  | .list ds, h => ⟨Nat.le_trans h.1 hL, NiceAll.mono hB hL h.2⟩
  | .tuple ds, h => ⟨Nat.le_trans h.1 hL, NiceAll.mono hB hL h.2⟩
  | .dict _, h => h
theorem NiceAll.mono {B B' L L' : Nat} (hB : B ≤ B') (hL : L ≤ L') : ∀ {ds : List PyData}, NiceAll B L ds → NiceAll B' L' ds
  | [], _ => trivial
  | d :: ds, h => ⟨Nice.mono hB hL h.1, NiceAll.mono hB hL h.2⟩
end
theorem wtAll_app : ∀ (ds es : List PyData), wtAll (ds ++ es) = wtAll ds + wtAll es
  | [], es => by simp [wtAll]
  | d :: ds, es => by
    show wt d + 3 + wtAll (ds ++ es) = wt d + 3 + wtAll ds + wtAll es
    rw [wtAll_app ds es]; omega
theorem wtAll_len : ∀ ds : List PyData, ds.length ≤ wtAll ds
  | [] => Nat.zero_le _
  | d :: ds => by
    have := wtAll_len ds
    show ds.length + 1 ≤ wt d + 3 + wtAll ds
    omega
theorem wt_mem : ∀ {ds : List PyData} {d : PyData}, d ∈ ds → wt d + 3 ≤ wtAll ds
  | e :: ds, d, h => by
    show wt d + 3 ≤ wt e + 3 + wtAll ds
    rcases List.mem_cons.mp h with rfl | h
    · omega
    · have := wt_mem h; omega
theorem depth_mem : ∀ {ds : List PyData} {d : PyData}, d ∈ ds → d.depth ≤ PyData.depthAll ds
  | e :: ds, d, h => by
    show d.depth ≤ max e.depth (PyData.depthAll ds)
    rcases List.mem_cons.mp h with rfl | h
    · exact Nat.le_max_left _ _
    · exact Nat.le_trans (depth_mem h) (Nat.le_max_right _ _)
theorem depthAll_le {n : Nat} : ∀ {ds : List PyData}, (∀ d ∈ ds, d.depth ≤ n) → PyData.depthAll ds ≤ n
  | [], _ => Nat.zero_le _
  | d :: ds, h => Nat.max_le.mpr ⟨h d (List.mem_cons_self ..), depthAll_le fun e he => h e (List.mem_cons_of_mem _ he)⟩
mutual
theorem fit_nice {B L : Nat} (hL : L ≤ 900) : ∀ {d : PyData}, Nice B L d → wt d ≤ 100000 → Fit d
  | .none, _, _ => trivial
  | .bool _, _, _ => trivial
  | .int _, _, _ => trivial
  | .str z, _, h => by
    show z.length ≤ 10000
    have h' : 10 * z.length + 12 ≤ 100000 := h
    omega
  | .list ds, h, hw => ⟨Nat.le_trans h.1 hL, fitAll_nice hL h.2 (by have : 6 + wtAll ds ≤ 100000 := hw; omega)⟩
  | .tuple ds, h, hw => ⟨Nat.le_trans h.1 hL, fitAll_nice hL h.2 (by have : 6 + wtAll ds ≤ 100000 := hw; omega)⟩
  | .dict _, h, _ => h.elim
theorem fitAll_nice {B L : Nat} (hL : L ≤ 900) : ∀ {ds : List PyData}, NiceAll B L ds → wtAll ds ≤ 100000 → FitAll ds
  | [], _, _ => trivial
  | d :: ds, h, hw => by
    have hw' : wt d + 3 + wtAll ds ≤ 100000 := hw
    exact ⟨fit_nice hL h.1 (by omega), fitAll_nice hL h.2 (by omega)⟩
end
theorem int_len {i : Int} (h : i.natAbs ≤ 10 ^ 20) : (Str.ofString (toString i)).length ≤ 22 := by
  by_cases h0 : 0 ≤ i
  · exact Nat.le_trans (toString_length_le (v := i) (k := 21) h0 (by decide) (by omega)) (by decide)
  · have g := len_text_negI (n := i) (by omega)
    have g2 := toString_length_le (v := 0 - i) (k := 21) (by omega) (by decide) (by omega)
    omega
theorem list_len (ts : List Str) : (listText ts).length ≤ piled ts + 4 := by
  unfold listText
  rw [str_len_app]
  cases ts with
  | nil => decide +kernel
  | cons t r =>
    have e : (textFrom 0 "[" (t :: r)).length ≤ piled (t :: r) + 3 := by
      show (textFrom 1 (_ ++ t) r).length ≤ _
      rw [textFrom_length_pos _ _ _ (by decide), str_len_app, piled_cons]
      have : (Str.ofString "[" ++ Str.ofString (if 0 > 0 then ", " else "")).length = 1 := by decide +kernel
      omega
    have : (Str.ofString "]").length = 1 := by decide +kernel
    omega
theorem tup_len (ts : List Str) : (tupleText ts).length ≤ piled ts + 4 := by
  have e1 : (Str.ofString "(").length = 1 := by decide +kernel
  have e3 : (Str.ofString (if ts.length == 1 then ",)" else ")" : String)).length ≤ 2 := by split <;> decide +kernel
  unfold tupleText
  rw [str_len_app, str_len_app]
  by_cases h : ts = []
  · subst h
    decide +kernel
  · have := join_length_add ts h
    omega
mutual
theorem shown_len {B L : Nat} (hB : B ≤ 10 ^ 20) : ∀ {d : PyData}, Nice B L d → d.shown.length ≤ wt d
  | .none, _ => by decide +kernel
  | .bool b, _ => by cases b <;> decide +kernel
  | .int i, h => Nat.le_trans (int_len (Nat.le_trans (show i.natAbs ≤ B from h) hB)) (by show 22 ≤ 25; decide)
  | .str z, h => by
    show (reprText z).length ≤ 10 * z.length + 12
    have := StrLaws.reprText_len z fun c hc => Nat.lt_of_lt_of_le (h c hc) (by decide)
    omega
  | .list ds, h => by
    show (listText (PyData.shownAll ds)).length ≤ 6 + wtAll ds
    have g1 := list_len (PyData.shownAll ds)
    have g2 := shownAll_len hB h.2
    omega
  | .tuple ds, h => by
    show (tupleText (PyData.shownAll ds)).length ≤ 6 + wtAll ds
    have g1 := tup_len (PyData.shownAll ds)
    have g2 := shownAll_len hB h.2
    omega
  | .dict _, h => h.elim
theorem shownAll_len {B L : Nat} (hB : B ≤ 10 ^ 20) : ∀ {ds : List PyData}, NiceAll B L ds → piled (PyData.shownAll ds) ≤ wtAll ds
  | [], _ => Nat.le_refl _
  | d :: ds, h => by
    show piled (d.shown :: PyData.shownAll ds) ≤ wt d + 3 + wtAll ds
    rw [piled_cons]
    have g1 := shown_len hB h.1
    have g2 := shownAll_len hB h.2
    omega
end
mutual
theorem showable_nice {B L : Nat} (hB : B ≤ 10 ^ 20) : ∀ {d : PyData}, Nice B L d → d.showable = true ∧ d.hasDict = false
  | .none, _ => ⟨rfl, rfl⟩
  | .bool _, _ => ⟨rfl, rfl⟩
  | .int i, h => ⟨decide_eq_true (Nat.lt_of_lt_of_le (PySem.Flt.log2_lt_of (k := 70) (by decide) (Nat.lt_of_le_of_lt (Nat.le_trans (show i.natAbs ≤ B from h) hB) (by decide))) (by decide)), rfl⟩
  | .str _, _ => ⟨rfl, rfl⟩
  | .list ds, h => showableAll_nice hB h.2
  | .tuple ds, h => showableAll_nice hB h.2
  | .dict _, h => h.elim
theorem showableAll_nice {B L : Nat} (hB : B ≤ 10 ^ 20) : ∀ {ds : List PyData}, NiceAll B L ds → PyData.showableAll ds = true ∧ PyData.hasDictAll ds = false
  | [], _ => ⟨rfl, rfl⟩
  | d :: ds, h => by
    obtain ⟨a1, a2⟩ := showable_nice hB h.1
    obtain ⟨b1, b2⟩ := showableAll_nice hB h.2
    constructor
    · show (d.showable && PyData.showableAll ds) = true
      rw [a1, b1]; rfl
    · show (d.hasDict || PyData.hasDictAll ds) = false
      rw [a2, b2]; rfl
end
theorem shows_nice {B L : Nat} {d : PyData} (h : Nice B L d) (hB : B ≤ 10 ^ 20) (hd : d.depth ≤ 60) (hw : wt d ≤ 100000) : Shows d :=
  ⟨(showable_nice hB h).1, (showable_nice hB h).2, hd, Nat.le_trans (shown_len hB h) (Nat.le_trans hw (by decide))⟩
/-! ### numbers that may be truths -/
inductive NumV : V → Int → Prop
  | int (i : Int) : NumV (.int i) i
  | bl (b : Bool) : NumV (.bl b) (if b = true then 1 else 0)
section
variable {X : Cx}
theorem op_addN : OpR X (binaryOp .Add) (fun x y H Q => ∃ i j, NumV x i ∧ y = .int j ∧ Q (.int (i + j)) H) := by
  intro pins s σ H x y v u Q I rx ry h
  obtain ⟨i, j, n, rfl, q⟩ := h
  obtain ⟨t, rfl⟩ := ry
  cases n with
  | int i => exact op_add pins s σ H (.int i) (.int j) v _ Q I rx ⟨t, rfl⟩ ⟨i, j, rfl, rfl, q⟩
  | bl b => cases rx; exact IntBool.add_bool_int ⟨.int _, H, I.tok _, ⟨_, rfl⟩, q⟩
theorem op_subN : OpR X (binaryOp .Sub) (fun x y H Q => ∃ i j, NumV x i ∧ y = .int j ∧ Q (.int (i - j)) H) := by
  intro pins s σ H x y v u Q I rx ry h
  obtain ⟨i, j, n, rfl, q⟩ := h
  obtain ⟨t, rfl⟩ := ry
  cases n with
  | int i => exact op_sub pins s σ H (.int i) (.int j) v _ Q I rx ⟨t, rfl⟩ ⟨i, j, rfl, rfl, q⟩
  | bl b => cases rx; exact IntBool.sub_bool_int ⟨.int _, H, I.tok _, ⟨_, rfl⟩, q⟩
theorem op_subIN : OpR X (binaryOp .Sub) (fun x y H Q => ∃ i j, x = .int i ∧ NumV y j ∧ Q (.int (i - j)) H) := by
  intro pins s σ H x y v u Q I rx ry h
  obtain ⟨i, j, rfl, n, q⟩ := h
  obtain ⟨t, rfl⟩ := rx
  cases n with
  | int j => exact op_sub pins s σ H (.int i) (.int j) _ u Q I ⟨t, rfl⟩ ry ⟨i, j, rfl, rfl, q⟩
  | bl b => cases ry; exact IntBool.sub_int_bool ⟨.int _, H, I.tok _, ⟨_, rfl⟩, q⟩
/-- str of such -/
def numText : V → Str
  | .int i => Str.ofString (toString i)
  | .bl b => if b = true then Str.ofString "True" else Str.ofString "False"
  | _ => Str.empty
theorem call_str_num : CallR X (.type "str") (fun xs H Q => ∃ x i, xs = [x] ∧ NumV x i ∧ i.natAbs.log2 < 1920 ∧ Q (.str (numText x)) H) := by
  intro pins s σ H xs us Q I r h
  obtain ⟨x, i, rfl, n, hi, q⟩ := h
  cases n with
  | int i => exact call_str_int pins s σ H _ us Q I r ⟨i, rfl, hi, q⟩
  | bl b =>
    obtain ⟨u, rfl, rx⟩ := vals1 r
    cases rx
    exact P.str_of_bool ⟨.str _, H, I.tok _, ⟨_, rfl⟩, q⟩
end
end TT

set_option Elab.async false
set_option linter.all false
set_option maxRecDepth 100000
namespace TT
open PySem PySem.Spec PyProof.Rows L2
/-! ### what may be put in another's place -/
structure Good (B W : Nat) (e : PyData) : Prop where
  nice : Nice B 1 e
  wt : wt e ≤ W
  dep : e.depth ≤ 1
/-- a mask over the state of the draws and more, all of it there -/
structure Mask (M : List Addr) (H : Hp) (s c : Addr) : Prop where
  sc : ∀ p ∈ [s, c], p ∈ M
  tr : ∀ p ∈ M, H p ≠ none
theorem Mask.new {M : List Addr} {H : Hp} {s c p : Addr} (h : Mask M H s c) (n : H p = none) : p ∉ M := fun z => h.tr p z n
theorem Mask.up {M : List Addr} {H : Hp} {s c p : Addr} {o : HO} (h : Mask M H s c) : Mask M (upd H p o) s c := ⟨h.sc, fun b hb => by
  unfold upd
  split
  · exact fun z => nomatch z
  · exact h.tr b hb⟩
theorem Mask.kept {M : List Addr} {H H' : Hp} {s c : Addr} {T : Nat} (h : Mask M H s c) (k : Kept [s, c] H H') (S : StAt H' s c T) : Mask M H' s c := ⟨h.sc, fun b hb z => by
  by_cases hm : b ∈ [s, c]
  · simp only [List.mem_cons, List.not_mem_nil, or_false] at hm
    rcases hm with rfl | rfl
    · obtain ⟨t, _, e⟩ := S.ex
      rw [z] at e; cases e
    · obtain ⟨ns, _, _, e⟩ := S.cs
      rw [z] at e; cases e
  · cases e : H b with
    | none => exact h.tr b hb e
    | some o =>
      have := k b o e hm
      rw [z] at this; cases this⟩
theorem Mask.same {M : List Addr} {H H' : Hp} {s c : Addr} (h : Mask M H s c) (k : Kept [s, c] H H') : Same (msk M H) (msk M H') := msk_same (k.mono h.sc)
/-- a list of such, at an address of its own -/
structure Bag (K : PySem.W.Frag) (M : List Addr) (s c : Addr) (T B W : Nat) (H0 H : Hp) (L : Addr) (vs : List V) (ds : List PyData) : Prop where
  at' : H L = some (.lst vs)
  dp : DpAll K (msk M H) vs ds
  good : ∀ e ∈ ds, Good B W e
  kept : Kept [s, c] H0 H
  st : StAt H s c T
  out : L ∉ M
  mask : Mask M H s c
section
variable {K : PySem.W.Frag} {M : List Addr} {s c L L' p : Addr} {T B W : Nat} {H0 H : Hp} {vs us : List V} {ds es : List PyData} {o : HO}
theorem Bag.up (b : Bag K M s c T B W H0 H L vs ds) (n : H p = none) : Bag K M s c T B W H0 (upd H p o) L vs ds :=
  ⟨by rw [upd_ne (ne_of_none b.at' n)]; exact b.at', dpAll_same (msk_same (Kept.upd_new n)) b.dp, b.good, b.kept.trans (Kept.upd_new n), b.st.upd_new n, b.out, b.mask.up⟩
theorem Bag.mk' (dp : DpAll K (msk M H) vs ds) (good : ∀ e ∈ ds, Good B W e) (kept : Kept [s, c] H0 H) (S : StAt H s c T) (hM : Mask M H s c) (n : H L = none) : Bag K M s c T B W H0 (upd H L (.lst vs)) L vs ds :=
  ⟨upd_same, dpAll_same (msk_same (Kept.upd_new n)) dp, good, kept.trans (Kept.upd_new n), S.upd_new n, hM.new n, hM.up⟩
theorem Bag.cat (a : Bag K M s c T B W H0 H L vs ds) (b : Bag K M s c T B W H0 H L' us es) (n : H p = none) : Bag K M s c T B W H0 (upd H p (.lst (vs ++ us))) p (vs ++ us) (ds ++ es) :=
  Bag.mk' (dpAll_app a.dp b.dp) (fun e he => (List.mem_append.mp he).elim (a.good e) (b.good e)) a.kept a.st a.mask n
theorem dp_tup_new {v : List V} {d : List PyData} (hM : Mask M H s c) (n : H p = none) (h : DpAll K (msk M H) v d) : Dp K (msk M (upd H p (.tup v))) (.ref p) (.tuple d) :=
  .tup (.inl (.inl (msk_at upd_same (hM.new n)))) (dpAll_same (msk_same (Kept.upd_new n)) h)
theorem dp_lst_new {v : List V} {d : List PyData} (hM : Mask M H s c) (n : H p = none) (h : DpAll K (msk M H) v d) : Dp K (msk M (upd H p (.lst v))) (.ref p) (.list d) :=
  .lst (.inl (.inl (msk_at upd_same (hM.new n)))) (dpAll_same (msk_same (Kept.upd_new n)) h)
theorem dp_up {v : V} {d : PyData} (n : H p = none) (h : Dp K (msk M H) v d) : Dp K (msk M (upd H p o)) v d := dp_same (msk_same (Kept.upd_new n)) h
end
def ascB (z : Str) : Bool := (cl z).all (fun c => decide (c < 128)) && decide (z.length ≤ 10)
theorem asc_of {z : Str} (h : ascB z = true) {B W : Nat} (hW : 112 ≤ W) : Good B W (.str z) := by
  unfold ascB at h
  simp only [Bool.and_eq_true, List.all_eq_true, decide_eq_true_eq] at h
  exact ⟨h.1, by show 10 * z.length + 12 ≤ W; omega, Nat.zero_le _⟩
theorem int_of {i : Int} {B W : Nat} (h : i.natAbs ≤ B) (hW : 112 ≤ W) : Good B W (.int i) := ⟨h, by show 25 ≤ W; omega, Nat.zero_le _⟩
theorem good_one {B W : Nat} {e : PyData} (h : Nice B 1 e) (hd : e.depth = 0) (hw : wt e + 9 ≤ W) : Good B W (.tuple [e]) ∧ Good B W (.list [e]) := by
  have g : 6 + (wt e + 3 + 0) ≤ W := by omega
  have d1 : max e.depth 0 + 1 ≤ 1 := by rw [hd]; decide
  exact ⟨⟨⟨Nat.le_refl 1, h, trivial⟩, g, d1⟩, ⟨⟨Nat.le_refl 1, h, trivial⟩, g, d1⟩⟩
theorem name_asc {z : Str} (h : NameOk z) {B W : Nat} (hW : 112 ≤ W) : Good B W (.str z) := by
  have l : z.length ≤ 8 := h.top
  exact ⟨fun c hc => by have := h.low c hc; unfold low at this; omega, by show 10 * z.length + 12 ≤ W; omega, Nat.zero_le _⟩
/-- the first fifteen -/
def first15V (t1 l1 t2 : Addr) : List V := [.non, .bl true, .bl false, .str "", .str "a1", .str "Ab", .str "abcdefghi", .str "a b", .ref t1, .ref l1, .ref t2, .int 0, .int (-1), .int (10 ^ (9 : Int).toNat), .str "none"]
def first15D : List PyData := [.none, .bool true, .bool false, .str "", .str "a1", .str "Ab", .str "abcdefghi", .str "a b", .tuple [], .list [], .tuple [.int 0], .int 0, .int (-1), .int (10 ^ (9 : Int).toNat), .str "none"]
theorem first15_good {B W : Nat} (hB : 2000000000 ≤ B) (hW : 200 ≤ W) : ∀ e ∈ first15D, Good B W e := by
  have e9 : (10 : Int) ^ (9 : Int).toNat = 1000000000 := by decide
  intro e he
  unfold first15D at he
  simp only [List.mem_cons, List.not_mem_nil, or_false] at he
  rcases he with rfl | rfl | rfl | rfl | rfl | rfl | rfl | rfl | rfl | rfl | rfl | rfl | rfl | rfl | rfl
  · exact ⟨trivial, by show 4 ≤ W; omega, Nat.zero_le _⟩
  · exact ⟨trivial, by show 5 ≤ W; omega, Nat.zero_le _⟩
  · exact ⟨trivial, by show 5 ≤ W; omega, Nat.zero_le _⟩
  · exact asc_of (by decide +kernel) (by omega)
  · exact asc_of (by decide +kernel) (by omega)
  · exact asc_of (by decide +kernel) (by omega)
  · exact asc_of (by decide +kernel) (by omega)
  · exact asc_of (by decide +kernel) (by omega)
  · exact ⟨⟨Nat.zero_le _, trivial⟩, by show 6 ≤ W; omega, Nat.le_refl _⟩
  · exact ⟨⟨Nat.zero_le _, trivial⟩, by show 6 ≤ W; omega, Nat.le_refl _⟩
  · exact (good_one (e := .int 0) (Nat.zero_le _) rfl (by show 34 ≤ W; omega)).1
  · exact int_of (Nat.zero_le _) (by omega)
  · exact int_of (by show 1 ≤ B; omega) (by omega)
  · exact int_of (by rw [e9]; show 1000000000 ≤ B; omega) (by omega)
  · exact asc_of (by decide +kernel) (by omega)
theorem upper_asc {z : Str} (h : ∀ c ∈ cl z, c < 128) : (∀ c ∈ cl (Txt.upper z), c < 128) ∧ (Txt.upper z).length = z.length := by
  rw [upper_ascii h]
  constructor
  · intro c hc
    have hc' : c ∈ (cl z).map up1 := by
      have e : cl (⟨z.cps.map up1⟩ : Str) = (cl z).map up1 := by
        show (z.cps.map up1).toList = z.cps.toList.map up1
        exact Array.toList_map
      rw [e] at hc; exact hc
    obtain ⟨a, ha, rfl⟩ := List.mem_map.mp hc'
    have := h a ha
    unfold up1
    split <;> omega
  · show (z.cps.map up1).size = z.cps.size
    exact Array.size_map
theorem cut_asc {z : Str} (h : ∀ c ∈ cl z, c < 128) (lo hi : Option Int) : (∀ c ∈ cl (cutS z lo hi), c < 128) ∧ (cutS z lo hi).length ≤ z.length := by
  constructor
  · intro c hc
    rw [cut_cl] at hc
    exact h c (List.mem_of_mem_drop (List.mem_of_mem_take hc))
  · rw [cl_len, cut_cl, List.length_take, List.length_drop]
    have : (cl z).length = z.length := rfl
    omega
theorem num_asc {v : V} {i : Int} (h : NumV v i) (hi : i.natAbs ≤ 10 ^ 20) : (∀ c ∈ cl (numText v), c < 128) ∧ (numText v).length ≤ 22 := by
  cases h with
  | bl b => cases b <;> exact ⟨by decide +kernel, by decide +kernel⟩
  | int i =>
    refine ⟨?_, int_len hi⟩
    have all : ∀ m : Nat, ∀ ch ∈ (toString (Int.ofNat m)).toList, ch.toNat < 128 := fun m ch hch => by
      have e1 := text_ofNat m
      rw [Str.ofString_eq_toList] at e1
      have e2 : (toString (Int.ofNat m)).toList.map Char.toNat = (Nat.toDigits 10 m).map Char.toNat := congrArg (fun z : Str => z.cps.toList) e1
      have hm : ch.toNat ∈ (Nat.toDigits 10 m).map Char.toNat := by rw [← e2]; exact List.mem_map.mpr ⟨ch, hch, rfl⟩
      obtain ⟨c2, h2, e3⟩ := List.mem_map.mp hm
      rw [← e3]
      have h3 := Nat.isDigit_of_mem_toDigits (by decide) (by decide) h2
      simp only [Char.isDigit, Bool.and_eq_true, decide_eq_true_eq] at h3
      have h4 : c2.val.toNat ≤ 57 := h3.2
      show c2.val.toNat < 128
      omega
    intro c hc
    have hc' : c ∈ (toString i).toList.map Char.toNat := by
      have e : cl (Str.ofString (toString i)) = (toString i).toList.map Char.toNat := by
        unfold cl
        rw [Str.ofString_eq_toList]
      rw [← e]; exact hc
    obtain ⟨ch, hch, rfl⟩ := List.mem_map.mp hc'
    by_cases h0 : 0 ≤ i
    · obtain ⟨m, rfl⟩ : ∃ m : Nat, i = Int.ofNat m := ⟨i.toNat, by show i = ((i.toNat : Nat) : Int); omega⟩
      exact all m ch hch
    · rw [toString_neg (by omega), String.toList_append] at hch
      obtain ⟨m, hm⟩ : ∃ m : Nat, 0 - i = Int.ofNat m := ⟨(0 - i).toNat, by show 0 - i = (((0 - i).toNat : Nat) : Int); omega⟩
      rcases List.mem_append.mp hch with h | h
      · have e : ("-" : String).toList = ['-'] := by decide
        rw [e] at h
        rw [List.mem_singleton.mp h]
        decide
      · rw [hm] at h
        exact all m ch h
/-! ### pieces of data -/
theorem dpAll_take {K : PySem.W.Frag} {H : Hp} : ∀ {ds : List PyData} {vs : List V} (n : Nat), DpAll K H vs ds → DpAll K H (vs.take n) (ds.take n)
  | _, _, 0, _ => .nil
  | _, _, _ + 1, .nil => .nil
  | _, _, n + 1, .cons h t => .cons h (dpAll_take n t)
theorem dpAll_drop {K : PySem.W.Frag} {H : Hp} : ∀ {ds : List PyData} {vs : List V} (n : Nat), DpAll K H vs ds → DpAll K H (vs.drop n) (ds.drop n)
  | _, _, 0, h => h
  | _, _, _ + 1, .nil => .nil
  | _, _, n + 1, .cons _ t => dpAll_drop n t
theorem dpAll_rev {K : PySem.W.Frag} {H : Hp} : ∀ {ds : List PyData} {vs : List V}, DpAll K H vs ds → DpAll K H vs.reverse ds.reverse
  | _, _, .nil => .nil
  | _, _, .cons h t => by
    rw [List.reverse_cons, List.reverse_cons]
    exact dpAll_snoc (dpAll_rev t) h
theorem dpAll_set {K : PySem.W.Frag} {H : Hp} {v : V} {d : PyData} (h : Dp K H v d) : ∀ {ds : List PyData} {vs : List V} (n : Nat), DpAll K H vs ds → DpAll K H (vs.set n v) (ds.set n d)
  | _, _, _, .nil => .nil
  | _, _, 0, .cons _ t => .cons h t
  | _, _, n + 1, .cons g t => .cons g (dpAll_set h n t)
theorem wtAll_rev : ∀ ds : List PyData, wtAll ds.reverse = wtAll ds
  | [] => rfl
  | d :: ds => by
    rw [List.reverse_cons, wtAll_app, wtAll_rev ds]
    show wtAll ds + (wt d + 3 + 0) = wt d + 3 + wtAll ds
    omega
theorem wtAll_cut (ds : List PyData) (n : Nat) : wtAll (ds.take n) + wtAll (ds.drop n) = wtAll ds := by
  rw [← wtAll_app, List.take_append_drop]
/-- what has become of a list's items -/
structure Pc (B L : Nat) (ds es : List PyData) : Prop where
  len : es.length ≤ L + 1
  mem : ∀ e ∈ es, Nice B (L + 1) e ∧ e.depth ≤ PyData.depthAll ds + 1
  wt : wtAll es ≤ 3 * wtAll ds + 2000
theorem pc_mem {B L : Nat} {ds : List PyData} (h : NiceAll B L ds) : ∀ e ∈ ds, Nice (B + 2000000000) (L + 1) e ∧ e.depth ≤ PyData.depthAll ds + 1 := fun e he =>
  ⟨(niceAll_iff.mp h e he).mono (by omega) (by omega), Nat.le_trans (depth_mem he) (Nat.le_succ _)⟩
/-- the things that are made of a container -/
structure Bt (B L : Nat) (d e : PyData) : Prop where
  nice : Nice (B + 2000000000) (L + 1) e
  wt : wt e ≤ 3 * wt d + 2000
  dep : e.depth ≤ d.depth + 1
theorem bt_good {B L : Nat} {d e : PyData} (h : Good (B + 2000000000) (wt d + 300) e) : Bt B L d e := ⟨h.nice.mono (Nat.le_refl _) (by omega), by have := h.wt; omega, by have := h.dep; omega⟩
theorem cutV_lo (xs : List V) (a : Nat) : cutV xs none (some (a : Int)) = xs.take a := by
  unfold cutV
  rw [HT.sIx_none, HT.sIx_nat, List.drop_zero, Nat.sub_zero]
  by_cases h : a ≤ xs.length
  · rw [Nat.min_eq_left h]
  · rw [Nat.min_eq_right (by omega), List.take_of_length_le (Nat.le_refl _), List.take_of_length_le (by omega)]
theorem cutV_hi (xs : List V) (a : Nat) : cutV xs (some (a : Int)) none = xs.drop a := by
  unfold cutV
  rw [HT.sIx_none, HT.sIx_nat]
  by_cases h : a ≤ xs.length
  · rw [Nat.min_eq_left h, List.take_of_length_le]
    rw [List.length_drop]; exact Nat.le_refl _
  · rw [Nat.min_eq_right (by omega), List.drop_length, List.drop_of_length_le (by omega)]
    simp
theorem cutV_mid (xs : List V) (a b : Nat) (h : a ≤ xs.length) : cutV xs (some (a : Int)) (some ((a : Int) + b)) = (xs.drop a).take b := by
  unfold cutV
  rw [show ((a : Int) + b) = ((a + b : Nat) : Int) by omega, HT.sIx_nat, HT.sIx_nat, Nat.min_eq_left h, List.take_eq_take_iff, List.length_drop]
  omega
/-- a container: a tuple or a list -/
theorem cont_of {K : PySem.W.Frag} {H : Hp} {v : V} {d : PyData} (hd : Dp K H v d) (h : (isTB d || isLB d) = true) : ∃ p xs ds, v = .ref p ∧ DpAll K H xs ds ∧ ((d = .tuple ds ∧ SqT K H p xs) ∨ (d = .list ds ∧ SqL K H p xs)) := by
  cases hd with
  | non => cases h
  | bl b => cases h
  | int i => cases h
  | str z => cases h
  | lst hs a => exact ⟨_, _, _, rfl, a, .inr ⟨rfl, hs⟩⟩
  | tup hs a => exact ⟨_, _, _, rfl, a, .inl ⟨rfl, hs⟩⟩
end TT

set_option Elab.async false
set_option linter.all false
set_option maxRecDepth 100000
namespace TT
open PySem PySem.Spec PyProof.Rows L2
/-! ### is some data among names -/
def inS (zs : List Str) : PyData → Bool
  | .str z => decide (z ∈ zs)
  | _ => false
theorem any_eqv (zs : List Str) (d : PyData) : (zs.map PyData.str).any (fun z => PyData.eqv z d) = inS zs d := by
  rw [List.any_map]
  cases d with
  | str z =>
    show zs.any (fun y => y == z) = decide (z ∈ zs)
    rw [Bool.eq_iff_iff]
    simp
  | none => exact List.any_eq_false.mpr fun x _ => by simp [Function.comp, PyData.eqv]
  | bool b => exact List.any_eq_false.mpr fun x _ => by simp [Function.comp, PyData.eqv]
  | int i => exact List.any_eq_false.mpr fun x _ => by simp [Function.comp, PyData.eqv]
  | list ds => exact List.any_eq_false.mpr fun x _ => by simp [Function.comp, PyData.eqv]
  | tuple ds => exact List.any_eq_false.mpr fun x _ => by simp [Function.comp, PyData.eqv]
  | dict ds => exact List.any_eq_false.mpr fun x _ => by simp [Function.comp, PyData.eqv]
def rInN (K : PySem.W.Frag) : R2 := fun x y H Q => ∃ (d : PyData) (zs : List Str) (p : Addr), y = .ref p ∧ Dp K H x d ∧ SeqAt.shaped d = true ∧ (SqL K H p (zs.map V.str) ∨ SqT K H p (zs.map V.str)) ∧ SeqAt.shaped (.list (zs.map PyData.str)) = true ∧ Q (.bl (inS zs d)) H
def rNinN (K : PySem.W.Frag) : R2 := fun x y H Q => ∃ (d : PyData) (zs : List Str) (p : Addr), y = .ref p ∧ Dp K H x d ∧ SeqAt.shaped d = true ∧ (SqL K H p (zs.map V.str) ∨ SqT K H p (zs.map V.str)) ∧ SeqAt.shaped (.list (zs.map PyData.str)) = true ∧ Q (.bl (!inS zs d)) H
section
variable {X : Cx}
theorem op_inN (hu : X.A.units + 65 < cLine) : OpR X (compareOp .In) (rInN X.K) := by
  intro pins s σ H x y v u Q I rx ry h
  obtain ⟨d, zs, p, rfl, hd, sd, he, se, q⟩ := h
  rw [← any_eqv] at q
  obtain ⟨as, r1⟩ := Dp.reads I d x v hd rx
  rcases he with he | he
  · obtain ⟨bs, r2⟩ := Dp.reads I (.list (zs.map PyData.str)) (.ref p) u (.lst he (dp_strs zs)) ry
    exact SeqAt.in_list_reads r2 r1 (SeqAt.canLay_of_shaped se) (SeqAt.canLay_of_shaped sd) (room_in_shaped sd hu) ⟨.bl _, H, I, rfl, q⟩
  · obtain ⟨bs, r2⟩ := Dp.reads I (.tuple (zs.map PyData.str)) (.ref p) u (.tup he (dp_strs zs)) ry
    exact SeqAt.in_tuple_reads r2 r1 (SeqAt.canLay_of_shaped se) (SeqAt.canLay_of_shaped sd) (room_in_shaped sd hu) ⟨.bl _, H, I, rfl, q⟩
theorem op_ninN (hu : X.A.units + 65 < cLine) : OpR X (compareOp .NotIn) (rNinN X.K) := by
  intro pins s σ H x y v u Q I rx ry h
  obtain ⟨d, zs, p, rfl, hd, sd, he, se, q⟩ := h
  rw [← any_eqv] at q
  obtain ⟨as, r1⟩ := Dp.reads I d x v hd rx
  rcases he with he | he
  · obtain ⟨bs, r2⟩ := Dp.reads I (.list (zs.map PyData.str)) (.ref p) u (.lst he (dp_strs zs)) ry
    exact SeqAt.notIn_list_reads r2 r1 (SeqAt.canLay_of_shaped se) (SeqAt.canLay_of_shaped sd) (room_in_shaped sd hu) ⟨.bl _, H, I, rfl, q⟩
  · obtain ⟨bs, r2⟩ := Dp.reads I (.tuple (zs.map PyData.str)) (.ref p) u (.tup he (dp_strs zs)) ry
    exact SeqAt.notIn_tuple_reads r2 r1 (SeqAt.canLay_of_shaped se) (SeqAt.canLay_of_shaped sd) (room_in_shaped sd hu) ⟨.bl _, H, I, rfl, q⟩
/-- a statement that is never come to -/
theorem ps_nv {st : Stmt} : PS X st (fun _ _ _ => False) := ⟨fun _ _ _ _ _ _ h => h.elim⟩
end
/-! ### sizes -/
mutual
theorem lay_nice {B L : Nat} : ∀ {d : PyData}, Nice B L d → d.canLay0 = true
  | .none, _ => rfl
  | .bool _, _ => rfl
  | .int _, _ => rfl
  | .str z, h => by
    show PyData.strOk z = true
    unfold PyData.strOk
    rw [Array.all_eq_true']
    intro x hx
    have := h x (by unfold cl; exact Array.mem_toList_iff.mpr hx)
    simp; omega
  | .list ds, h => layAll_nice h.2
  | .tuple ds, h => layAll_nice h.2
  | .dict _, h => h.elim
theorem layAll_nice {B L : Nat} : ∀ {ds : List PyData}, NiceAll B L ds → PyData.canLayAll0 ds = true
  | [], _ => rfl
  | d :: ds, h => by
    show (d.canLay0 && PyData.canLayAll0 ds) = true
    rw [lay_nice h.1, layAll_nice h.2]; rfl
end
theorem shaped_nice {B L : Nat} {d : PyData} (h : Nice B L d) (hd : d.depth ≤ 60) : SeqAt.shaped d = true := by
  unfold SeqAt.shaped
  rw [lay_nice h, decide_eq_true (show d.depth ≤ 64 by omega)]; rfl
theorem shaped_str {z : Str} (h : NameOk z) : SeqAt.shaped (.str z) = true := by
  show (PyData.strOk z && decide (0 ≤ 64)) = true
  rw [strOk_name h]; rfl
theorem shaped_mem {ds : List PyData} {d : PyData} (h : SeqAt.shaped (.tuple ds) = true) (m : d ∈ ds) : SeqAt.shaped d = true := by
  have h' : (PyData.canLayAll0 ds && decide (PyData.depthAll ds + 1 ≤ 64)) = true := h
  rw [Bool.and_eq_true, decide_eq_true_eq] at h'
  have hd := depth_mem m
  unfold SeqAt.shaped
  rw [decide_eq_true (show d.depth ≤ 64 by omega), Bool.and_true]
  have g : ∀ {l : List PyData}, PyData.canLayAll0 l = true → d ∈ l → d.canLay0 = true := by
    intro l
    induction l with
    | nil => intro _ m; cases m
    | cons e l ih =>
      intro h m
      have h2 : (e.canLay0 && PyData.canLayAll0 l) = true := h
      rw [Bool.and_eq_true] at h2
      rcases List.mem_cons.mp m with rfl | m
      · exact h2.1
      · exact ih h2.2 m
  exact g h'.1 m
/-! ### the tables handed along -/
structure Tabs (K : PySem.W.Frag) (H : Hp) (tp : Addr) (ts : List Tab) : Prop where
  dp : Dp K H (.ref tp) (.tuple (ts.map tabD))
  ok : TabsOk 5 ts
  l0 : 0 < ts.length
  l8 : ts.length ≤ 8
theorem Tabs.same {K : PySem.W.Frag} {H H' : Hp} {tp : Addr} {ts : List Tab} (h : Tabs K H tp ts) (s : Same H H') : Tabs K H' tp ts := ⟨dp_same s h.dp, h.ok, h.l0, h.l8⟩
theorem Tabs.parts {K : PySem.W.Frag} {H : Hp} {tp : Addr} {ts : List Tab} (h : Tabs K H tp ts) : ∃ xs, SqT K H tp xs ∧ DpAll K H xs (ts.map tabD) ∧ xs.length = ts.length := by
  cases h.dp with
  | tup h1 h2 => exact ⟨_, h1, h2, by rw [dpAll_len h2, List.length_map]⟩
/-- one of the tables, taken apart -/
theorem tab_at {K : PySem.W.Frag} {H : Hp} {xs : List V} {ts : List Tab} {i : Nat} {x : V} (h : DpAll K H xs (ts.map tabD)) (hx : xs[i]? = some x) : ∃ (t : Tab) (q pc : Addr) (ys : List V), ts[i]? = some t ∧ x = .ref q ∧ SqT K H q [.str t.1, .ref pc] ∧ SqT K H pc ys ∧ DpAll K H ys (t.2.map colD) := by
  obtain ⟨dd, h1, h2⟩ := dpAll_get i h hx
  rw [List.getElem?_map] at h1
  obtain ⟨t, ht, rfl⟩ := Option.map_eq_some_iff.mp h1
  cases h2 with
  | tup g1 g2 =>
    cases g2 with
    | cons g3 g4 =>
      cases g4 with
      | cons g5 g6 =>
        cases g6
        cases g3
        cases g5 with
        | tup k1 k2 => exact ⟨t, _, _, _, ht, rfl, g1, k1, k2⟩
theorem col_at {K : PySem.W.Frag} {H : Hp} {ys : List V} {cs : List Col} {i : Nat} {x : V} (h : DpAll K H ys (cs.map colD)) (hx : ys[i]? = some x) : ∃ (co : Col) (q : Addr) (y : V), cs[i]? = some co ∧ x = .ref q ∧ SqT K H q [.str co.1, y] := by
  obtain ⟨dd, h1, h2⟩ := dpAll_get i h hx
  rw [List.getElem?_map] at h1
  obtain ⟨co, hco, rfl⟩ := Option.map_eq_some_iff.mp h1
  cases h2 with
  | tup g1 g2 =>
    cases g2 with
    | cons g3 g4 =>
      cases g4 with
      | cons g5 g6 =>
        cases g6
        cases g3
        exact ⟨co, _, _, hco, rfl, g1⟩
abbrev tns (ts : List Tab) : List Str := ts.map (·.1)
def colsOf (ts : List Tab) (t : Str) : List Col := match ts.find? (fun x => x.1 == t) with
  | some x => x.2
  | none => []
abbrev cns (ts : List Tab) (t : Str) : List Str := (colsOf ts t).map (·.1)
theorem colsOf_mem {ts : List Tab} (nd : (ts.map (·.1)).Nodup) {x : Tab} (hx : x ∈ ts) : colsOf ts x.1 = x.2 := by
  unfold colsOf
  induction ts with
  | nil => cases hx
  | cons a r ih =>
    rw [List.map_cons, List.nodup_cons] at nd
    rw [List.find?_cons]
    by_cases e : a.1 = x.1
    · rw [show (a.1 == x.1) = true by simp [e]]
      rcases List.mem_cons.mp hx with h | h
      · rw [h]
      · exact absurd (List.mem_map.mpr ⟨x, h, e.symm⟩) nd.1
    · rw [show (a.1 == x.1) = false by simp [e]]
      rcases List.mem_cons.mp hx with h | h
      · exact absurd (by rw [h]) e
      · exact ih nd.2 h
theorem tns_len {ts : List Tab} : (tns ts).length = ts.length := List.length_map ..
theorem tab_of {ts : List Tab} (nd : (ts.map (·.1)).Nodup) {t : Str} (h : t ∈ tns ts) : ∃ x ∈ ts, x.1 = t ∧ colsOf ts t = x.2 := by
  obtain ⟨x, hx, rfl⟩ := List.mem_map.mp h
  exact ⟨x, hx, rfl, colsOf_mem nd hx⟩
end TT

set_option Elab.async false
set_option linter.all false
set_option maxRecDepth 100000
namespace TT
open PySem PySem.Spec PyProof.Rows L2
section
variable {K : PySem.W.Frag} {M : List Addr} {H H' : Hp} {P : Addr} {vs : List V} {ds : List PyData} {v : V} {d : PyData} {o : HO} {s c : Addr}
theorem Mask.push (h : Mask M H s c) : Mask (P :: M) (upd H P o) s c := ⟨fun p hp => List.mem_cons_of_mem _ (h.sc p hp), fun b hb => by
  rcases List.mem_cons.mp hb with rfl | hb
  · rw [upd_same]; exact fun z => nomatch z
  · exact h.up.tr b hb⟩
theorem Mask.pop (h : Mask (P :: M) H s c) (sc : ∀ p ∈ [s, c], p ∈ M) : Mask M H s c := ⟨sc, fun b hb => h.tr b (List.mem_cons_of_mem _ hb)⟩
theorem mask0 {T : Nat} (S : StAt H s c T) : Mask [s, c] H s c := ⟨fun _ h => h, fun b hb z => by
  simp only [List.mem_cons, List.not_mem_nil, or_false] at hb
  rcases hb with rfl | rfl
  · obtain ⟨t, _, e⟩ := S.ex
    rw [z] at e; cases e
  · obtain ⟨ns, _, _, e⟩ := S.cs
    rw [z] at e; cases e⟩
end
theorem dp_ws {K : PySem.W.Frag} {H : Hp} : ∀ r : List (Option Int), DpAll K H (r.map wV) (r.map wD)
  | [] => .nil
  | w :: r => .cons (dp_w w) (dp_ws r)
/-! ### contents as plain data -/
abbrev Rw := List (Option Int)
def rowD (r : Rw) : PyData := .tuple (r.map wD)
def rowsD (rs : List Rw) : PyData := .list (rs.map rowD)
def contD (ct : List (List Rw)) : PyData := .list (ct.map rowsD)
def keyW : Rw → Int
  | some k :: _ => k
  | _ => 0
/-- a row of so many columns -/
structure RwOk (n : Nat) (r : Rw) : Prop where
  len : r.length = n
  w : ∀ o ∈ r, WOk o
  key : ∃ k t, r = some k :: t
structure RwsOk (n : Nat) (rs : List Rw) : Prop where
  row : ∀ r ∈ rs, RwOk n r
  up : (rs.map keyW).Pairwise (· < ·)
structure ContOk (L : Nat) (ts : List Tab) (ct : List (List Rw)) : Prop where
  len : ct.length = ts.length
  rows : ∀ (i : Nat) (t : Tab) (rs : List Rw), ts[i]? = some t → ct[i]? = some rs → RwsOk t.2.length rs
  few : ∀ rs ∈ ct, rs.length ≤ L
theorem RwsOk.snoc {n : Nat} {rs : List Rw} {r : Rw} (h : RwsOk n rs) (hr : RwOk n r) (hk : ∀ x ∈ rs, keyW x < keyW r) : RwsOk n (rs ++ [r]) where
  row := fun x hx => by
    rcases List.mem_append.mp hx with h1 | h1
    · exact h.row x h1
    · rw [List.mem_singleton.mp h1]; exact hr
  up := by
    rw [List.map_append, List.pairwise_append]
    refine ⟨h.up, by simp, fun a ha b hb => ?_⟩
    obtain ⟨x, hx, rfl⟩ := List.mem_map.mp ha
    rw [List.map_singleton] at hb
    rw [List.mem_singleton.mp hb]
    exact hk x hx
end TT

set_option Elab.async false
set_option linter.all false
set_option maxRecDepth 100000
namespace TT
open PySem PySem.Spec PyProof.Rows L2
/-! ### sizes of tables and of contents -/
theorem name_nice {z : Str} (h : NameOk z) (B L : Nat) : Nice B L (.str z) ∧ wt (.str z) ≤ 92 := by
  have l : z.length ≤ 8 := h.top
  exact ⟨fun c hc => by have := h.low c hc; unfold low at this; omega, by show 10 * z.length + 12 ≤ 92; omega⟩
theorem w_nice : ∀ {o : Option Int}, WOk o → Nice 1000000000 8 (wD o) ∧ wt (wD o) ≤ 25 ∧ (wD o).depth = 0
  | none, _ => ⟨trivial, by show 4 ≤ 25; decide, rfl⟩
  | some i, h => ⟨by show i.natAbs ≤ 1000000000; have h' : -1000000000 ≤ i ∧ i ≤ 1000000000 := h; omega, Nat.le_refl _, rfl⟩
theorem col_nice {x : Col} (h1 : NameOk x.1) (h2 : WOk x.2) : Nice 1000000000 8 (colD x) ∧ wt (colD x) ≤ 129 ∧ (colD x).depth ≤ 1 := by
  obtain ⟨a1, a2⟩ := name_nice h1 1000000000 8
  obtain ⟨b1, b2, b3⟩ := w_nice h2
  refine ⟨⟨by show 2 ≤ 8; decide, a1, b1, trivial⟩, ?_, ?_⟩
  · show 6 + (wt (.str x.1) + 3 + (wt (wD x.2) + 3 + 0)) ≤ 129
    omega
  · show max 0 (max (wD x.2).depth 0) + 1 ≤ 1
    rw [b3]; decide
theorem sum_le {α : Type} {f : α → PyData} {n : Nat} : ∀ {l : List α}, (∀ x ∈ l, wt (f x) ≤ n) → wtAll (l.map f) ≤ l.length * (n + 3)
  | [], _ => Nat.zero_le _
  | x :: l, h => by
    have h1 := h x (List.mem_cons_self ..)
    have h2 := sum_le fun y hy => h y (List.mem_cons_of_mem x hy)
    show wt (f x) + 3 + wtAll (l.map f) ≤ (l.length + 1) * (n + 3)
    rw [Nat.add_mul]
    omega
theorem all_nice {α : Type} {f : α → PyData} {B L : Nat} {l : List α} (h : ∀ x ∈ l, Nice B L (f x)) : NiceAll B L (l.map f) := niceAll_iff.mpr fun d hd => by
  obtain ⟨x, hx, rfl⟩ := List.mem_map.mp hd
  exact h x hx
theorem all_depth {α : Type} {f : α → PyData} {n : Nat} {l : List α} (h : ∀ x ∈ l, (f x).depth ≤ n) : PyData.depthAll (l.map f) ≤ n := depthAll_le fun d hd => by
  obtain ⟨x, hx, rfl⟩ := List.mem_map.mp hd
  exact h x hx
theorem tab_nice {n : Nat} {x : Tab} (hn : n ≤ 8) (h1 : NameOk x.1) (h2 : ColsOk n x.2) : Nice 1000000000 8 (tabD x) ∧ wt (tabD x) ≤ 1166 ∧ (tabD x).depth ≤ 3 := by
  obtain ⟨a1, a2⟩ := name_nice h1 1000000000 8
  have cn := fun y hy => col_nice (h2.nm y hy) (h2.w y hy)
  have l8 : x.2.length ≤ 8 := Nat.le_trans h2.top hn
  have ws := sum_le (f := colD) (n := 129) fun y hy => (cn y hy).2.1
  refine ⟨⟨by show 2 ≤ 8; decide, a1, ⟨by rw [List.length_map]; exact l8, all_nice fun y hy => (cn y hy).1⟩, trivial⟩, ?_, ?_⟩
  · show 6 + (wt (.str x.1) + 3 + ((6 + wtAll (x.2.map colD)) + 3 + 0)) ≤ 1166
    have : x.2.length * (129 + 3) ≤ 8 * 132 := Nat.mul_le_mul_right _ l8
    omega
  · have := all_depth (f := colD) (n := 1) fun y hy => (cn y hy).2.2
    show max 0 (max (PyData.depthAll (x.2.map colD) + 1) 0) + 1 ≤ 3
    omega
theorem tabs_nice {n : Nat} {ts : List Tab} (hn : n ≤ 8) (hl : ts.length ≤ 8) (h : TabsOk n ts) : Nice 1000000000 8 (.tuple (ts.map tabD)) ∧ wt (.tuple (ts.map tabD)) ≤ 10000 ∧ (PyData.tuple (ts.map tabD)).depth ≤ 4 := by
  have tn := fun y hy => tab_nice hn (h.nm y hy) (h.cs y hy).1
  have ws := sum_le (f := tabD) (n := 1166) fun y hy => (tn y hy).2.1
  refine ⟨⟨by rw [List.length_map]; exact hl, all_nice fun y hy => (tn y hy).1⟩, ?_, ?_⟩
  · show 6 + wtAll (ts.map tabD) ≤ 10000
    have : ts.length * (1166 + 3) ≤ 8 * 1169 := Nat.mul_le_mul_right _ hl
    omega
  · have := all_depth (f := tabD) (n := 3) fun y hy => (tn y hy).2.2
    show PyData.depthAll (ts.map tabD) + 1 ≤ 4
    omega

theorem wtAll_le {n : Nat} : ∀ {l : List PyData}, (∀ x ∈ l, wt x ≤ n) → wtAll l ≤ l.length * (n + 3)
  | [], _ => Nat.zero_le _
  | x :: l, h => by
    have h1 := h x (List.mem_cons_self ..)
    have h2 := wtAll_le fun y hy => h y (List.mem_cons_of_mem x hy)
    show wt x + 3 + wtAll l ≤ (l.length + 1) * (n + 3)
    rw [Nat.add_mul]
    omega
theorem w61 {o : Option Int} (h : WOk o) (L : Nat) : Nice 1000000000 L (wD o) ∧ wt (wD o) ≤ 25 ∧ (wD o).depth = 0 := by
  cases o with
  | none => exact ⟨trivial, by show 4 ≤ 25; decide, rfl⟩
  | some i => exact ⟨by have := h.1; have := h.2; show i.natAbs ≤ 1000000000; omega, Nat.le_refl _, rfl⟩
theorem row61 {n : Nat} (hn : n ≤ 5) {r : Rw} (h : RwOk n r) : Nice 1000000000 61 (rowD r) ∧ wt (rowD r) ≤ 146 ∧ (rowD r).depth ≤ 1 := by
  have ws := sum_le (f := wD) (n := 25) (l := r) fun o ho => (w61 (h.w o ho) 61).2.1
  have hl := h.len
  refine ⟨⟨by rw [List.length_map]; omega, all_nice fun o ho => (w61 (h.w o ho) 61).1⟩, ?_, ?_⟩
  · show 6 + wtAll (r.map wD) ≤ 146
    omega
  · have := all_depth (f := wD) (l := r) (n := 0) fun o ho => Nat.le_of_eq (w61 (h.w o ho) 61).2.2
    show PyData.depthAll (r.map wD) + 1 ≤ 1
    omega
theorem rows_nice {n : Nat} (hn : n ≤ 5) {rs : List Rw} (h : RwsOk n rs) (l : rs.length ≤ 61) : Nice 1000000000 61 (rowsD rs) ∧ wt (rowsD rs) ≤ 6 + rs.length * 149 ∧ (rowsD rs).depth ≤ 2 := by
  have tn := fun y hy => row61 hn (h.row y hy)
  have ws := sum_le (f := rowD) (n := 146) fun y hy => (tn y hy).2.1
  refine ⟨⟨by rw [List.length_map]; exact l, all_nice fun y hy => (tn y hy).1⟩, ?_, ?_⟩
  · show 6 + wtAll (rs.map rowD) ≤ _
    omega
  · have := all_depth (f := rowD) (n := 1) fun y hy => (tn y hy).2.2
    show PyData.depthAll (rs.map rowD) + 1 ≤ 2
    omega
theorem wtAll_sum {α : Type} {f : α → PyData} {g : α → Nat} : ∀ {l : List α}, (∀ x ∈ l, wt (f x) ≤ g x) → wtAll (l.map f) ≤ (l.map g).sum + l.length * 3
  | [], _ => Nat.zero_le _
  | x :: l, h => by
    have h1 := h x (List.mem_cons_self ..)
    have h2 := wtAll_sum fun y hy => h y (List.mem_cons_of_mem x hy)
    show wt (f x) + 3 + wtAll (l.map f) ≤ (g x + (l.map g).sum) + (l.length + 1) * 3
    omega
theorem sum_lin {α : Type} (f : α → Nat) (a b : Nat) : ∀ l : List α, (l.map fun x => a + f x * b).sum = l.length * a + (l.map f).sum * b
  | [] => by simp
  | x :: l => by
    rw [List.map_cons, List.sum_cons, sum_lin f a b l, List.map_cons, List.sum_cons, List.length_cons, Nat.add_mul, Nat.add_mul]
    omega
theorem cont_rows {L : Nat} {ts : List Tab} {ct : List (List Rw)} (h : ContOk L ts ct) (okt : TabsOk 5 ts) {rs : List Rw} (hm : rs ∈ ct) : ∃ n, 1 ≤ n ∧ n ≤ 5 ∧ RwsOk n rs := by
  obtain ⟨i, hi⟩ := List.getElem?_of_mem hm
  have hl := (List.getElem?_eq_some_iff.mp hi).1
  have hl2 : i < ts.length := by rw [← h.len]; exact hl
  have ht : ts[i]? = some ts[i] := List.getElem?_eq_getElem hl2
  have hmt := List.mem_of_getElem? ht
  exact ⟨_, (okt.cs _ hmt).2, (okt.cs _ hmt).1.top, h.rows i _ rs ht hi⟩
theorem mem_sum : ∀ {l : List Nat} {n : Nat}, n ∈ l → n ≤ l.sum
  | a :: l, n, h => by
    rw [List.sum_cons]
    rcases List.mem_cons.mp h with rfl | h
    · omega
    · have := mem_sum h; omega
theorem cont_nice {L : Nat} {ts : List Tab} {ct : List (List Rw)} (h : ContOk L ts ct) (okt : TabsOk 5 ts) (l8 : ts.length ≤ 8) (hs : (ct.map List.length).sum ≤ 61) : Nice 1000000000 61 (contD ct) ∧ wt (contD ct) ≤ 9200 ∧ (contD ct).depth ≤ 3 := by
  have few : ∀ rs ∈ ct, rs.length ≤ 61 := fun rs hm => by
    have : rs.length ∈ ct.map List.length := List.mem_map.mpr ⟨rs, hm, rfl⟩
    have := mem_sum this
    omega
  have tn : ∀ rs ∈ ct, Nice 1000000000 61 (rowsD rs) ∧ wt (rowsD rs) ≤ 6 + rs.length * 149 ∧ (rowsD rs).depth ≤ 2 := fun rs hm => by
    obtain ⟨n, _, hn, ho⟩ := cont_rows h okt hm
    exact rows_nice hn ho (few rs hm)
  have lct := h.len
  have ws := wtAll_sum (f := rowsD) (g := fun rs => 6 + rs.length * 149) fun y hy => (tn y hy).2.1
  rw [sum_lin] at ws
  refine ⟨⟨by rw [List.length_map]; omega, all_nice fun y hy => (tn y hy).1⟩, ?_, ?_⟩
  · show 6 + wtAll (ct.map rowsD) ≤ 9200
    have : (ct.map List.length).sum * 149 ≤ 61 * 149 := Nat.mul_le_mul_right _ hs
    omega
  · have := all_depth (f := rowsD) (n := 2) fun y hy => (tn y hy).2.2
    show PyData.depthAll (ct.map rowsD) + 1 ≤ 3
    omega
theorem shows_more {B L : Nat} {d : PyData} (h : Nice B L d) (hB : B ≤ 10 ^ 20) (hd : d.depth ≤ 60) (hw : wt d ≤ 1000000) : Shows d :=
  ⟨(showable_nice hB h).1, (showable_nice hB h).2, hd, Nat.le_trans (shown_len hB h) (Nat.le_trans hw (by decide))⟩
theorem tabs_all {K : PySem.W.Frag} {H : Hp} {tp : Addr} {ts : List Tab} (h : Tabs K H tp ts) : Nice 1000000000 8 (.tuple (ts.map tabD)) ∧ wt (.tuple (ts.map tabD)) ≤ 10000 ∧ (PyData.tuple (ts.map tabD)).depth ≤ 4 := tabs_nice (by decide) h.l8 h.ok
end TT

set_option Elab.async false
set_option linter.all false
set_option maxRecDepth 100000
namespace TT
open PySem PySem.Spec PyProof.Rows L2
theorem tns_ok {ts : List Tab} (h : TabsOk 5 ts) : ∀ z ∈ tns ts, NameOk z := fun z hz => by
  obtain ⟨x, hx, rfl⟩ := List.mem_map.mp hz
  exact h.nm x hx
theorem cns_ok {ts : List Tab} (h : TabsOk 5 ts) {t : Str} (ht : t ∈ tns ts) : (∀ z ∈ cns ts t, NameOk z) ∧ 0 < (cns ts t).length ∧ (cns ts t).length ≤ 5 ∧ (cns ts t).Nodup := by
  obtain ⟨x, hx, rfl, e⟩ := tab_of h.nd ht
  unfold cns
  rw [e]
  obtain ⟨c, l⟩ := h.cs x hx
  refine ⟨fun z hz => ?_, by rw [List.length_map]; exact l, by rw [List.length_map]; exact c.top, c.nd⟩
  obtain ⟨y, hy, rfl⟩ := List.mem_map.mp hz
  exact c.nm y hy
theorem inS_str {zs : List Str} {d : PyData} (h : inS zs d = true) : ∃ z, d = .str z ∧ z ∈ zs := by
  cases d with
  | str z => exact ⟨z, rfl, of_decide_eq_true h⟩
  | _ => cases h
/-- the names of the tables as they are told by table_names -/
theorem namesOf_tabs (ts : List Tab) : namesOf (ts.map tabD) = tns ts := by
  unfold namesOf
  rw [List.map_map]
  rfl
theorem strName_tabs (ts : List Tab) : (ts.map tabD).all strName = true := List.all_eq_true.mpr fun d hd => by
  obtain ⟨x, _, rfl⟩ := List.mem_map.mp hd
  rfl
theorem u65 {k : Nat} {A : Around} (r : Room k A) : A.units + 65 < cLine := by have := r.un; omega
section
variable {P : Program} {w : World} {K : PySem.W.Frag} {mg : Str → Option Value} {base : Heap}
/-- names of what is told to be pairs, by a comprehension with two targets -/
def spNamesOf (K : PySem.W.Frag) : Sp := fun vs H Q _ => ∃ (p : Addr) (xs : List V) (ds : List PyData), vs = [.ref p] ∧ SqT K H p xs ∧ DpAll K H xs ds ∧ ds.length ≤ 900 ∧ ds.all strName = true ∧
  ∀ (D : Addr) (H' : Hp), Same H H' → H' D = some (.lst ((namesOf ds).map V.str)) → Q (.ref D) H'
abbrev s_table_names : Stmt := topS 4
abbrev N_table_names : List Str := ["tables", "table", "_"]
theorem sc_table_names : FnScope N_table_names ["tables"] (defScope s_table_names) := ⟨rfl, rfl, rfl, by decide +kernel, rfl, by decide +kernel, by decide +kernel⟩

theorem ok_table_names {f : Addr} {fd : FuncData} (F : Fun K "table_names" "table_names" s_table_names f fd) : FnOk P w K mg base CX0 1 f fd ["tables"] (spNamesOf K) := by
  refine F.ok sc_table_names (fun vs H Q E h => ?_) (fun cdv A outer sh H vs Q E hr h => ?_)
  · obtain ⟨p, xs, ds, rfl, _⟩ := h
    rfl
  obtain ⟨p, xs, ds, rfl, hS, hA, hl, hn, q⟩ := h
  have nd := sc_table_names.nd
  refine ⟨_, (pss_one (ps_ret (pe_lc (own := [("table", 1), ("_", 2)]) (g := (gTup _ 2 (gCons (gName 1) (gCons (gName 2) gNil)))) (tt := tYes) rfl nd (pi_tup (pv 0)) (blkOk_by (N := N_table_names) (sc := defScope s_table_names) (by decide +kernel)) (fun _ _ _ _ _ => (pg_tup rfl (pgs_cons (pg_name (i := 1) nd rfl (Or.inl rfl)) (pgs_cons (pg_name (i := 2) nd rfl (Or.inl rfl)) pgs_nil)))) (fun _ _ _ _ _ => pts_nil) (fun _ _ _ _ _ => (pv 1))))), ?_⟩
  have l := dpAll_len hA
  refine ⟨.ref p, rfl, p, rfl, ⟨_, hS⟩, fun D nD => ?_⟩
  refine lc_it walk_tup (PvM H D fun i => .str (strOf (fstD (ds.getD i .none)))) (pvm_start ..) (fun i H2 _ hP => sameT (pvm_same hP nD) hS) (fun i x H2 H3 hi hP hY => ?_) (fun H2 hP => ?_)
  · obtain ⟨rfl, hx⟩ := hY
    have sm := pvm_same hP nD
    obtain ⟨d, h1, h2⟩ := dpAll_get i hA hx
    have hd := List.all_eq_true.mp hn d (List.mem_of_getElem? h1)
    unfold strName at hd
    rw [Bool.and_eq_true] at hd
    obtain ⟨pt, x1, y1, a, b, rfl, rfl, hT, ha, hb⟩ := tup2 h2 hd.1
    obtain ⟨z, rfl, rfl⟩ : ∃ z, a = .str z ∧ x1 = .str z := by
      have h3 : isSB a = true := hd.2
      cases ha <;> first | exact ⟨_, rfl, rfl⟩ | cases h3
    refine ⟨pt, _, rfl, sameT sm hT, rfl, .str z, _, rfl, y1, _, rfl, rfl, ?_⟩
    refine ⟨rfl, ?_⟩
    unfold tYes
    dsimp only
    refine iteT ?_
    refine ⟨.str z, rfl, pvm_step hP (Same.refl _) ?_ (by omega)⟩
    show V.str z = .str (strOf (fstD (ds.getD i .none)))
    rw [List.getD_eq_getElem?_getD, h1]
    rfl
  · refine q D H2 (pvm_same hP nD) ?_
    rw [hP.1, l]
    unfold namesOf
    rw [List.map_map]
    have e := range_map (fun d => V.str (strOf (fstD d))) .none ds
    rw [e]
    rfl
def spColumnsOf (K : PySem.W.Frag) : Sp := fun vs H Q _ => ∃ (tp : Addr) (ts : List Tab) (t : Str), vs = [.ref tp, .str t] ∧ Tabs K H tp ts ∧ t ∈ tns ts ∧ ∀ (pc : Addr) (ys : List V), SqT K H pc ys → DpAll K H ys ((colsOf ts t).map colD) → Q (.ref pc) H
abbrev s_columns_of : Stmt := topS 7
abbrev N_columns_of : List Str := ["tables", "table", "name", "columns"]
theorem sc_columns_of : FnScope N_columns_of ["tables", "table"] (defScope s_columns_of) := ⟨rfl, rfl, rfl, by decide +kernel, rfl, by decide +kernel, by decide +kernel⟩

theorem ok_columns_of {f : Addr} {fd : FuncData} (F : Fun K "_columns_of" "_columns_of" s_columns_of f fd) : FnOk P w K mg base CX0 1 f fd ["tables", "table"] (spColumnsOf K) := by
  refine F.ok sc_columns_of (fun vs H Q E h => ?_) (fun cdv A outer sh H vs Q E hr h => ?_)
  · obtain ⟨tp, ts, t, rfl, _⟩ := h
    rfl
  obtain ⟨tp, ts, t, rfl, hT, ht, q⟩ := h
  have nd := sc_columns_of.nd
  refine ⟨_, (pss_cons (ps_for PassesOwn.never rfl (pi_tup (pv 0)) (pg_tup rfl (pgs_cons (pg_name (i := 2) nd rfl (Or.inl rfl)) (pgs_cons (pg_name (i := 3) nd rfl (Or.inl rfl)) pgs_nil)))
        (pss_one (ps_if (pt_cmpR op_eq (pv 2) (pv 1) (nomark _))
          (pss_one (ps_ret (pv 3)))
          pss_nil)))
      (pss_one ps_nv)), ?_⟩
  obtain ⟨xs, hS, hA, l⟩ := hT.parts
  refine ⟨.ref tp, rfl, tp, rfl, ⟨_, hS⟩, ?_⟩
  refine for_tup (K := K) (a := tp) (xs := xs) (fun i σ H' => (∃ y2 y3, σ = [some (.ref tp), some (.str t), y2, y3]) ∧ H' = H ∧ t ∉ (tns ts).take i) ⟨⟨none, none, rfl⟩, rfl, by simp⟩ (fun i σ H' _ hP => by rw [hP.2.1]; exact hS) (fun i x σ H' hx hP => ?_) (fun σ H' hP => ?_)
  · obtain ⟨⟨y2, y3, rfl⟩, rfl, hn⟩ := hP
    obtain ⟨tb, qq, pc, ys, htb, rfl, h1, h2, h3⟩ := tab_at hA hx
    refine ⟨qq, _, rfl, h1, rfl, .str tb.1, _, rfl, .ref pc, _, rfl, rfl, ?_⟩
    refine ⟨.str tb.1, rfl, .str t, rfl, rfl, _, rfl, ite2 (fun e => ?_) (fun e => ?_)⟩
    · obtain rfl : tb.1 = t := V.str.inj (of_decide_eq_true e)
      refine ⟨.ref pc, rfl, q pc ys h2 ?_⟩
      rw [colsOf_mem hT.ok.nd (List.mem_of_getElem? htb)]
      exact h3
    · refine ⟨⟨_, _, rfl⟩, rfl, fun z => ?_⟩
      rw [List.take_add_one, List.getElem?_map, htb] at z
      rcases List.mem_append.mp z with z | z
      · exact hn z
      · have : t = tb.1 := by simpa using z
        exact e (decide_eq_true (by rw [this]))
  · obtain ⟨_, _, hn⟩ := hP
    rw [l, ← tns_len, List.take_length] at hn
    exact hn ht
/-- a list of the names of a table's columns -/
def spColNames (K : PySem.W.Frag) : Sp := fun vs H Q _ => ∃ (tp : Addr) (ts : List Tab) (t : Str), vs = [.ref tp, .str t] ∧ Tabs K H tp ts ∧ t ∈ tns ts ∧ ∀ (D : Addr) (H' : Hp), Same H H' → H' D = some (.lst ((cns ts t).map V.str)) → Q (.ref D) H'
abbrev s_column_names : Stmt := topS 6
abbrev N_column_names : List Str := ["tables", "table", "column", "_"]
theorem sc_column_names : FnScope N_column_names ["tables", "table"] (defScope s_column_names) := ⟨rfl, rfl, rfl, by decide +kernel, rfl, by decide +kernel, by decide +kernel⟩

theorem ok_column_names {f : Addr} {fd : FuncData} (F : Fun K "column_names" "column_names" s_column_names f fd) (D_columns_of : Def P w K mg base 1 "_columns_of" ["tables", "table"] (spColumnsOf K)) : FnOk P w K mg base CX0 2 f fd ["tables", "table"] (spColNames K) := by
  refine F.ok sc_column_names (fun vs H Q E h => ?_) (fun cdv A outer sh H vs Q E hr h => ?_)
  · obtain ⟨tp, ts, t, rfl, _⟩ := h
    rfl
  obtain ⟨tp, ts, t, rfl, hT, ht, q⟩ := h
  have nd := sc_column_names.nd
  refine ⟨_, (pss_one (ps_ret (pe_lc (own := [("column", 2), ("_", 3)]) (g := (gTup _ 2 (gCons (gName 2) (gCons (gName 3) gNil)))) (tt := tYes) rfl nd (pi_tup (pe_own D_columns_of hr (pa_cons (pv 0) (pa_cons (pv 1) pa_nil)))) (blkOk_by (N := N_column_names) (sc := defScope s_column_names) (by decide +kernel)) (fun _ _ _ _ _ => (pg_tup rfl (pgs_cons (pg_name (i := 2) nd rfl (Or.inl rfl)) (pgs_cons (pg_name (i := 3) nd rfl (Or.inl rfl)) pgs_nil)))) (fun _ _ _ _ _ => pts_nil) (fun _ _ _ _ _ => (pv 2))))), ?_⟩
  refine ⟨.ref tp, rfl, .str t, rfl, tp, ts, t, rfl, hT, ht, fun pc ys hS hA => ⟨pc, rfl, ⟨_, hS⟩, fun D nD => ?_⟩⟩
  have l : ys.length = (cns ts t).length := by rw [dpAll_len hA, List.length_map, List.length_map]
  have l8 : (cns ts t).length ≤ 5 := by
    obtain ⟨x, hx, _, e⟩ := tab_of hT.ok.nd ht
    unfold cns
    rw [e, List.length_map]
    exact (hT.ok.cs x hx).1.top
  refine lc_it walk_tup (PvM H D fun i => .str ((cns ts t).getD i Str.empty)) (pvm_start ..) (fun i H2 _ hP => sameT (pvm_same hP nD) hS) (fun i x H2 H3 hi hP hY => ?_) (fun H2 hP => ?_)
  · obtain ⟨rfl, hx⟩ := hY
    have sm := pvm_same hP nD
    obtain ⟨co, qc, yc, hco, rfl, hqc⟩ := col_at hA hx
    refine ⟨qc, _, rfl, sameT sm hqc, rfl, .str co.1, _, rfl, yc, _, rfl, rfl, ?_⟩
    refine ⟨rfl, ?_⟩
    unfold tYes
    dsimp only
    refine iteT ?_
    refine ⟨.str co.1, rfl, pvm_step hP (Same.refl _) ?_ (by omega)⟩
    show V.str co.1 = .str ((cns ts t).getD i Str.empty)
    rw [getD_of (show (cns ts t)[i]? = some co.1 by rw [List.getElem?_map, hco]; rfl)]
  · refine q D H2 (pvm_same hP nD) ?_
    rw [hP.1, l]
    have e := range_map (fun z => V.str z) Str.empty (cns ts t)
    rw [e]
end
end TT

set_option Elab.async false
set_option linter.all false
set_option maxRecDepth 100000
namespace TT
open PySem PySem.Spec PyProof.Rows L2
/-! ### deeds as plain data -/
inductive Deed
  | put (t : Str) (r : Rw)
  | drop (t : Str) (k : Int)
  | sweep (t col : Str) (o : Option Int)
  | shift (t col : Str) (b : Int)
  | set (t : Str) (k : Int) (col : Str) (o : Option Int)
def deedD : Deed → PyData
  | .put t r => .tuple [.str "put", .str t, rowD r]
  | .drop t k => .tuple [.str "drop", .str t, .int k]
  | .sweep t col o => .tuple [.str "sweep", .str t, .str col, wD o]
  | .shift t col b => .tuple [.str "shift", .str t, .str col, .int b]
  | .set t k col o => .tuple [.str "set", .str t, .int k, .str col, wD o]
abbrev BOk (i : Int) : Prop := -1000000000 ≤ i ∧ i ≤ 1000000000
def DeedOk (ts : List Tab) : Deed → Prop
  | .put t r => t ∈ tns ts ∧ RwOk (cns ts t).length r
  | .drop t k => t ∈ tns ts ∧ BOk k
  | .sweep t col o => t ∈ tns ts ∧ col ∈ cns ts t ∧ WOk o
  | .shift t col b => t ∈ tns ts ∧ col ∈ cns ts t ∧ BOk b
  | .set t k col o => t ∈ tns ts ∧ BOk k ∧ col ∈ cns ts t ∧ WOk o ∧ ((cns ts t).head? = some col → o ≠ none)
theorem dpAll_ws {K : PySem.W.Frag} {H : Hp} : ∀ {r : Rw} {us : List V}, DpAll K H us (r.map wD) → us = r.map wV
  | [], _, .nil => rfl
  | none :: r, _, .cons h t => by cases h; rw [dpAll_ws t]; rfl
  | some i :: r, _, .cons h t => by cases h; rw [dpAll_ws t]; rfl
theorem row_dp {K : PySem.W.Frag} {H : Hp} {v : V} {r : Rw} (h : Dp K H v (rowD r)) : ∃ p, v = .ref p ∧ SqT K H p (r.map wV) := by
  cases h with
  | tup h1 h2 =>
    have := dpAll_ws h2
    subst this
    exact ⟨_, rfl, h1⟩
theorem rows_dp {K : PySem.W.Frag} {H : Hp} {v : V} {rs : List Rw} (h : Dp K H v (rowsD rs)) : ∃ p xs, v = .ref p ∧ SqL K H p xs ∧ DpAll K H xs (rs.map rowD) ∧ xs.length = rs.length := by
  cases h with
  | lst h1 h2 => exact ⟨_, _, rfl, h1, h2, by rw [dpAll_len h2, List.length_map]⟩
theorem cont_dp {K : PySem.W.Frag} {H : Hp} {v : V} {ct : List (List Rw)} (h : Dp K H v (contD ct)) : ∃ p xs, v = .ref p ∧ SqL K H p xs ∧ DpAll K H xs (ct.map rowsD) ∧ xs.length = ct.length := by
  cases h with
  | lst h1 h2 => exact ⟨_, _, rfl, h1, h2, by rw [dpAll_len h2, List.length_map]⟩
theorem cont_at {K : PySem.W.Frag} {H : Hp} {xs : List V} {ct : List (List Rw)} {i : Nat} {x : V} (h : DpAll K H xs (ct.map rowsD)) (hx : xs[i]? = some x) : ∃ rs, ct[i]? = some rs ∧ Dp K H x (rowsD rs) := by
  obtain ⟨d, h1, h2⟩ := dpAll_get i h hx
  rw [List.getElem?_map] at h1
  obtain ⟨rs, hr, rfl⟩ := Option.map_eq_some_iff.mp h1
  exact ⟨rs, hr, h2⟩
theorem row_at' {K : PySem.W.Frag} {H : Hp} {xs : List V} {rs : List Rw} {i : Nat} {x : V} (h : DpAll K H xs (rs.map rowD)) (hx : xs[i]? = some x) : ∃ r p, rs[i]? = some r ∧ x = .ref p ∧ SqT K H p (r.map wV) := by
  obtain ⟨d, h1, h2⟩ := dpAll_get i h hx
  rw [List.getElem?_map] at h1
  obtain ⟨r, hr, rfl⟩ := Option.map_eq_some_iff.mp h1
  obtain ⟨p, e, hp⟩ := row_dp h2
  exact ⟨r, p, hr, e, hp⟩
theorem out2 {H : Hp} {s c p : Addr} {T : Nat} (S : StAt H s c T) (n : H p = none) : p ∉ [s, c] := (mask0 S).new n
theorem fr {H H' : Hp} {s c p : Addr} {T : Nat} (K : Kept [s, c] H H') (S : StAt H' s c T) (n : H' p = none) : H p = none := K.fresh n (by
  intro q hq
  simp only [List.mem_cons, List.not_mem_nil, or_false] at hq
  rcases hq with rfl | rfl
  · exact S.nes n
  · exact S.nec n)
theorem outX {H : Hp} {s c p : Addr} {T : Nat} {xs : List V} (S : StAt H s c T) (e : H p = some (.tup xs)) : p ∉ [s, c] := by
  intro z
  simp only [List.mem_cons, List.not_mem_nil, or_false] at z
  rcases z with rfl | rfl
  · obtain ⟨t, _, e'⟩ := S.ex
    rw [e] at e'; cases e'
  · obtain ⟨ns, _, _, e'⟩ := S.cs
    rw [e] at e'; cases e'
end TT

set_option Elab.async false
set_option linter.all false
set_option maxRecDepth 100000
namespace TT
open PySem PySem.Spec PyProof.Rows L2
/-! ### contents and deeds as they are handed in: lists or tuples -/
def handD (o i r : Bool) (ct : List (List Rw)) : PyData := seqD o (ct.map fun rs => seqD i (rs.map fun row => seqD r (row.map wD)))
def deedF (b : Bool) : Deed → PyData
  | .put t r => seqD b [.str "put", .str t, seqD b (r.map wD)]
  | .drop t k => seqD b [.str "drop", .str t, .int k]
  | .sweep t col o => seqD b [.str "sweep", .str t, .str col, wD o]
  | .shift t col y => seqD b [.str "shift", .str t, .str col, .int y]
  | .set t k col o => seqD b [.str "set", .str t, .int k, .str col, wD o]
def tabOf : Deed → Str
  | .put t _ => t
  | .drop t _ => t
  | .sweep t _ _ => t
  | .shift t _ _ => t
  | .set t _ _ _ => t
def wordOf : Deed → Str
  | .put _ _ => "put"
  | .drop _ _ => "drop"
  | .sweep _ _ _ => "sweep"
  | .shift _ _ _ => "shift"
  | .set _ _ _ _ => "set"
theorem eqv_w (a b : Option Int) : PyData.eqv (wD a) (wD b) = decide (a = b) := by
  cases a <;> cases b
  · exact (decide_eq_true rfl).symm
  · exact (decide_eq_false (fun z => nomatch z)).symm
  · exact (decide_eq_false (fun z => nomatch z)).symm
  · rename_i x y
    show (x == y) = decide (some x = some y)
    by_cases h : x = y
    · rw [decide_eq_true (congrArg some h), h]; exact beq_self_eq_true y
    · rw [decide_eq_false (fun z => h (Option.some.inj z))]; exact beq_eq_false_iff_ne.mpr h
theorem shaped_w (a : Option Int) : SeqAt.shaped (wD a) = true := by cases a <;> rfl
/-- the rows that are handed in, of one table -/
theorem hand_at {K : PySem.W.Frag} {H : Hp} {v : V} {o i r : Bool} {ct : List (List Rw)} (h : Dp K H v (handD o i r ct)) {j : Nat} {rs : List Rw} (hj : ct[j]? = some rs) :
    ∃ p xs q ys, v = .ref p ∧ SqB o K H p xs ∧ xs[j]? = some (.ref q) ∧ SqB i K H q ys ∧ ys.length = rs.length ∧ ∀ (m : Nat) (y : V), ys[m]? = some y → ∃ row rp, rs[m]? = some row ∧ y = .ref rp ∧ SqB r K H rp (row.map wV) := by
  obtain ⟨p, xs, rfl, h1, h2⟩ := seq_dp h
  obtain ⟨x, hx, hd⟩ := dpAll_at (i := j) (d := seqD i (rs.map fun row => seqD r (row.map wD))) h2 (by rw [List.getElem?_map, hj]; rfl)
  obtain ⟨q, ys, rfl, h3, h4⟩ := seq_dp hd
  refine ⟨p, xs, q, ys, rfl, h1, hx, h3, by rw [dpAll_len h4, List.length_map], fun m y hy => ?_⟩
  obtain ⟨d, h5, h6⟩ := dpAll_get m h4 hy
  rw [List.getElem?_map] at h5
  obtain ⟨row, hr, rfl⟩ := Option.map_eq_some_iff.mp h5
  obtain ⟨rp, us, rfl, h7, h8⟩ := seq_dp h6
  have := dpAll_ws h8
  subst this
  exact ⟨row, rp, hr, rfl, h7⟩
/-! ### what a deed does by itself -/
inductive OwnR
  | told (g c r : List PyData)
  | norow (t : Str) (k : Int)
  | taken (t : Str) (k : Int)
def cellAt (zs : List Str) (col : Str) (r : Rw) : Option Int := r.getD (zs.idxOf col) none
def own (zs : List Str) (rs : List Rw) : Deed → OwnR
  | .put t r => if keyW r ∈ rs.map keyW then .taken t (keyW r) else .told [] [] [.tuple [.str t, rowD r]]
  | .drop t k => if k ∈ rs.map keyW then .told [.tuple [.str t, .int k]] [] [] else .norow t k
  | .set t k col o => if k ∈ rs.map keyW then .told [] ((rs.filter fun r => decide (keyW r = k) && !decide (cellAt zs col r = o)).map fun r => .tuple [.str t, .int k, .str col, wD o]) [] else .norow t k
  | .sweep t col o => .told ((rs.filter fun r => decide (cellAt zs col r = o)).map fun r => .tuple [.str t, .int (keyW r)]) [] []
  | .shift t col b => .told [] (if b = 0 then [] else (rs.filter fun r => !decide (cellAt zs col r = none)).map fun r => .tuple [.str t, .int (keyW r), .str col, wD ((cellAt zs col r).map (· + b))]) []
theorem key_one {n : Nat} {rs : List Rw} (h : RwsOk n rs) {i j : Nat} {a b : Rw} (hi : rs[i]? = some a) (hj : rs[j]? = some b) (e : keyW a = keyW b) : i = j := by
  have nd : (rs.map keyW).Nodup := by
    rw [List.nodup_iff_pairwise_ne]
    exact h.up.imp fun h => by omega
  have li := (List.getElem?_eq_some_iff.mp hi).1
  refine (List.getElem?_inj (by rw [List.length_map]; exact li) nd).mp ?_
  rw [List.getElem?_map, List.getElem?_map, hi, hj]
  exact congrArg some e
section
variable {P : Program} {w : World} {K : PySem.W.Frag} {mg : Str → Option Value} {base : Heap}
theorem eqV_str (a b : Str) : eqV (.str a) (.str b) = decide (a = b) := by
  show (a == b) = _
  by_cases h : a = b
  · rw [h, decide_eq_true rfl]; simp
  · rw [decide_eq_false h]; simp [h]
/-- list.index of a text that is there -/
theorem ix_strs {K : PySem.W.Frag} {H : Hp} {D : Addr} {zs : List Str} {c : Str} {Q : VK} (eD : H D = some (.lst (zs.map V.str))) (hm : c ∈ zs) (q : Q (.int (zs.idxOf c : Nat)) H) : rIndex K (.ref D) [.str c] H Q := by
  have hj : zs.idxOf c < zs.length := List.idxOf_lt_length_of_mem hm
  have hg : zs[zs.idxOf c]? = some c := by rw [List.getElem?_eq_getElem hj, List.getElem_idxOf]
  refine ⟨D, _, .str c, zs.idxOf c, .str c, rfl, rfl, .inl (.inl eD), rfl, flat_strs _, by rw [List.getElem?_map, hg]; rfl, by rw [eqV_str]; exact decide_eq_true rfl, fun m z' hm' hz => ?_, q⟩
  rw [List.getElem?_map] at hz
  obtain ⟨y, hy, rfl⟩ := Option.map_eq_some_iff.mp hz
  rw [eqV_str]
  refine decide_eq_false fun e => ?_
  have hl := (List.getElem?_eq_some_iff.mp hy)
  have := List.not_of_lt_findIdx (xs := zs) (p := (· == c)) (i := m) hm'
  rw [hl.2] at this
  simp [e] at this
def spColPlace (K : PySem.W.Frag) : Sp := fun vs H Q _ => ∃ (tp : Addr) (ts : List Tab) (t c : Str), vs = [.ref tp, .str t, .str c] ∧ Tabs K H tp ts ∧ t ∈ tns ts ∧ c ∈ cns ts t ∧ ∀ H', Same H H' → Q (.int ((cns ts t).idxOf c : Nat)) H'
abbrev s_column_place : Stmt := topS 3
abbrev N_column_place : List Str := ["tables", "table", "column", "names"]
theorem sc_column_place : FnScope N_column_place ["tables", "table", "column"] (defScope s_column_place) := ⟨rfl, rfl, rfl, by decide +kernel, rfl, by decide +kernel, by decide +kernel⟩

theorem ok_column_place {f : Addr} {fd : FuncData} (F : Fun K "column_place" "column_place" s_column_place f fd) (D_column_names : Def P w K mg base 2 "column_names" ["tables", "table"] (spColNames K)) : FnOk P w K mg base CX0 3 f fd ["tables", "table", "column"] (spColPlace K) := by
  refine F.ok sc_column_place (fun vs H Q E h => ?_) (fun cdv A outer sh H vs Q E hr h => ?_)
  · obtain ⟨tp, ts, t, c, rfl, _⟩ := h
    rfl
  obtain ⟨tp, ts, t, c, rfl, hT, ht, hc, q⟩ := h
  have nd := sc_column_place.nd
  refine ⟨_, (pss_cons (ps_set (i := 3) nd rfl (Or.inl rfl) (pe_own D_column_names hr (pa_cons (pv 0) (pa_cons (pv 1) pa_nil))))
      (pss_cons (ps_if (pt_cmpR op_notIn_seq (pv 2) (pv 3) (by rfl))
        (pss_one ps_nv)
        pss_nil)
      (pss_one (ps_ret (pe_bm PySem.F.plainAttrs_list PySem.F.slot_list_index PySem.F.type_list_index mt_index (pv 3) (pa_cons (pv 2) pa_nil)))))), ?_⟩
  refine ⟨.ref tp, rfl, .str t, rfl, tp, ts, t, rfl, hT, ht, fun D H1 s1 eD => ?_⟩
  refine ⟨.str c, rfl, .ref D, rfl, D, _, rfl, .inl (.inl (.inl eD)), rfl, flat_strs _, _, rfl, ?_⟩
  rw [if_pos rfl, inV_strs, decide_eq_true hc]
  refine iteF ?_
  exact ⟨.ref D, rfl, .inl ⟨rfl, _, .inl (.inl eD)⟩, .str c, rfl, ix_strs eD hc (q H1 s1)⟩
def spTabPlace (K : PySem.W.Frag) : Sp := fun vs H Q _ => ∃ (tp : Addr) (ts : List Tab) (t : Str), vs = [.ref tp, .str t] ∧ Tabs K H tp ts ∧ t ∈ tns ts ∧ ∀ H', Same H H' → Q (.int ((tns ts).idxOf t : Nat)) H'
abbrev s_table_place : Stmt := topS 5
abbrev N_table_place : List Str := ["tables", "table", "names"]
theorem sc_table_place : FnScope N_table_place ["tables", "table"] (defScope s_table_place) := ⟨rfl, rfl, rfl, by decide +kernel, rfl, by decide +kernel, by decide +kernel⟩

theorem ok_table_place {f : Addr} {fd : FuncData} (F : Fun K "table_place" "table_place" s_table_place f fd) (D_table_names : Def P w K mg base 1 "table_names" ["tables"] (spNamesOf K)) : FnOk P w K mg base CX0 2 f fd ["tables", "table"] (spTabPlace K) := by
  refine F.ok sc_table_place (fun vs H Q E h => ?_) (fun cdv A outer sh H vs Q E hr h => ?_)
  · obtain ⟨tp, ts, t, rfl, _⟩ := h
    rfl
  obtain ⟨tp, ts, t, rfl, hT, ht, q⟩ := h
  have nd := sc_table_place.nd
  refine ⟨_, (pss_cons (ps_set (i := 2) nd rfl (Or.inl rfl) (pe_own D_table_names hr (pa_cons (pv 0) pa_nil)))
      (pss_cons (ps_if (pt_cmpR op_notIn_seq (pv 1) (pv 2) (by rfl))
        (pss_one ps_nv)
        pss_nil)
      (pss_one (ps_ret (pe_bm PySem.F.plainAttrs_list PySem.F.slot_list_index PySem.F.type_list_index mt_index (pv 2) (pa_cons (pv 1) pa_nil)))))), ?_⟩
  obtain ⟨ws, hTS, hTA, lw⟩ := hT.parts
  refine ⟨.ref tp, rfl, tp, ws, ts.map tabD, rfl, hTS, hTA, by rw [List.length_map]; have := hT.l8; omega, strName_tabs ts, fun D H1 s1 eD => ?_⟩
  rw [namesOf_tabs] at eD
  refine ⟨.str t, rfl, .ref D, rfl, D, _, rfl, .inl (.inl (.inl eD)), rfl, flat_strs _, _, rfl, ?_⟩
  rw [if_pos rfl, inV_strs, decide_eq_true ht]
  refine iteF ?_
  exact ⟨.ref D, rfl, .inl ⟨rfl, _, .inl (.inl eD)⟩, .str t, rfl, ix_strs eD ht (q H1 s1)⟩
/-- a table of the tables, and its rows -/
structure At (ts : List Tab) (ct : List (List Rw)) (t : Str) (rs : List Rw) : Prop where
  mem : t ∈ tns ts
  row : ct[(tns ts).idxOf t]? = some rs
  ok : RwsOk (cns ts t).length rs
  few : rs.length ≤ 900
def spRowsOf (K : PySem.W.Frag) : Sp := fun vs H Q _ => ∃ (tp : Addr) (ts : List Tab) (v : V) (o i r : Bool) (ct : List (List Rw)) (t : Str) (rs : List Rw), vs = [.ref tp, v, .str t] ∧ Tabs K H tp ts ∧ Dp K H v (handD o i r ct) ∧ At ts ct t rs ∧
  ∀ (D : Addr) (us : List V) (H' : Hp), Same H H' → H D = none → H' D = some (.lst us) → DpAll K (msk [D] H') us (rs.map rowD) → Q (.ref D) H'
abbrev s_rows_of : Stmt := topS 9
abbrev N_rows_of : List Str := ["tables", "content", "table", "row"]
theorem sc_rows_of : FnScope N_rows_of ["tables", "content", "table"] (defScope s_rows_of) := ⟨rfl, rfl, rfl, by decide +kernel, rfl, by decide +kernel, by decide +kernel⟩

theorem ok_rows_of {f : Addr} {fd : FuncData} (F : Fun K "rows_of" "rows_of" s_rows_of f fd) (nb : NB mg) (D_table_place : Def P w K mg base 2 "table_place" ["tables", "table"] (spTabPlace K)) : FnOk P w K mg base CX0 3 f fd ["tables", "content", "table"] (spRowsOf K) := by
  refine F.ok sc_rows_of (fun vs H Q E h => ?_) (fun cdv A outer sh H vs Q E hr h => ?_)
  · obtain ⟨tp, ts, v, o, i, r, ct, t, rs, rfl, _⟩ := h
    rfl
  obtain ⟨tp, ts, v, o, i, r, ct, t, rs, rfl, hT, hd, hA, yes⟩ := h
  have nd := sc_rows_of.nd
  refine ⟨_, (pss_one (ps_ret (pe_lc (own := [("row", 3)]) (g := (gName 3)) (tt := tYes) rfl nd (pi_seqB (pe_ix ix_seq (pv 1) (pe_own D_table_place hr (pa_cons (pv 0) (pa_cons (pv 2) pa_nil))) (fun _ _ => rfl))) (blkOk_by (N := N_rows_of) (sc := defScope s_rows_of) (by decide +kernel)) (fun _ _ _ _ _ => (pg_name (i := 3) nd rfl (Or.inl rfl))) (fun _ _ _ _ _ => pts_nil) (fun _ _ _ _ _ => (pe_callTy (T := "tuple") (r := rTupQ K) call_tuple_of (by rfl) nb.b_tuple (by decide +kernel) (pa_cons (pv 3) pa_nil)))))), ?_⟩
  obtain ⟨p, xs, q, ys, rfl, h1, h2, h3, h4, h5⟩ := hand_at hd hA.row
  have few := hA.few
  refine ⟨.ref p, rfl, .ref tp, rfl, .str t, rfl, tp, ts, t, rfl, hT, hA.mem, fun H1 s1 => ixB (h1.same s1) h2 ⟨i, q, rfl, ⟨_, h3.same s1⟩, fun D nD => ?_⟩⟩
  refine lc_it (walk_seqB (b := i) (xs := ys)) (fun m H' => ∃ us, Grow K [] H' D us ((rs.take m).map rowD) ∧ Kept [D] H1 H') ⟨[], by rw [List.take_zero]; exact .start, Kept.upd_new nD⟩ (fun m H' _ hP => ?_) (fun m x H' H'' hm hP hY => ?_) (fun H2 hP => ?_)
  · obtain ⟨us, _, kk⟩ := hP
    exact (h3.same s1).same (fun b o e => kk b o e fun z => by rw [List.mem_singleton.mp z, nD] at e; cases e)
  · obtain ⟨rfl, hx⟩ := hY
    obtain ⟨us, g, kk⟩ := hP
    obtain ⟨row, rp, hr1, rfl, hr2⟩ := h5 m x hx
    have sk : Same H1 H'' := fun b o e => kk b o e fun z => by rw [List.mem_singleton.mp z, nD] at e; cases e
    have lu : us.length = m := by
      rw [g.len, List.length_map, List.length_take]
      have := (List.getElem?_eq_some_iff.mp hr1).1
      omega
    have et : (rs.take (m + 1)).map rowD = (rs.take m).map rowD ++ [rowD row] := by
      rw [List.take_add_one, hr1, List.map_append]; rfl
    refine ⟨rfl, ?_⟩
    unfold tYes
    dsimp only
    refine iteT ?_
    have hr3 := (hr2.same s1).same sk
    refine ⟨.ref rp, rfl, rp, row.map wV, rfl, ?_⟩
    cases r
    · refine .inl ⟨hr3, fun l nl => ?_⟩
      have nDl : D ≠ l := ne_of_none g.at' nl
      have g2 := g.kept (Kept.upd_new (o := .tup (row.map wV)) nl) List.not_mem_nil
      refine ⟨us, g2.at', by rw [lu]; exact small1000 (by omega), us ++ [.ref l], ?_, kk.trans ((Kept.upd_new nl).trans (Kept.upd_in (List.mem_cons_self ..)))⟩
      rw [et]
      exact g2.put (.tup (.inl (.inl (msk_at upd_same (by simp [nDl.symm])))) (dp_ws row))
    · refine .inr ⟨hr3, ?_⟩
      refine ⟨us, g.at', by rw [lu]; exact small1000 (by omega), us ++ [.ref rp], ?_, kk.trans (Kept.upd_in (List.mem_cons_self ..))⟩
      rw [et]
      have hm1 : Same H1 (msk [D] H'') := fun b o e => by
        refine msk_at (sk b o e) fun z => ?_
        rw [List.mem_singleton.mp z, nD] at e; cases e
      exact g.put (.tup (sameT hm1 (show SqT K H1 rp (row.map wV) from hr2.same s1)) (dp_ws row))
  · obtain ⟨us, g, kk⟩ := hP
    have sk : Same H1 H2 := fun b o e => kk b o e fun z => by rw [List.mem_singleton.mp z, nD] at e; cases e
    rw [h4, List.take_length] at g
    exact yes D us H2 (s1.trans sk) (Same.free s1 nD) g.at' g.dp
end
end TT

set_option Elab.async false
set_option linter.all false
set_option maxRecDepth 100000
namespace TT
open PySem PySem.Spec PyProof.Rows L2
/-! ### a box's ties -/
theorem splitR1 {A R : TS} {D : Ends} {σ0 : L2.St} {H0 : Hp} (Pp : V → V → Hp → Prop) (st : V → V → L2.St) (rest : ∀ v u H, Pp v u H → R D (st v u) H) (main : (∀ v u H, Pp v u H → R D (st v u) H) → tSeq A R D σ0 H0) : tSeq A R D σ0 H0 := main rest
def waysL : List Str := ["bar", "carry", "empty", "fallback", "look", "carry"]
def waysK : List Str := ["bar", "carry", "look"]
def lates : List Str := ["once", "end"]
structure TieOk (ts : List Tab) (zs : List Str) : Prop where
  ex : ∃ n t c o g u l, zs = [n, t, c, o, g, u, l] ∧ NameOk n ∧ t ∈ tns ts ∧ c ∈ cns ts t ∧ o ∈ tns ts ∧ g ∈ waysL ∧ u ∈ waysL ∧ l ∈ lates
def tieD (zs : List Str) : PyData := .tuple (zs.map PyData.str)
theorem atI_strs {zs : List Str} {d : Int} (h0 : 0 ≤ d) (h1 : d < zs.length) : ∃ z ∈ zs, atI (zs.map V.str) d = some (.str z) := by
  obtain ⟨j, rfl⟩ : ∃ j : Nat, d = (j : Int) := ⟨d.toNat, by omega⟩
  have hj : j < zs.length := by omega
  exact ⟨zs[j], List.getElem_mem _, atI_nat (by rw [List.getElem?_map, List.getElem?_eq_getElem hj]; rfl)⟩
theorem waysK_sub : ∀ z ∈ waysK, z ∈ waysL := by decide +kernel
section
variable {P : Program} {w : World} {K : PySem.W.Frag} {mg : Str → Option Value} {base : Heap}
def spTiesB (K : PySem.W.Frag) : Sp := fun vs H Q _ => ∃ (b tp : Addr) (T m : Nat) (ts : List Tab), vs = [.ref b, .ref tp, .int m] ∧ BoxAt H b T ∧ T + 300 ≤ 1000000 ∧ m ≤ 11 ∧ Tabs K (msk [b] H) tp ts ∧
  ∀ (p : Addr) (es : List (List Str)) (H' : Hp), es.length ≤ m → (∀ zs ∈ es, TieOk ts zs) → (es.map (·.headD Str.empty)).Nodup → H p = none → Dp K (msk [b] H') (.ref p) (.tuple (es.map tieD)) → BoxAt H' b (T + 300) → Kept [b] H H' → Q (.ref p) H'
abbrev s_law_ties : Stmt := topS 19
abbrev N_law_ties : List Str := ["box", "tables", "most", "found", "ways", "name", "table", "columns", "place", "gone", "turned", "other", "late"]
theorem sc_law_ties : FnScope N_law_ties ["box", "tables", "most"] (defScope s_law_ties) := ⟨rfl, rfl, rfl, by decide +kernel, rfl, by decide +kernel, by decide +kernel⟩

set_option maxHeartbeats 4000000 in
theorem ok_law_ties {f : Addr} {fd : FuncData} (F : Fun K "_law_ties" "_law_ties" s_law_ties f fd) (nb : NB mg) (D_law_take : Def P w K mg base 1 "_law_take" ["box", "many"] spTakeB)
    (D_law_names : Def P w K mg base 2 "_law_names" ["box", "many"] spNamesB) : FnOk P w K mg base CX0 3 f fd ["box", "tables", "most"] (spTiesB K) := by
  refine F.ok sc_law_ties (fun vs H Q E h => ?_) (fun cdv A outer sh H vs Q E hr h => ?_)
  · obtain ⟨b, tp, T, m, ts, rfl, _⟩ := h
    rfl
  obtain ⟨b, tp, T, m, ts, rfl, S, hT, hm, hTb, q⟩ := h
  have nd := sc_law_ties.nd
  refine ⟨_, (pss_cons (ps_par (i := 3) (j := 4) (by rfl) nd rfl rfl (by decide) rfl rfl (pa_cons (pe_lst pa_nil) (pa_cons (pe_lst (pa_cons pe_str (pa_cons pe_str (pa_cons pe_str (pa_cons pe_str (pa_cons pe_str (pa_cons pe_str pa_nil))))))) pa_nil)) (by rfl))
      (pss_cons (ps_for PassesOwn.never rfl (pi_list (pe_own D_law_names hr (pa_cons (pv 0) (pa_cons (pe_own D_law_take hr (pa_cons (pv 0) (pa_cons (pe_op op_add (pv 2) pe_int) pa_nil))) pa_nil)))) (pg_name (i := 5) nd rfl (Or.inl rfl))
        (pss_cons (ps_asg (pe_ix ix_tup (pv 1) (pe_own D_law_take hr (pa_cons (pv 0) (pa_cons (pe_callB call_len_seq (by rfl) nb.b_len (by decide +kernel) (pa_cons (pv 1) pa_nil)) pa_nil))) (fun _ _ => rfl)) (pg_tup rfl (pgs_cons (pg_name (i := 6) nd rfl (Or.inl rfl)) (pgs_cons (pg_name (i := 7) nd rfl (Or.inl rfl)) pgs_nil))))
        (pss_cons (ps_set (i := 8) nd rfl (Or.inl rfl) (pe_callB (call_max2 rfl) (by rfl) nb.b_max (by decide +kernel) (pa_cons pe_int (pa_cons (pe_callB (call_min2 rfl) (by rfl) nb.b_min (by decide +kernel) (pa_cons (pe_op op_sub (pe_callB call_len_seq (by rfl) nb.b_len (by decide +kernel) (pa_cons (pv 7) pa_nil)) pe_int) (pa_cons (pe_op op_sub (pe_own D_law_take hr (pa_cons (pv 0) (pa_cons pe_int pa_nil))) pe_int) pa_nil))) pa_nil))))
        (pss_cons (ps_par (i := 9) (j := 10) (by rfl) nd rfl rfl (by decide) rfl rfl (pa_cons (pe_ix ix_list (pv 4) (pe_own D_law_take hr (pa_cons (pv 0) (pa_cons pe_int pa_nil))) (fun _ _ => rfl)) (pa_cons (pe_ix ix_list (pv 4) (pe_own D_law_take hr (pa_cons (pv 0) (pa_cons pe_int pa_nil))) (fun _ _ => rfl)) pa_nil)) (by rfl))
        (pss_cons (ps_if (pt_cmpR op_eq (pv 8) pe_int (nomark _))
          (pss_one (ps_par (i := 9) (j := 10) (by rfl) nd rfl rfl (by decide) rfl rfl (pa_cons (pe_ix ix_list (pe_lst (pa_cons pe_str (pa_cons pe_str (pa_cons pe_str pa_nil)))) (pe_own D_law_take hr (pa_cons (pv 0) (pa_cons pe_int pa_nil))) (fun _ _ => rfl)) (pa_cons (pe_ix ix_list (pe_lst (pa_cons pe_str (pa_cons pe_str (pa_cons pe_str pa_nil)))) (pe_own D_law_take hr (pa_cons (pv 0) (pa_cons pe_int pa_nil))) (fun _ _ => rfl)) pa_nil)) (by rfl)))
          pss_nil)
        (pss_cons (ps_par (i := 11) (j := 12) (by rfl) nd rfl rfl (by decide) rfl rfl (pa_cons (pe_ix ix_seq (pe_ix ix_tup (pv 1) (pe_own D_law_take hr (pa_cons (pv 0) (pa_cons (pe_callB call_len_seq (by rfl) nb.b_len (by decide +kernel) (pa_cons (pv 1) pa_nil)) pa_nil))) (fun _ _ => rfl)) pe_int (fun _ _ => rfl)) (pa_cons (pe_ix ix_list (pe_lst (pa_cons pe_str (pa_cons pe_str pa_nil))) (pe_own D_law_take hr (pa_cons (pv 0) (pa_cons pe_int pa_nil))) (fun _ _ => rfl)) pa_nil)) (by rfl))
        (pss_one (ps_expr (pe_bm PySem.F.plainAttrs_list PySem.F.slot_list_append PySem.F.type_list_append mt_append (pv 3) (pa_cons (pe_tup (pa_cons (pv 5) (pa_cons (pv 6) (pa_cons (pe_ix ix_seq (pe_ix ix_tup (pv 7) (pv 8) (fun _ _ => rfl)) pe_int (fun _ _ => rfl)) (pa_cons (pv 11) (pa_cons (pv 9) (pa_cons (pv 10) (pa_cons (pv 12) pa_nil)))))))) pa_nil))))))))))
      (pss_one (ps_ret (pe_callTy call_tuple_of (by rfl) nb.b_tuple (by decide +kernel) (pa_cons (pv 3) pa_nil)))))), ?_⟩
  have l0 := hTb.l0
  have l8 := hTb.l8
  have okt := hTb.ok
  obtain ⟨ws, hWS, hWA, lw⟩ := hTb.parts
  refine ⟨Nat.zero_le _, fun F1 n1 => ⟨(by show 6 ≤ sizeLine; decide), fun W nW => ⟨_, _, rfl, ?_⟩⟩⟩
  have oF := S.out n1
  have nFW : F1 ≠ W := ne_of_none upd_same nW
  have S1 := (S.same (same_upd (o := .lst []) n1)).same (same_upd (o := .lst (waysL.map V.str)) nW)
  have oW := (S.same (same_upd (o := .lst []) n1)).out nW
  have eW : (upd (upd H F1 (.lst [])) W (.lst (waysL.map V.str))) W = some (.lst (waysL.map V.str)) := upd_same
  have eF : (upd (upd H F1 (.lst [])) W (.lst (waysL.map V.str))) F1 = some (.lst []) := by rw [upd_ne nFW]; exact upd_same
  have K1 : Kept [b] H (upd (upd H F1 (.lst [])) W (.lst (waysL.map V.str))) := (Kept.upd_new n1).trans (Kept.upd_new nW)
  show tSeq _ _ _ _ (upd (upd H F1 (.lst [])) W (.lst (waysL.map V.str)))
  generalize upd (upd H F1 (.lst [])) W (.lst (waysL.map V.str)) = H1 at S1 eW eF K1 ⊢
  refine ⟨.ref b, rfl, .ref b, rfl, .int m, rfl, _, _, rfl, rfl, b, T, _, rfl, S1, by omega, by omega, by omega, fun d H2 d0 d1 S2 K2 => ?_⟩
  obtain ⟨mm, rfl⟩ : ∃ mm : Nat, d = (mm : Int) := ⟨d.toNat, by omega⟩
  refine ⟨b, _, mm, rfl, S2, by omega, by omega, fun pn zs H3 lzs ndzs okzs fzs eZs S3 K3 => ?_⟩
  have k13 := K2.trans K3
  have oPn := S2.out fzs
  have nFp : F1 ≠ pn := ne_of_none (K2.at eF oF) fzs
  refine ⟨pn, rfl, ⟨_, .inl (.inl eZs)⟩, ?_⟩
  refine for_it (walk_list (xs := zs.map V.str)) (fun i σ H' => (∃ y5 y6 y7 y8 y9 y10 y11 y12, σ = [some (.ref b), some (.ref tp), some (.int m), some (.ref F1), some (.ref W), y5, y6, y7, y8, y9, y10, y11, y12]) ∧ (∃ us es, Grow K [b] H' F1 us (es.map tieD) ∧ es.map (·.headD Str.empty) = zs.take i ∧ ∀ x ∈ es, TieOk ts x) ∧
      BoxAt H' b (T + 21 + i * 8) ∧ H' W = some (.lst (waysL.map V.str)) ∧ H' pn = some (.lst (zs.map V.str)) ∧ Kept [F1, b] H1 H') ⟨⟨_, _, _, _, _, _, _, _, rfl⟩, ⟨[], [], ⟨k13.at eF oF, .nil⟩, rfl, fun _ h => absurd h List.not_mem_nil⟩, S3.mono (by omega), k13.at eW oW, eZs, k13.mono fun p h => List.mem_cons_of_mem _ h⟩ (fun i σ H' _ hP => .inl (.inl hP.2.2.2.2.1)) (fun i x σ H' H5 hi hP hY => ?_) (fun σ H5 hP => ?_)
  · obtain ⟨rfl, hx⟩ := hY
    obtain ⟨⟨y5, y6, y7, y8, y9, y10, y11, y12, rfl⟩, ⟨us, es, gr, hen, hes⟩, S5, eW5, eZ5, K05⟩ := hP
    have hi' : i < mm := by rw [List.length_map, lzs] at hi; exact hi
    rw [List.getElem?_map] at hx
    obtain ⟨z, hz, rfl⟩ := Option.map_eq_some_iff.mp hx
    have K5 : Kept [b] H H5 := by
      have k1 : Kept (F1 :: [b]) H H5 := (K1.mono fun p h => List.mem_cons_of_mem _ h).trans K05
      exact k1.new n1
    have T5 := hTb.same (msk_same K5)
    have m5 : Same (msk [b] H) H5 := (msk_same K5).trans (msk_sub _ _)
    -- table, columns
    refine ⟨.ref tp, rfl, .ref b, rfl, .ref tp, rfl, tp, ws, rfl, .inr (sameT m5 hWS), b, _, _, rfl, S5, by omega, by omega, by omega, fun d1 H6 d10 d11 S6 K6 => ?_⟩
    obtain ⟨j1, rfl⟩ : ∃ j : Nat, d1 = (j : Int) := ⟨d1.toNat, by omega⟩
    obtain ⟨x1, hx1⟩ : ∃ x, ws[j1]? = some x := ⟨_, List.getElem?_eq_getElem (by omega)⟩
    obtain ⟨tb, qq, pc, ys, htb, rfl, h1, h2, h3⟩ := tab_at hWA hx1
    have htm := List.mem_of_getElem? htb
    have lys : ys.length = tb.2.length := by rw [dpAll_len h3, List.length_map]
    have lc0 := (okt.cs tb htm).2
    have lc5 := (okt.cs tb htm).1.top
    have m6 : Same (msk [b] H) H6 := (msk_same (K5.trans K6)).trans (msk_sub _ _)
    refine ⟨tp, ws, j1, .ref qq, rfl, rfl, sameT m6 hWS, atI_nat hx1, qq, _, rfl, sameT m6 h1, rfl, .str tb.1, _, rfl, .ref pc, _, rfl, rfl, ?_⟩
    -- place
    refine ⟨.ref pc, rfl, pc, ys, rfl, .inr (sameT m6 h2), _, _, rfl, rfl, .ref b, rfl, b, _, 6, rfl, S6, by omega, by decide, by decide, fun d2 H7 d20 d21 S7 K7 => ⟨_, _, rfl, rfl, _, _, rfl, _, _, rfl, ?_⟩⟩
    dsimp only
    obtain ⟨pl, hpl, hpe⟩ : ∃ pl : Nat, pl < ys.length ∧ (if (if d2 - 1 < (ys.length : Int) - 1 then d2 - 1 else (ys.length : Int) - 1) > 0 then (if d2 - 1 < (ys.length : Int) - 1 then d2 - 1 else (ys.length : Int) - 1) else 0) = (pl : Int) := by
      refine ⟨(if (if d2 - 1 < (ys.length : Int) - 1 then d2 - 1 else (ys.length : Int) - 1) > 0 then (if d2 - 1 < (ys.length : Int) - 1 then d2 - 1 else (ys.length : Int) - 1) else 0).toNat, ?_, ?_⟩
      · split <;> split <;> omega
      · split <;> split <;> omega
    rw [hpe]
    -- gone, turned
    have K57 : Kept [b] H5 H7 := K6.trans K7
    refine ⟨.ref W, rfl, .ref b, rfl, b, _, 6, rfl, S7, by omega, by decide, by decide, fun d3 H8 d30 d31 S8 K8 => ?_⟩
    have eW8 := (K57.trans K8).at eW5 oW
    obtain ⟨g0, hg0, ag0⟩ := atI_strs (zs := waysL) d30 (show d3 < 6 from d31)
    refine ⟨W, _, _, _, rfl, rfl, .inl (.inl eW8), ag0, .ref W, rfl, .ref b, rfl, b, _, 6, rfl, S8, by omega, by decide, by decide, fun d4 H9 d40 d41 S9 K9 => ?_⟩
    have eW9 := K9.at eW8 oW
    obtain ⟨u0, hu0, au0⟩ := atI_strs (zs := waysL) d40 (show d4 < 6 from d41)
    refine ⟨W, _, _, _, rfl, rfl, .inl (.inl eW9), au0, _, _, rfl, ?_⟩
    have K59 : Kept [b] H5 H9 := K57.trans (K8.trans K9)
    dsimp only
    refine splitR1 (fun v u H' => (∃ g u', v = .str g ∧ u = .str u' ∧ g ∈ waysL ∧ u' ∈ waysL) ∧ BoxAt H' b (T + 21 + i * 8 + 6) ∧ Kept [b] H5 H') (fun v u => [some (.ref b), some (.ref tp), some (.int m), some (.ref F1), some (.ref W), some (.str z), some (.str tb.1), some (.ref pc), some (.int pl), some v, some u, y11, y12]) (fun v u H10 hP => ?_) (fun rest => ?_)
    rotate_left
    · refine ⟨.int pl, rfl, rfl, _, rfl, ite2 (fun _ => ?_) (fun _ => ?_)⟩
      · refine ⟨(by show 3 ≤ sizeLine; decide), fun L1 nL1 => ?_⟩
        have SL1 := S9.same (same_upd (o := .lst (waysK.map V.str)) nL1)
        have oL1 := S9.out nL1
        refine ⟨.ref b, rfl, b, _, 3, rfl, SL1, by omega, by decide, by decide, fun d5 Ha d50 d51 Sa Ka => ?_⟩
        have eL1 : Ha L1 = some (.lst (waysK.map V.str)) := Ka.at upd_same oL1
        obtain ⟨g1, hg1, ag1⟩ := atI_strs (zs := waysK) d50 (show d5 < 3 from d51)
        refine ⟨L1, _, _, _, rfl, rfl, .inl (.inl eL1), ag1, (by show 3 ≤ sizeLine; decide), fun L2 nL2 => ?_⟩
        have SL2 := Sa.same (same_upd (o := .lst (waysK.map V.str)) nL2)
        have oL2 := Sa.out nL2
        refine ⟨.ref b, rfl, b, _, 3, rfl, SL2, by omega, by decide, by decide, fun d6 Hb d60 d61 Sb Kb => ?_⟩
        have eL2 : Hb L2 = some (.lst (waysK.map V.str)) := Kb.at upd_same oL2
        obtain ⟨u1, hu1, au1⟩ := atI_strs (zs := waysK) d60 (show d6 < 3 from d61)
        refine ⟨L2, _, _, _, rfl, rfl, .inl (.inl eL2), au1, _, _, rfl, ?_⟩
        exact rest (.str g1) (.str u1) Hb ⟨⟨_, _, rfl, rfl, waysK_sub _ hg1, waysK_sub _ hu1⟩, Sb.mono (by omega), K59.trans ((Kept.upd_new nL1).trans (Ka.trans ((Kept.upd_new nL2).trans Kb)))⟩
      · exact rest (.str g0) (.str u0) H9 ⟨⟨_, _, rfl, rfl, hg0, hu0⟩, S9.mono (by omega), K59⟩
    · obtain ⟨⟨g, u, rfl, rfl, hg, hu⟩, S10, K10⟩ := hP
      have m10 : Same (msk [b] H) H10 := (msk_same (K5.trans K10)).trans (msk_sub _ _)
      refine ⟨.ref tp, rfl, .ref b, rfl, .ref tp, rfl, tp, ws, rfl, .inr (sameT m10 hWS), b, _, _, rfl, S10, by omega, by omega, by omega, fun d7 Ha d70 d71 Sa Ka => ?_⟩
      obtain ⟨j7, rfl⟩ : ∃ j : Nat, d7 = (j : Int) := ⟨d7.toNat, by omega⟩
      obtain ⟨x7, hx7⟩ : ∃ x, ws[j7]? = some x := ⟨_, List.getElem?_eq_getElem (by omega)⟩
      obtain ⟨tb7, q7, pc7, ys7, htb7, rfl, h71, _, _⟩ := tab_at hWA hx7
      have ma : Same (msk [b] H) Ha := (msk_same (K5.trans (K10.trans Ka))).trans (msk_sub _ _)
      refine ⟨tp, ws, j7, .ref q7, rfl, rfl, sameT ma hWS, atI_nat hx7, ?_⟩
      refine .inr (.inl ⟨q7, _, 0, .str tb7.1, rfl, rfl, sameT ma h71, atI_nat (j := 0) rfl, (by show 2 ≤ sizeLine; decide), fun L nL => ?_⟩)
      have SL := Sa.same (same_upd (o := .lst (lates.map V.str)) nL)
      have oL := Sa.out nL
      refine ⟨.ref b, rfl, b, _, 2, rfl, SL, by omega, by decide, by decide, fun d8 Hb d80 d81 Sb Kb => ?_⟩
      have eL : Hb L = some (.lst (lates.map V.str)) := Kb.at upd_same oL
      obtain ⟨l1, hl1, al1⟩ := atI_strs (zs := lates) d80 (show d8 < 2 from d81)
      refine ⟨L, _, _, _, rfl, rfl, .inl (.inl eL), al1, _, _, rfl, ?_⟩
      have K5b : Kept [b] H5 Hb := K10.trans (Ka.trans ((Kept.upd_new nL).trans Kb))
      have gb := gr.kept K5b oF
      have mb : Same (msk [b] H) Hb := (msk_same (K5.trans K5b)).trans (msk_sub _ _)
      obtain ⟨yc, hyc⟩ : ∃ y, ys[pl]? = some y := ⟨_, List.getElem?_eq_getElem hpl⟩
      obtain ⟨co, qc, yv, hco, rfl, hqc⟩ := col_at h3 hyc
      refine ⟨.ref F1, rfl, .inl ⟨rfl, _, .inl (.inl gb.at')⟩, .str z, rfl, .str tb.1, rfl, .ref pc, rfl, .int pl, rfl, pc, ys, pl, .ref qc, rfl, rfl, sameT mb h2, atI_nat hyc, ?_⟩
      refine .inr (.inl ⟨qc, _, 0, .str co.1, rfl, rfl, sameT mb hqc, atI_nat (j := 0) rfl, .str tb7.1, rfl, .str g, rfl, .str u, rfl, .str l1, rfl, (by show 7 ≤ sizeLine; decide), fun t nt => ?_⟩)
      have nFt : F1 ≠ t := ne_of_none gb.at' nt
      have nbt := Sb.ne nt
      have gt := gb.kept (Kept.upd_new (o := .tup [.str z, .str tb.1, .str co.1, .str tb7.1, .str g, .str u, .str l1]) nt) oF
      have put := gt.put (v := .ref t) (d := tieD [z, tb.1, co.1, tb7.1, g, u, l1]) (.tup (.inl (.inl (msk_at upd_same (by simp [nFt.symm, nbt.symm])))) (.cons (.str _) (.cons (.str _) (.cons (.str _) (.cons (.str _) (.cons (.str _) (.cons (.str _) (.cons (.str _) .nil))))))))
      have hlt : es.length = i := by
        have := congrArg List.length hen
        rw [List.length_map, List.length_take, lzs] at this
        omega
      have okt' : TieOk ts [z, tb.1, co.1, tb7.1, g, u, l1] := ⟨_, _, _, _, _, _, _, rfl, okzs z (List.mem_of_getElem? hz), List.mem_map.mpr ⟨tb, htm, rfl⟩, by
        show co.1 ∈ (colsOf ts tb.1).map _
        rw [colsOf_mem okt.nd htm]
        exact List.mem_map.mpr ⟨co, List.mem_of_getElem? hco, rfl⟩, List.mem_map.mpr ⟨tb7, List.mem_of_getElem? htb7, rfl⟩, hg, hu, hl1⟩
      have st := same_upd (o := .tup [.str z, .str tb.1, .str co.1, .str tb7.1, .str g, .str u, .str l1]) nt
      have nFW' : W ≠ F1 := nFW.symm
      refine ⟨F1, us, .ref t, rfl, rfl, gt.at', small1000 (by rw [gr.len, List.length_map, hlt]; omega), ⟨_, _, _, _, _, _, _, _, rfl⟩, ⟨_, es ++ [[z, tb.1, co.1, tb7.1, g, u, l1]], by rw [List.map_append]; exact put, ?_, ?_⟩, ?_, ?_, ?_, ?_⟩
      · rw [List.map_append, hen, List.take_add_one, hz]; rfl
      · intro y hy
        rcases List.mem_append.mp hy with h | h
        · exact hes y h
        · rw [List.mem_singleton.mp h]; exact okt'
      · exact ((Sb.same st).kept (Kept.upd_in (M := [F1]) (List.mem_cons_self ..)) (by simp; exact fun z => oF (by rw [← z]; exact List.mem_singleton.mpr rfl))).mono (by omega)
      · rw [upd_ne nFW']
        exact st _ _ (K5b.at eW5 oW)
      · rw [upd_ne nFp.symm]
        exact st _ _ (K5b.at eZ5 oPn)
      · exact K05.trans (((K5b.mono fun p h => List.mem_cons_of_mem _ h).trans (Kept.of_same st)).trans (Kept.upd_in (List.mem_cons_self ..)))
  · obtain ⟨⟨y5, y6, y7, y8, y9, y10, y11, y12, rfl⟩, ⟨us, es, gr, hen, hes⟩, S5, eW5, eZ5, K05⟩ := hP
    rw [List.length_map, List.take_length] at hen
    have K5 : Kept [b] H H5 := by
      have k1 : Kept (F1 :: [b]) H H5 := (K1.mono fun p h => List.mem_cons_of_mem _ h).trans K05
      exact k1.new n1
    refine ⟨.ref F1, rfl, F1, us, rfl, .inl ⟨.inl (.inl gr.at'), fun l nl => ?_⟩⟩
    have nFl : F1 ≠ l := ne_of_none gr.at' nl
    have sl := same_upd (o := .tup us) nl
    have les : es.length = mm := by rw [← List.length_map (as := es) (·.headD Str.empty), hen, lzs]
    refine q l es _ (by omega) hes (by rw [hen]; exact ndzs) (K5.fresh nl (by simp [S5.ne nl])) (.tup (.inl (.inl (msk_at upd_same (S5.out nl)))) ?_) ((S5.same sl).mono (by rw [List.length_map, lzs]; omega)) (K5.trans (Kept.upd_new nl))
    exact dpAll_same ((msk_less sub_push).trans (msk_same (Kept.of_same sl))) gr.dp
end
end TT

set_option Elab.async false
set_option linter.all false
set_option maxRecDepth 100000
namespace TT
open PySem PySem.Spec PyProof.Rows L2
theorem kept_same {H H' : Hp} {D : Addr} (k : Kept [D] H H') (n : H D = none) : Same H H' := fun b o e => k b o e fun z => by rw [List.mem_singleton.mp z, n] at e; cases e
theorem kept_msk {H H' : Hp} {D : Addr} (k : Kept [D] H H') (n : H D = none) : Same H (msk [D] H') := fun b o e => by
  have ne : b ∉ [D] := fun z => by rw [List.mem_singleton.mp z, n] at e; cases e
  exact msk_at (k b o e ne) ne
/-- a comprehension over rows: some of them, of each something -/
theorem lc_rows {K : PySem.W.Frag} {J : It} {n : Nat} {G : Hp → Prop} {xs : List V} (w : Walk J n G (YAt xs)) {rs : List Rw} (hn : n = rs.length) (few : rs.length ≤ 900) (p : Rw → Bool) (f : Rw → PyData)
    {g : TG} {tt : TT} {te : TE} {vs : List Nat} {σ : L2.St} {H1 : Hp} {D : Addr} {Qd : Hp → Prop} (nD : H1 D = none) (hG : ∀ H', Kept [D] H1 H' → G H') (hx : ∀ (i : Nat) (x : V), xs[i]? = some x → ∃ row rp, rs[i]? = some row ∧ x = .ref rp ∧ SqT K H1 rp (row.map wV))
    (step : ∀ (row : Rw) (rp : Addr) (H' : Hp) (C : V → Hp → Prop) (N : Hp → Prop), row ∈ rs → Kept [D] H1 H' → (∃ ws, H' D = some (.lst ws)) → SqT K (msk [D] H') rp (row.map wV) → (p row = true → ∀ y H4, Kept [] H' H4 → Dp K (msk [D] H4) y (f row) → C y H4) → (p row = false → N H') →
      g (.ref rp) (wipe σ vs) H' fun σ2 H2 => wipe σ2 vs = wipe σ vs ∧ tt σ2 H2 fun b H3 => if b = true then te σ2 H3 C else N H3)
    (fin : ∀ us H2, Grow K [] H2 D us ((rs.filter p).map f) → Kept [D] H1 H2 → Qd H2) :
    ∃ W : Nat → Nat → Hp → Prop, (∃ m, W 0 m (upd H1 D (.lst []))) ∧ ∀ i m H, W i m H →
      (J.stop i H ∧ Qd H) ∨ (J.go i H ∧ ∃ Nx : Hp → Prop, (∀ H', Nx H' → ∃ m', m' < m ∧ W (i + 1) m' H') ∧ ∀ x H', J.yld i H x H' → g x (wipe σ vs) H' fun σ2 H2 => wipe σ2 vs = wipe σ vs ∧ tt σ2 H2 fun b H3 =>
        if b = true then te σ2 H3 fun y H4 => ∃ acc, H4 D = some (.lst acc) ∧ acc.length < sizeLine ∧ Nx (upd H4 D (.lst (acc ++ [y]))) else Nx H3) := by
  refine lc_it w (fun i H' => ∃ us, Grow K [] H' D us (((rs.take i).filter p).map f) ∧ Kept [D] H1 H') ⟨[], .start, Kept.upd_new nD⟩ (fun i H' _ hP => let ⟨_, _, kk⟩ := hP; hG H' kk) (fun i x H' H'' hi hP hY => ?_) (fun H2 hP => ?_)
  · obtain ⟨rfl, hx1⟩ := hY
    obtain ⟨us, gr, kk⟩ := hP
    obtain ⟨row, rp, h1, rfl, h2⟩ := hx i x hx1
    have et : (rs.take (i + 1)).filter p = (rs.take i).filter p ++ (if p row then [row] else []) := by
      rw [List.take_add_one, h1, List.filter_append]
      congr 1
      show List.filter p [row] = _
      rw [List.filter_cons, List.filter_nil]
    refine step row rp H'' _ _ (List.mem_of_getElem? h1) kk ⟨_, gr.at'⟩ (sameT (kept_msk kk nD) h2) (fun hp y H4 k4 hd => ?_) (fun hp => ?_)
    · have g4 := gr.kept k4 List.not_mem_nil
      refine ⟨us, g4.at', ?_, us ++ [y], ?_, kk.trans ((k4.mono (fun _ h => absurd h List.not_mem_nil)).trans (Kept.upd_in (List.mem_cons_self ..)))⟩
      · rw [gr.len, List.length_map]
        have := List.length_filter_le p (rs.take i)
        rw [List.length_take] at this
        exact small1000 (by omega)
      · rw [et, hp, if_pos rfl, List.map_append]
        exact g4.put hd
    · refine ⟨us, ?_, kk⟩
      rw [et, hp, if_neg Bool.false_ne_true, List.append_nil]
      exact gr
  · obtain ⟨us, gr, kk⟩ := hP
    rw [hn, List.take_length] at gr
    exact fin us H2 gr kk
theorem dp_rows {K : PySem.W.Frag} {H : Hp} {us : List V} {rs : List Rw} (h : DpAll K H us (rs.map rowD)) {i : Nat} {x : V} (hx : us[i]? = some x) : ∃ row rp, rs[i]? = some row ∧ x = .ref rp ∧ SqT K H rp (row.map wV) := by
  obtain ⟨d, h1, h2⟩ := dpAll_get i h hx
  rw [List.getElem?_map] at h1
  obtain ⟨row, hr, rfl⟩ := Option.map_eq_some_iff.mp h1
  obtain ⟨rp, xs, rfl, h3, h4⟩ := seq_dp (b := true) (show Dp K H x (seqD true (row.map wD)) from h2)
  have := dpAll_ws h4
  subst this
  exact ⟨row, rp, hr, rfl, h3⟩
/-- a comprehension with a value for each -/
theorem lc_map {J : It} {n : Nat} {G : Hp → Prop} {xs : List V} (w : Walk J n G (YAt xs)) {ys : List V} (hn : ys.length = n) (few : n ≤ 900)
    {g : TG} {te : TE} {vs : List Nat} {σ : L2.St} {H1 : Hp} {D : Addr} {Qd : Hp → Prop} (nD : H1 D = none) (hG : ∀ H', Kept [D] H1 H' → G H')
    (step : ∀ (i : Nat) (x : V) (H' : Hp) (C : V → Hp → Prop) (N : Hp → Prop), xs[i]? = some x → Same H1 H' → (∀ y, ys[i]? = some y → C y H') →
      g x (wipe σ vs) H' fun σ2 H2 => wipe σ2 vs = wipe σ vs ∧ (if true = true then te σ2 H2 C else N H2))
    (fin : ∀ H2, H2 D = some (.lst ys) → Same H1 H2 → Qd H2) :
    ∃ W : Nat → Nat → Hp → Prop, (∃ m, W 0 m (upd H1 D (.lst []))) ∧ ∀ i m H, W i m H →
      (J.stop i H ∧ Qd H) ∨ (J.go i H ∧ ∃ Nx : Hp → Prop, (∀ H', Nx H' → ∃ m', m' < m ∧ W (i + 1) m' H') ∧ ∀ x H', J.yld i H x H' → g x (wipe σ vs) H' fun σ2 H2 => wipe σ2 vs = wipe σ vs ∧ tYes σ2 H2 fun b H3 =>
        if b = true then te σ2 H3 fun y H4 => ∃ acc, H4 D = some (.lst acc) ∧ acc.length < sizeLine ∧ Nx (upd H4 D (.lst (acc ++ [y]))) else Nx H3) := by
  refine lc_it w (fun i H' => H' D = some (.lst (ys.take i)) ∧ Kept [D] H1 H') ⟨upd_same, Kept.upd_new nD⟩ (fun i H' _ hP => hG H' hP.2) (fun i x H' H'' hi hP hY => ?_) (fun H2 hP => ?_)
  · obtain ⟨rfl, hx⟩ := hY
    obtain ⟨eD, kk⟩ := hP
    refine step i x H'' _ (fun H3 => H3 D = some (.lst (ys.take (i + 1))) ∧ Kept [D] H1 H3) hx (kept_same kk nD) (fun y hy => ?_)
    refine ⟨_, eD, by rw [List.length_take]; exact small1000 (by omega), ?_, kk.trans (Kept.upd_in (List.mem_cons_self ..))⟩
    rw [upd_same, List.take_add_one, hy]; rfl
  · obtain ⟨eD, kk⟩ := hP
    rw [← hn, List.take_length] at eD
    exact fin H2 eD (kept_same kk nD)
section
variable {P : Program} {w : World} {K : PySem.W.Frag} {mg : Str → Option Value} {base : Heap}
abbrev s_law_place : Stmt := topS 20
abbrev N_law_place : List Str := ["tables", "table", "name", "columns"]
theorem sc_law_place : FnScope N_law_place ["tables", "table"] (defScope s_law_place) := ⟨rfl, rfl, rfl, by decide +kernel, rfl, by decide +kernel, by decide +kernel⟩

theorem ok_law_place {f : Addr} {fd : FuncData} (F : Fun K "_law_place" "_law_place" s_law_place f fd) : FnOk P w K mg base CX0 1 f fd ["tables", "table"] (spTabPlace K) := by
  refine F.ok sc_law_place (fun vs H Q E h => ?_) (fun cdv A outer sh H vs Q E hr h => ?_)
  · obtain ⟨tp, ts, t, rfl, _⟩ := h
    rfl
  obtain ⟨tp, ts, t, rfl, hT, ht, q⟩ := h
  have nd := sc_law_place.nd
  refine ⟨_, (pss_one (ps_ret (pe_bm PySem.F.plainAttrs_list PySem.F.slot_list_index PySem.F.type_list_index mt_index (pe_lc (own := [("name", 2), ("columns", 3)]) (g := (gTup _ 2 (gCons (gName 2) (gCons (gName 3) gNil)))) (tt := tYes) rfl nd (pi_tup (pv 0)) (blkOk_by (N := N_law_place) (sc := defScope s_law_place) (by decide +kernel)) (fun _ _ _ _ _ => (pg_tup rfl (pgs_cons (pg_name (i := 2) nd rfl (Or.inl rfl)) (pgs_cons (pg_name (i := 3) nd rfl (Or.inl rfl)) pgs_nil)))) (fun _ _ _ _ _ => pts_nil) (fun _ _ _ _ _ => (pv 2))) (pa_cons (pv 1) pa_nil)))), ?_⟩
  obtain ⟨ws, hTS, hTA, lw⟩ := hT.parts
  have l8 := hT.l8
  refine ⟨.ref tp, rfl, tp, rfl, ⟨ws, hTS⟩, fun D1 n1 => ?_⟩
  refine lc_map (walk_tup (xs := ws)) (ys := (tns ts).map V.str) (by rw [List.length_map, List.length_map]; omega) (by omega) n1 (fun H' k => sameT (kept_same k n1) hTS) (fun i x H' C N hx sm hC => ?_) (fun H1 e1 s1 => ?_)
  · obtain ⟨tb, qq, pc, ys, htb, rfl, h1, h2, h3⟩ := tab_at hTA hx
    refine ⟨qq, _, rfl, sameT sm h1, rfl, .str tb.1, _, rfl, .ref pc, _, rfl, rfl, ?_⟩
    exact ⟨rfl, iteT ⟨.str tb.1, rfl, hC _ (by rw [List.getElem?_map, List.getElem?_map, htb]; rfl)⟩⟩
  · refine ⟨.inl ⟨rfl, _, .inl (.inl e1)⟩, .str t, rfl, ?_⟩
    unfold tNil
    dsimp only
    exact ix_strs e1 ht (q H1 s1)
abbrev s_law_column : Stmt := topS 21
abbrev N_law_column : List Str := ["tables", "table", "column", "name", "fallback"]
theorem sc_law_column : FnScope N_law_column ["tables", "table", "column"] (defScope s_law_column) := ⟨rfl, rfl, rfl, by decide +kernel, rfl, by decide +kernel, by decide +kernel⟩

theorem ok_law_column {f : Addr} {fd : FuncData} (F : Fun K "_law_column" "_law_column" s_law_column f fd) (D_law_place : Def P w K mg base 1 "_law_place" ["tables", "table"] (spTabPlace K)) : FnOk P w K mg base CX0 2 f fd ["tables", "table", "column"] (spColPlace K) := by
  refine F.ok sc_law_column (fun vs H Q E h => ?_) (fun cdv A outer sh H vs Q E hr h => ?_)
  · obtain ⟨tp, ts, t, c, rfl, _⟩ := h
    rfl
  obtain ⟨tp, ts, t, c, rfl, hT, ht, hc, q⟩ := h
  have nd := sc_law_column.nd
  refine ⟨_, (pss_one (ps_ret (pe_bm PySem.F.plainAttrs_list PySem.F.slot_list_index PySem.F.type_list_index mt_index (pe_lc (own := [("name", 3), ("fallback", 4)]) (g := (gTup _ 2 (gCons (gName 3) (gCons (gName 4) gNil)))) (tt := tYes) rfl nd (pi_tup (pe_ix ix_seq (pe_ix ix_tup (pv 0) (pe_own D_law_place hr (pa_cons (pv 0) (pa_cons (pv 1) pa_nil))) (fun _ _ => rfl)) pe_int (fun _ _ => rfl))) (blkOk_by (N := N_law_column) (sc := defScope s_law_column) (by decide +kernel)) (fun _ _ _ _ _ => (pg_tup rfl (pgs_cons (pg_name (i := 3) nd rfl (Or.inl rfl)) (pgs_cons (pg_name (i := 4) nd rfl (Or.inl rfl)) pgs_nil)))) (fun _ _ _ _ _ => pts_nil) (fun _ _ _ _ _ => (pv 3))) (pa_cons (pv 2) pa_nil)))), ?_⟩
  obtain ⟨ws, hTS, hTA, lw⟩ := hT.parts
  have l8 := hT.l8
  have okt := hT.ok
  have lat : (tns ts).idxOf t < (tns ts).length := List.idxOf_lt_length_of_mem ht
  have latw : (tns ts).idxOf t < ws.length := by rw [List.length_map] at lat; omega
  obtain ⟨xw, hxw⟩ : ∃ x, ws[(tns ts).idxOf t]? = some x := ⟨_, List.getElem?_eq_getElem latw⟩
  obtain ⟨tb2, qq, pc, yc, htb2, rfl, h1, h2, h3⟩ := tab_at hTA hxw
  have etb : tb2.1 = t := by
    have h5 : (tns ts)[(tns ts).idxOf t]? = some t := by rw [List.getElem?_eq_getElem lat, List.getElem_idxOf]
    rw [List.getElem?_map, htb2] at h5
    exact Option.some.inj h5
  have ecn : cns ts t = tb2.2.map (·.1) := by
    show (colsOf ts t).map _ = _
    rw [← etb, colsOf_mem okt.nd (List.mem_of_getElem? htb2)]
  have l5 : tb2.2.length ≤ 5 := (okt.cs tb2 (List.mem_of_getElem? htb2)).1.top
  refine ⟨.ref tp, rfl, .ref tp, rfl, .str t, rfl, tp, ts, t, rfl, hT, ht, fun H1 s1 => ?_⟩
  refine ⟨tp, ws, (tns ts).idxOf t, .ref qq, rfl, rfl, sameT s1 hTS, atI_nat hxw, .inr (.inl ⟨qq, _, 1, .ref pc, rfl, rfl, sameT s1 h1, atI_nat (j := 1) rfl, pc, rfl, ⟨yc, sameT s1 h2⟩, fun D2 n2 => ?_⟩)⟩
  refine lc_map (walk_tup (xs := yc)) (ys := (cns ts t).map V.str) (by rw [ecn, List.length_map, List.length_map, dpAll_len h3, List.length_map]) (by rw [dpAll_len h3, List.length_map]; omega) n2 (fun H' k => sameT (s1.trans (kept_same k n2)) h2) (fun i x H' C N hx sm hC => ?_) (fun H2 e2 s2 => ?_)
  · obtain ⟨co, qc, z, hco, rfl, hqc⟩ := col_at h3 hx
    refine ⟨qc, _, rfl, sameT (s1.trans sm) hqc, rfl, .str co.1, _, rfl, z, _, rfl, rfl, ?_⟩
    exact ⟨rfl, iteT ⟨.str co.1, rfl, hC _ (by rw [ecn, List.getElem?_map, List.getElem?_map, hco]; rfl)⟩⟩
  · refine ⟨.inl ⟨rfl, _, .inl (.inl e2)⟩, .str c, rfl, ?_⟩
    unfold tNil
    dsimp only
    exact ix_strs e2 hc (q H2 (s1.trans s2))
end
end TT

set_option Elab.async false
set_option linter.all false
set_option maxRecDepth 100000
namespace TT
open PySem PySem.Spec PyProof.Rows L2
theorem cell_row {n : Nat} {r : Rw} (h : RwOk n r) {zs : List Str} (hn : n = zs.length) {col : Str} (hc : col ∈ zs) : (r.map wV)[zs.idxOf col]? = some (wV (cellAt zs col r)) := by
  have hj : zs.idxOf col < r.length := by rw [h.len, hn]; exact List.idxOf_lt_length_of_mem hc
  have e : r[zs.idxOf col]? = some r[zs.idxOf col] := List.getElem?_eq_getElem hj
  unfold cellAt
  rw [getD_of e, List.getElem?_map, e]; rfl
section
variable {P : Program} {w : World} {K : PySem.W.Frag} {mg : Str → Option Value} {base : Heap}
/-- the pairs by which the rows lean: key and worth -/
def leanP (zs : List Str) (c : Str) (rs : List Rw) : List PyData := (rs.filter fun r => !decide (cellAt zs c r = none)).map fun r => .tuple [.int (keyW r), wD (cellAt zs c r)]
def spLeansBy (K : PySem.W.Frag) : Sp := fun vs H Q _ => ∃ (pl tp ta : Addr) (x y : V) (ts : List Tab) (v : V) (o i r : Bool) (ct : List (List Rw)) (n t c ot g u l : Str) (rs : List Rw), vs = [.ref pl, v, .ref ta] ∧ SqT K H pl [.ref tp, x, y] ∧ Tabs K H tp ts ∧ Dp K H v (handD o i r ct) ∧
  SqT K H ta [.str n, .str t, .str c, .str ot, .str g, .str u, .str l] ∧ At ts ct t rs ∧ c ∈ cns ts t ∧ ∀ (D : Addr) (us : List V) (H' : Hp), Same H H' → H D = none → H' D = some (.lst us) → DpAll K H' us (leanP (cns ts t) c rs) → Q (.ref D) H'
abbrev s_leans_by : Stmt := topS 13
abbrev N_leans_by : List Str := ["plan", "content", "tie", "_", "table", "column", "place", "rows", "row"]
theorem sc_leans_by : FnScope N_leans_by ["plan", "content", "tie"] (defScope s_leans_by) := ⟨rfl, rfl, rfl, by decide +kernel, rfl, by decide +kernel, by decide +kernel⟩

set_option maxHeartbeats 4000000 in
theorem ok_leans_by {f : Addr} {fd : FuncData} (F : Fun K "leans_by" "leans_by" s_leans_by f fd) (D_column_place : Def P w K mg base 3 "column_place" ["tables", "table", "column"] (spColPlace K)) (D_rows_of : Def P w K mg base 3 "rows_of" ["tables", "content", "table"] (spRowsOf K)) : FnOk P w K mg base CX0 4 f fd ["plan", "content", "tie"] (spLeansBy K) := by
  refine F.ok sc_leans_by (fun vs H Q E h => ?_) (fun cdv A outer sh H vs Q E hr h => ?_)
  · obtain ⟨pl, tp, ta, x, y, ts, v, o, i, r, ct, n, t, c, ot, g, u, l, rs, rfl, _⟩ := h
    rfl
  obtain ⟨pl, tp, ta, x, y, ts, v, o, i, r, ct, n, t, c, ot, g, u, l, rs, rfl, hP, hT, hd, hTa, hA, hc, q⟩ := h
  have nd := sc_leans_by.nd
  refine ⟨_, (pss_cons (ps_asg (pv 2) (pg_tup rfl (pgs_cons (pg_name (i := 3) nd rfl (Or.inl rfl)) (pgs_cons (pg_name (i := 4) nd rfl (Or.inl rfl)) (pgs_cons (pg_name (i := 5) nd rfl (Or.inl rfl)) (pgs_cons (pg_name (i := 3) nd rfl (Or.inl rfl)) (pgs_cons (pg_name (i := 3) nd rfl (Or.inl rfl)) (pgs_cons (pg_name (i := 3) nd rfl (Or.inl rfl)) (pgs_cons (pg_name (i := 3) nd rfl (Or.inl rfl)) pgs_nil)))))))))
      (pss_cons (ps_set (i := 6) nd rfl (Or.inr rfl) (pe_own D_column_place hr (pa_cons (pe_ix ix_seq (pv 0) pe_int (fun _ _ => rfl)) (pa_cons (pv 4) (pa_cons (pv 5) pa_nil)))))
      (pss_cons (ps_set (i := 7) nd rfl (Or.inl rfl) (pe_own D_rows_of hr (pa_cons (pe_ix ix_seq (pv 0) pe_int (fun _ _ => rfl)) (pa_cons (pv 1) (pa_cons (pv 4) pa_nil)))))
      (pss_one (ps_ret (pe_lc (own := [("row", 8)]) (g := (gName 8)) rfl nd (pi_list (pv 7)) (blkOk_by (N := N_leans_by) (sc := defScope s_leans_by) (by decide +kernel)) (fun _ _ _ _ _ => (pg_name (i := 8) nd rfl (Or.inl rfl))) (fun _ _ _ _ _ => (pts_one (pt_cmpR op_notN (pe_ix (r := rIxT K) ix_tup (pv 8) (pv 6) (fun _ _ => rfl)) pe_non (nomark _)))) (fun _ _ _ _ _ => (pe_tup (pa_cons (pe_ix (r := rIxT K) ix_tup (pv 8) pe_int (fun _ _ => rfl)) (pa_cons (pe_ix (r := rIxT K) ix_tup (pv 8) (pv 6) (fun _ _ => rfl)) pa_nil)))))))))), ?_⟩
  refine ⟨.ref ta, rfl, ta, _, rfl, hTa, rfl, _, _, rfl, _, _, rfl, _, _, rfl, _, _, rfl, _, _, rfl, _, _, rfl, _, _, rfl, rfl, ?_⟩
  show tSeq _ _ _ [some (.ref pl), some v, some (.ref ta), some (.str l), some (.str t), some (.str c), none, none, none] H
  refine ⟨.ref pl, rfl, ixB (b := true) (i := 0) hP rfl ⟨.str t, rfl, .str c, rfl, tp, ts, t, c, rfl, hT, hA.mem, hc, fun H1 s1 => ?_⟩⟩
  refine ⟨.ref pl, rfl, ixB (b := true) (i := 0) (sameT s1 hP) rfl ⟨v, rfl, .str t, rfl, tp, ts, v, o, i, r, ct, t, rs, rfl, hT.same s1, dp_same s1 hd, hA, fun D0 us H2 s2 n0 e0 hus => ?_⟩⟩
  refine ⟨.ref D0, rfl, D0, rfl, ⟨us, .inl (.inl e0)⟩, fun D nD => ?_⟩
  have n0D : D0 ≠ D := ne_of_none e0 nD
  refine lc_rows (K := K) (walk_list (xs := us)) (by rw [dpAll_len hus, List.length_map]) hA.few (fun r => !decide (cellAt (cns ts t) c r = none)) (fun r => .tuple [.int (keyW r), wD (cellAt (cns ts t) c r)]) nD (fun H' k => .inl (.inl (k.at e0 (by simp [n0D])))) (fun i x hx => ?_) (fun row rp H' C N hrow kk eD hS yesC noN => ?_) (fun us2 H3 gr kk => ?_)
  · obtain ⟨row, rp, h1, h2, h3⟩ := dp_rows hus hx
    exact ⟨row, rp, h1, h2, sameT (msk_sub _ _) h3⟩
  · have okr := hA.ok.row row hrow
    have hS' : SqT K H' rp (row.map wV) := sameT (msk_sub _ _) hS
    have cr : (row.map wV)[(cns ts t).idxOf c]? = some (wV (cellAt (cns ts t) c row)) := cell_row okr rfl hc
    have ec : (!decide (wV (cellAt (cns ts t) c row) = .non)) = !decide (cellAt (cns ts t) c row = none) := by
      cases cellAt (cns ts t) c row with
      | none => rfl
      | some z => rfl
    obtain ⟨k, t0, rfl⟩ := okr.key
    refine ⟨rfl, ?_⟩
    refine ⟨.ref rp, rfl, _, rfl, rp, _, _, _, rfl, rfl, hS', atI_nat cr, rfl, _, rfl, ?_⟩
    refine ite2 (c := (!decide (wV (cellAt (cns ts t) c (some k :: t0)) = V.non)) = true) (fun e => ?_) (fun e => ?_) <;> rw [ec] at e
    · refine ⟨.ref rp, rfl, rp, _, 0, .int k, rfl, rfl, hS', atI_nat (j := 0) rfl, .ref rp, rfl, _, rfl, rp, _, _, _, rfl, rfl, hS', atI_nat cr, (by show 2 ≤ sizeLine; decide), fun p np => ?_⟩
      obtain ⟨ws, eD⟩ := eD
      exact yesC e _ _ (Kept.upd_new np) (.tup (.inl (.inl (msk_at upd_same (by simp [(ne_of_none eD np).symm])))) (.cons (.int _) (.cons (dp_w _) .nil)))
    · exact noN (by simpa using e)
  · exact q D us2 H3 (s1.trans (s2.trans (kept_same kk nD))) (Same.free (s1.trans s2) nD) gr.at' (dpAll_same (msk_sub _ _) gr.dp)
end
end TT

set_option Elab.async false
set_option linter.all false
set_option maxRecDepth 100000
namespace TT
open PySem PySem.Spec PyProof.Rows L2
def rowsAt (ts : List Tab) (ct : List (List Rw)) (t : Str) : List Rw := (ct[(tns ts).idxOf t]?).getD []
def ContAll (ts : List Tab) (ct : List (List Rw)) : Prop := ∀ t ∈ tns ts, At ts ct t (rowsAt ts ct t)
theorem dpAll_strs {K : PySem.W.Frag} {H : Hp} : ∀ {zs : List Str} {ys : List V}, DpAll K H ys (zs.map PyData.str) → ys = zs.map V.str
  | [], _, .nil => rfl
  | _ :: zs, _, .cons h t => by cases h; rw [dpAll_strs t]; rfl
end TT

set_option Elab.async false
set_option linter.all false
set_option maxRecDepth 100000
namespace TT
open PySem PySem.Spec PyProof.Rows L2
theorem kit_bs {K : PySem.W.Frag} (d : PyData) : PySem.W.kitAny K (.type (tyN d)) [.type "bool", .type "str"] = some (isBB d || isSB d) :=
  kitAny_cons (b := isBB d) (kit_b d) (fun h => by
    rw [h]
    exact kitAny_cons (b := isSB d) (kit_s d) (fun h => by rw [h]; exact kitAny_nil) fun h => by rw [h]; rfl) fun h => by rw [h]; rfl
section
variable {P : Program} {w : World} {K : PySem.W.Frag} {mg : Str → Option Value} {base : Heap}
/-- of two of the same data -/
def spSame (n : Nat) (K : PySem.W.Frag) : Sp := fun vs H Q _ => ∃ (v u : V) (d : PyData), vs = [v, u] ∧ Dp K H v d ∧ Dp K H u d ∧ d.depth < n ∧ Nice (10 ^ 12) 900 d ∧ ∀ H', Same H H' → Q (.bl true) H'
abbrev s_law_same : Stmt := topS 24
abbrev N_law_same : List Str := ["found", "due", "one", "other"]
theorem sc_law_same : FnScope N_law_same ["found", "due"] (defScope s_law_same) := ⟨rfl, rfl, rfl, by decide +kernel, rfl, by decide +kernel, by decide +kernel⟩

set_option maxHeartbeats 4000000 in
theorem ok_same1 {n : Nat} {f : Addr} {fd : FuncData} (F : Fun K "_law_same" "_law_same" s_law_same f fd) (nb : NB mg) (D_law_same : Def P w K mg base (1 + n) "_law_same" ["found", "due"] (spSame n K)) : FnOk P w K mg base CX0 (1 + n + 1) f fd ["found", "due"] (spSame (n + 1) K) := by
  refine F.ok sc_law_same (fun vs H Q E h => ?_) (fun cdv A outer sh H vs Q E hr h => ?_)
  · obtain ⟨v, u, d, rfl, _⟩ := h
    rfl
  obtain ⟨v, u, d, rfl, hd, he, hdep, hn, q⟩ := h
  have nd := sc_law_same.nd
  refine ⟨_, (pss_cons (ps_if (pt_val (pe_callB call_isiT (by rfl) nb.b_isinstance (by decide +kernel) (pa_cons (pv 1) (pa_cons (pe_tup (pa_cons (pe_bltn (v := .ty "list") (by rfl) nb.b_list (by decide +kernel) rfl) (pa_cons (pe_bltn (v := .ty "tuple") (by rfl) nb.b_tuple (by decide +kernel) rfl) pa_nil))) pa_nil))))
        (pss_cons (ps_if (PW.pt (pw_or (pt_cmpR op_ne (pe_callB call_isi (by rfl) nb.b_isinstance (by decide +kernel) (pa_cons (pv 0) (pa_cons (pe_bltn (v := .ty "list") (by rfl) nb.b_list (by decide +kernel) rfl) pa_nil))) (pe_callB call_isi (by rfl) nb.b_isinstance (by decide +kernel) (pa_cons (pv 1) (pa_cons (pe_bltn (v := .ty "list") (by rfl) nb.b_list (by decide +kernel) rfl) pa_nil))) (nomark _)) (pw_or1 (pt_cmpR op_ne (pe_callB call_isi (by rfl) nb.b_isinstance (by decide +kernel) (pa_cons (pv 0) (pa_cons (pe_bltn (v := .ty "tuple") (by rfl) nb.b_tuple (by decide +kernel) rfl) pa_nil))) (pe_callB call_isi (by rfl) nb.b_isinstance (by decide +kernel) (pa_cons (pv 1) (pa_cons (pe_bltn (v := .ty "tuple") (by rfl) nb.b_tuple (by decide +kernel) rfl) pa_nil))) (nomark _)))))
          (pss_one (ps_ret pe_bl))
          pss_nil)
        (pss_one (ps_ret (pe_and (pe_cmpR op_eq (pe_callB call_len (by rfl) nb.b_len (by decide +kernel) (pa_cons (pv 0) pa_nil)) (pe_callB call_len (by rfl) nb.b_len (by decide +kernel) (pa_cons (pv 1) pa_nil)) (nomark _)) (pe_one (pe_callB (cr_all rfl) (by rfl) nb.b_all (by decide +kernel) (pa_cons (pe_lc (own := [("one", 2), ("other", 3)]) (g := (gTup _ 2 (gCons (gName 2) (gCons (gName 3) gNil)))) (tt := tYes) rfl nd (pi_zipB (by rfl) nb.b_zip (pa_cons (pv 0) (pa_cons (pv 1) pa_nil))) (blkOk_by (N := N_law_same) (sc := defScope s_law_same) (by decide +kernel)) (fun _ _ _ _ _ => (pg_tup rfl (pgs_cons (pg_name (i := 2) nd rfl (Or.inl rfl)) (pgs_cons (pg_name (i := 3) nd rfl (Or.inl rfl)) pgs_nil)))) (fun _ _ _ _ _ => pts_nil) (fun _ _ _ _ _ => (pe_own D_law_same hr (pa_cons (pv 2) (pa_cons (pv 3) pa_nil)) (by omega)))) pa_nil)))))))
        pss_nil)
      (pss_cons (ps_if (PW.pt (pw_or (pt_cmpR op_isN (pv 1) pe_non (nomark _)) (pw_or1 (pt_val (pe_callB call_isiT (by rfl) nb.b_isinstance (by decide +kernel) (pa_cons (pv 1) (pa_cons (pe_tup (pa_cons (pe_bltn (v := .ty "bool") (by rfl) nb.b_bool (by decide +kernel) rfl) (pa_cons (pe_bltn (v := .ty "str") (by rfl) nb.b_str (by decide +kernel) rfl) pa_nil))) pa_nil)))))))
        (pss_one (ps_ret (pe_and (pe_cmpR (op_eqD hr.units) (pv 0) (pv 1) (nomark _)) (pe_and (pe_cmpR op_eq (pe_callB call_isi (by rfl) nb.b_isinstance (by decide +kernel) (pa_cons (pv 0) (pa_cons (pe_bltn (v := .ty "bool") (by rfl) nb.b_bool (by decide +kernel) rfl) pa_nil))) (pe_callB call_isi (by rfl) nb.b_isinstance (by decide +kernel) (pa_cons (pv 1) (pa_cons (pe_bltn (v := .ty "bool") (by rfl) nb.b_bool (by decide +kernel) rfl) pa_nil))) (nomark _)) (pe_one (pe_cmpR op_eq (pe_cmpR op_isN (pv 0) pe_non (nomark _)) (pe_cmpR op_isN (pv 1) pe_non (nomark _)) (nomark _)))))))
        pss_nil)
      (pss_one (ps_ret (pe_and (pe_callB call_isi (by rfl) nb.b_isinstance (by decide +kernel) (pa_cons (pv 0) (pa_cons (pe_bltn (v := .ty "int") (by rfl) nb.b_int (by decide +kernel) rfl) pa_nil))) (pe_and (pe_not (pe_callB call_isi (by rfl) nb.b_isinstance (by decide +kernel) (pa_cons (pv 0) (pa_cons (pe_bltn (v := .ty "bool") (by rfl) nb.b_bool (by decide +kernel) rfl) pa_nil)))) (pe_one (pe_cmpR (op_eqD hr.units) (pv 0) (pv 1) (nomark _))))))))), ?_⟩
  refine ⟨u, rfl, (by show 2 ≤ sizeLine; decide), fun tt ntt => ?_⟩
  have sm := same_upd (o := .tup [.ty "list", .ty "tuple"]) ntt
  refine ⟨u, tt, _, _, [.type "list", .type "tuple"], _, rfl, upd_same, .cons (.ty _) (.cons (.ty _) .nil), dp_ty (dp_same sm he), kit_lt d, _, rfl, ?_⟩
  show (if _ then _ else _)
  generalize upd H tt (.tup [.ty "list", .ty "tuple"]) = H1 at sm ⊢
  cases d with
  | list ds =>
    cases hd with
    | lst hS hA =>
    rename_i p xs
    cases he with
    | lst hS2 hA2 =>
    rename_i p2 ys
    have lx := dpAll_len hA
    have ly := dpAll_len hA2
    have l9 : ds.length ≤ 900 := hn.1
    refine iteT ?_
    refine ⟨.ref p, rfl, .ref p, .ty "list", _, _, _, rfl, .ty "list", dp_ty (.lst (sm.seq hS) (dpAll_same sm hA)), kit_l (.list ds), .ref p2, rfl, .ref p2, .ty "list", _, _, _, rfl, .ty "list", dp_ty (.lst (sm.seq hS2) (dpAll_same sm hA2)), kit_l (.list ds), rfl, _, rfl, ?_⟩
    rw [decide_eq_true rfl]
    refine iteF ?_
    refine ⟨.ref p, rfl, .ref p, .ty "tuple", _, _, _, rfl, .ty "tuple", dp_ty (.lst (sm.seq hS) (dpAll_same sm hA)), kit_t (.list ds), .ref p2, rfl, .ref p2, .ty "tuple", _, _, _, rfl, .ty "tuple", dp_ty (.lst (sm.seq hS2) (dpAll_same sm hA2)), kit_t (.list ds), rfl, _, rfl, ?_⟩
    rw [decide_eq_true rfl]
    refine iteF ?_
    refine ⟨.ref p, rfl, .ref p, xs.length, rfl, .inl ⟨xs, sm.seq hS, rfl⟩, .ref p2, rfl, .ref p2, xs.length, rfl, .inl ⟨ys, sm.seq hS2, by omega⟩, rfl, _, rfl, ?_⟩
    rw [decide_eq_true rfl]
    refine iteT ?_
    refine ⟨.ref p, rfl, .ref p2, rfl, false, false, p, p2, xs, ys, rfl, sm.seq hS, sm.seq hS2, fun D nD => ?_⟩
    refine lc_it (walk_zipB (xs := xs) (ys := ys) (n := xs.length) (by omega)) (PvM H1 D fun _ => .bl true) (pvm_start ..) (fun i H2 _ hP => ⟨(sm.trans (pvm_same hP nD)).seq hS, (sm.trans (pvm_same hP nD)).seq hS2⟩) (fun i x H2 H3 hi hP hY => ?_) (fun H2 hP => ?_)
    · obtain ⟨T, x1, y1, rfl, nT, rfl, h1, h2⟩ := hY
      obtain ⟨e1, k1, k2⟩ := dpAll_get i hA h1
      obtain ⟨e2, k3, k4⟩ := dpAll_get i hA2 h2
      rw [k1] at k3
      cases k3
      have s3 := sm.trans ((pvm_same hP nD).trans (same_upd (o := .tup [x1, y1]) nT))
      have hm := List.mem_of_getElem? k1
      refine ⟨T, _, rfl, .inl (.inl upd_same), rfl, x1, _, rfl, y1, _, rfl, rfl, ?_⟩
      refine ⟨rfl, ?_⟩
      unfold tYes
      dsimp only
      refine iteT ?_
      refine ⟨x1, rfl, y1, rfl, x1, y1, e1, rfl, dp_same s3 k2, dp_same s3 k4, ?_, niceAll_iff.mp hn.2 e1 hm, fun H4 s4 => pvm_step hP ((same_upd nT).trans s4) rfl (by omega)⟩
      have := depth_mem hm
      have hdep' : PyData.depthAll ds + 1 < n + 1 := hdep
      omega
    · refine ⟨D, (List.range xs.length).map fun _ => true, rfl, .inl (.inl ?_), ?_⟩
      · rw [hP.1, List.map_map]; rfl
      · have e : ((List.range xs.length).map fun _ => true).all id = true := List.all_eq_true.mpr fun b hb => by
          obtain ⟨_, _, rfl⟩ := List.mem_map.mp hb
          rfl
        rw [e]
        exact q _ (sm.trans (pvm_same hP nD))
  | tuple ds =>
    cases hd with
    | tup hS hA =>
    rename_i p xs
    cases he with
    | tup hS2 hA2 =>
    rename_i p2 ys
    have lx := dpAll_len hA
    have ly := dpAll_len hA2
    have l9 : ds.length ≤ 900 := hn.1
    refine iteT ?_
    refine ⟨.ref p, rfl, .ref p, .ty "list", _, _, _, rfl, .ty "list", dp_ty (.tup (sameT sm hS) (dpAll_same sm hA)), kit_l (.tuple ds), .ref p2, rfl, .ref p2, .ty "list", _, _, _, rfl, .ty "list", dp_ty (.tup (sameT sm hS2) (dpAll_same sm hA2)), kit_l (.tuple ds), rfl, _, rfl, ?_⟩
    rw [decide_eq_true rfl]
    refine iteF ?_
    refine ⟨.ref p, rfl, .ref p, .ty "tuple", _, _, _, rfl, .ty "tuple", dp_ty (.tup (sameT sm hS) (dpAll_same sm hA)), kit_t (.tuple ds), .ref p2, rfl, .ref p2, .ty "tuple", _, _, _, rfl, .ty "tuple", dp_ty (.tup (sameT sm hS2) (dpAll_same sm hA2)), kit_t (.tuple ds), rfl, _, rfl, ?_⟩
    rw [decide_eq_true rfl]
    refine iteF ?_
    refine ⟨.ref p, rfl, .ref p, xs.length, rfl, .inr ⟨xs, sameT sm hS, rfl⟩, .ref p2, rfl, .ref p2, xs.length, rfl, .inr ⟨ys, sameT sm hS2, by omega⟩, rfl, _, rfl, ?_⟩
    rw [decide_eq_true rfl]
    refine iteT ?_
    refine ⟨.ref p, rfl, .ref p2, rfl, true, true, p, p2, xs, ys, rfl, sameT sm hS, sameT sm hS2, fun D nD => ?_⟩
    refine lc_it (walk_zipB (xs := xs) (ys := ys) (n := xs.length) (by omega)) (PvM H1 D fun _ => .bl true) (pvm_start ..) (fun i H2 _ hP => ⟨sameT (sm.trans (pvm_same hP nD)) hS, sameT (sm.trans (pvm_same hP nD)) hS2⟩) (fun i x H2 H3 hi hP hY => ?_) (fun H2 hP => ?_)
    · obtain ⟨T, x1, y1, rfl, nT, rfl, h1, h2⟩ := hY
      obtain ⟨e1, k1, k2⟩ := dpAll_get i hA h1
      obtain ⟨e2, k3, k4⟩ := dpAll_get i hA2 h2
      rw [k1] at k3
      cases k3
      have s3 := sm.trans ((pvm_same hP nD).trans (same_upd (o := .tup [x1, y1]) nT))
      have hm := List.mem_of_getElem? k1
      refine ⟨T, _, rfl, .inl (.inl upd_same), rfl, x1, _, rfl, y1, _, rfl, rfl, ?_⟩
      refine ⟨rfl, ?_⟩
      unfold tYes
      dsimp only
      refine iteT ?_
      refine ⟨x1, rfl, y1, rfl, x1, y1, e1, rfl, dp_same s3 k2, dp_same s3 k4, ?_, niceAll_iff.mp hn.2 e1 hm, fun H4 s4 => pvm_step hP ((same_upd nT).trans s4) rfl (by omega)⟩
      have := depth_mem hm
      have hdep' : PyData.depthAll ds + 1 < n + 1 := hdep
      omega
    · refine ⟨D, (List.range xs.length).map fun _ => true, rfl, .inl (.inl ?_), ?_⟩
      · rw [hP.1, List.map_map]; rfl
      · have e : ((List.range xs.length).map fun _ => true).all id = true := List.all_eq_true.mpr fun b hb => by
          obtain ⟨_, _, rfl⟩ := List.mem_map.mp hb
          rfl
        rw [e]
        exact q _ (sm.trans (pvm_same hP nD))
  | dict _ => exact hn.elim
  | none =>
    cases hd
    cases he
    refine iteF ?_
    refine ⟨.non, rfl, rfl, _, rfl, ?_⟩
    rw [decide_eq_true rfl]
    refine iteT (iteT ?_)
    refine ⟨.non, rfl, .non, rfl, .none, .none, .non, .non, rfl, rfl, ?_⟩
    rw [show PyData.eqv .none .none = true from rfl]
    refine ⟨_, rfl, iteT ?_⟩
    refine ⟨.non, rfl, .non, .ty "bool", _, _, _, rfl, .ty "bool", dp_ty .non, kit_b (.none), .non, rfl, .non, .ty "bool", _, _, _, rfl, .ty "bool", dp_ty .non, kit_b (.none), rfl, ?_⟩
    rw [decide_eq_true rfl]
    refine ⟨_, rfl, iteT ?_⟩
    refine ⟨.non, rfl, rfl, .non, rfl, rfl, rfl, ?_⟩
    rw [decide_eq_true rfl]
    exact q _ sm
  | bool b =>
    cases hd
    cases he
    refine iteF ?_
    refine ⟨.bl b, rfl, rfl, _, rfl, ?_⟩
    rw [decide_eq_false (fun z => nomatch z)]
    refine iteF ?_
    refine ⟨.bl b, rfl, (by show 2 ≤ sizeLine; decide), fun t2 nt2 => ?_⟩
    have sm2 := sm.trans (same_upd (o := .tup [.ty "bool", .ty "str"]) nt2)
    refine ⟨.bl b, t2, _, _, [.type "bool", .type "str"], _, rfl, upd_same, .cons (.ty _) (.cons (.ty _) .nil), dp_ty (.bl b), kit_bs (.bool b), _, rfl, ?_⟩
    refine iteT ?_
    refine ⟨.bl b, rfl, .bl b, rfl, .bool b, .bool b, (.bl b), (.bl b), rfl, rfl, ?_⟩
    rw [show PyData.eqv (.bool b) (.bool b) = true by show (b == b) = true; simp]
    refine ⟨_, rfl, iteT ?_⟩
    refine ⟨.bl b, rfl, .bl b, .ty "bool", _, _, _, rfl, .ty "bool", dp_ty (.bl b), kit_b (.bool b), .bl b, rfl, .bl b, .ty "bool", _, _, _, rfl, .ty "bool", dp_ty (.bl b), kit_b (.bool b), rfl, ?_⟩
    rw [decide_eq_true rfl]
    refine ⟨_, rfl, iteT ?_⟩
    refine ⟨.bl b, rfl, rfl, .bl b, rfl, rfl, rfl, ?_⟩
    rw [decide_eq_true rfl]
    exact q _ sm2
  | str z =>
    cases hd
    cases he
    refine iteF ?_
    refine ⟨.str z, rfl, rfl, _, rfl, ?_⟩
    rw [decide_eq_false (fun z => nomatch z)]
    refine iteF ?_
    refine ⟨.str z, rfl, (by show 2 ≤ sizeLine; decide), fun t2 nt2 => ?_⟩
    have sm2 := sm.trans (same_upd (o := .tup [.ty "bool", .ty "str"]) nt2)
    refine ⟨.str z, t2, _, _, [.type "bool", .type "str"], _, rfl, upd_same, .cons (.ty _) (.cons (.ty _) .nil), dp_ty (.str z), kit_bs (.str z), _, rfl, ?_⟩
    refine iteT ?_
    refine ⟨.str z, rfl, .str z, rfl, .str z, .str z, (.str z), (.str z), shaped_nice hn (by show 0 ≤ 60; decide), shaped_nice hn (by show 0 ≤ 60; decide), ?_⟩
    rw [show PyData.eqv (.str z) (.str z) = true by show (z == z) = true; simp]
    refine ⟨_, rfl, iteT ?_⟩
    refine ⟨.str z, rfl, .str z, .ty "bool", _, _, _, rfl, .ty "bool", dp_ty (.str z), kit_b (.str z), .str z, rfl, .str z, .ty "bool", _, _, _, rfl, .ty "bool", dp_ty (.str z), kit_b (.str z), rfl, ?_⟩
    rw [decide_eq_true rfl]
    refine ⟨_, rfl, iteT ?_⟩
    refine ⟨.str z, rfl, rfl, .str z, rfl, rfl, rfl, ?_⟩
    rw [decide_eq_true rfl]
    exact q _ sm2
  | int i =>
    cases hd
    cases he
    refine iteF ?_
    refine ⟨.int i, rfl, rfl, _, rfl, ?_⟩
    rw [decide_eq_false (fun z => nomatch z)]
    refine iteF ?_
    refine ⟨.int i, rfl, (by show 2 ≤ sizeLine; decide), fun t2 nt2 => ?_⟩
    have sm2 := sm.trans (same_upd (o := .tup [.ty "bool", .ty "str"]) nt2)
    refine ⟨.int i, t2, _, _, [.type "bool", .type "str"], _, rfl, upd_same, .cons (.ty _) (.cons (.ty _) .nil), dp_ty (.int i), kit_bs (.int i), _, rfl, ?_⟩
    refine iteF ?_
    refine ⟨.int i, rfl, .int i, .ty "int", _, _, _, rfl, .ty "int", dp_ty (.int i), kit_i (.int i), _, rfl, iteT ?_⟩
    refine ⟨.int i, rfl, .int i, .ty "bool", _, _, _, rfl, .ty "bool", dp_ty (.int i), kit_b (.int i), _, rfl, _, rfl, iteT ?_⟩
    refine ⟨.int i, rfl, .int i, rfl, .int i, .int i, .int i, .int i, rfl, rfl, ?_⟩
    have e : PyData.eqv (.int i) (.int i) = true := by show (i == i) = true; simp
    rw [e]
    exact q _ sm2
theorem ok_same {f : Addr} {fd : FuncData} (F : Fun K "_law_same" "_law_same" s_law_same f fd) (nb : NB mg) (hm : mg "_law_same" = some (.ref f)) (hb : Binds K fd ["found", "due"] []) : ∀ n : Nat, FnOk P w K mg base CX0 (1 + n) f fd ["found", "due"] (spSame n K)
  | 0 => ⟨fun vs H Q E h => by obtain ⟨v, u, d, rfl, _⟩ := h; rfl, fun _ _ _ _ _ _ _ _ _ _ _ _ _ h => by
      obtain ⟨v, u, d, rfl, _, _, hd, _⟩ := h
      exact absurd hd (Nat.not_lt_zero _)⟩
  | n + 1 => ok_same1 F nb (.mk hm F.kp hb (ok_same F nb hm hb n))
end
end TT

set_option Elab.async false
set_option linter.all false
set_option maxRecDepth 100000
namespace TT
open PySem PySem.Spec PyProof.Rows L2
/-- a comprehension whose items are data -/
theorem lc_dp {K : PySem.W.Frag} {J : It} {n : Nat} {G : Hp → Prop} {xs : List V} (w : Walk J n G (YAt xs)) {α : Type} {l : List α} (M : List Addr) (hn : n = l.length) (few : l.length ≤ 900) (f : α → PyData)
    {g : TG} {te : TE} {vs : List Nat} {σ : L2.St} {H1 : Hp} {D : Addr} {Qd : Hp → Prop} (nD : H1 D = none) (hG : ∀ H', Kept [D] H1 H' → G H')
    (step : ∀ (i : Nat) (x : V) (a : α) (H' : Hp) (C : V → Hp → Prop) (N : Hp → Prop), xs[i]? = some x → l[i]? = some a → Kept [D] H1 H' → (∃ ws, H' D = some (.lst ws)) → (∀ y H4, Kept [] H' H4 → Dp K (msk (D :: M) H4) y (f a) → C y H4) →
      g x (wipe σ vs) H' fun σ2 H2 => wipe σ2 vs = wipe σ vs ∧ (if true = true then te σ2 H2 C else N H2))
    (fin : ∀ us H2, Grow K M H2 D us (l.map f) → Kept [D] H1 H2 → Qd H2) (oD : D ∉ M) :
    ∃ W : Nat → Nat → Hp → Prop, (∃ m, W 0 m (upd H1 D (.lst []))) ∧ ∀ i m H, W i m H →
      (J.stop i H ∧ Qd H) ∨ (J.go i H ∧ ∃ Nx : Hp → Prop, (∀ H', Nx H' → ∃ m', m' < m ∧ W (i + 1) m' H') ∧ ∀ x H', J.yld i H x H' → g x (wipe σ vs) H' fun σ2 H2 => wipe σ2 vs = wipe σ vs ∧ tYes σ2 H2 fun b H3 =>
        if b = true then te σ2 H3 fun y H4 => ∃ acc, H4 D = some (.lst acc) ∧ acc.length < sizeLine ∧ Nx (upd H4 D (.lst (acc ++ [y]))) else Nx H3) := by
  refine lc_it w (fun i H' => ∃ us, Grow K M H' D us ((l.take i).map f) ∧ Kept [D] H1 H') ⟨[], .start, Kept.upd_new nD⟩ (fun i H' _ hP => let ⟨_, _, kk⟩ := hP; hG H' kk) (fun i x H' H'' hi hP hY => ?_) (fun H2 hP => ?_)
  · obtain ⟨rfl, hx⟩ := hY
    obtain ⟨us, gr, kk⟩ := hP
    obtain ⟨a, ha⟩ : ∃ a, l[i]? = some a := ⟨_, List.getElem?_eq_getElem (by omega)⟩
    have et : (l.take (i + 1)).map f = (l.take i).map f ++ [f a] := by
      rw [List.take_add_one, ha, List.map_append]; rfl
    have lu : us.length = i := by rw [gr.len, List.length_map, List.length_take]; omega
    refine step i x a H'' _ (fun H3 => ∃ us, Grow K M H3 D us ((l.take (i + 1)).map f) ∧ Kept [D] H1 H3) hx ha kk ⟨_, gr.at'⟩ (fun y H4 k4 hd => ?_)
    have g4 := gr.kept (k4.mono fun _ h => absurd h List.not_mem_nil) oD
    refine ⟨us, g4.at', small1000 (by omega), us ++ [y], ?_, kk.trans ((k4.mono (fun _ h => absurd h List.not_mem_nil)).trans (Kept.upd_in (List.mem_cons_self ..)))⟩
    rw [et]
    exact g4.put hd
  · obtain ⟨us, gr, kk⟩ := hP
    rw [hn, List.take_length] at gr
    exact fin us H2 gr kk
section
variable {P : Program} {w : World} {K : PySem.W.Frag} {mg : Str → Option Value} {base : Heap}
def spHanded (K : PySem.W.Frag) : Sp := fun vs H Q _ => ∃ (b cp : Addr) (T : Nat) (ct : List (List Rw)), vs = [.ref b, .ref cp] ∧ BoxAt H b T ∧ T ≤ 1000000 ∧ Dp K (msk [b] H) (.ref cp) (contD ct) ∧ ct.length ≤ 900 ∧ (∀ rs ∈ ct, rs.length ≤ 900) ∧
  ∀ (v : V) (o i r : Bool) (H' : Hp), Dp K (msk [b] H') v (handD o i r ct) → BoxAt H' b (T + 1) → Kept [b] H H' → Q v H'
abbrev s_law_handed : Stmt := topS 23
abbrev N_law_handed : List Str := ["box", "content", "way", "rows", "row"]
theorem sc_law_handed : FnScope N_law_handed ["box", "content"] (defScope s_law_handed) := ⟨rfl, rfl, rfl, by decide +kernel, rfl, by decide +kernel, by decide +kernel⟩

set_option maxHeartbeats 4000000 in
theorem ok_handed {f : Addr} {fd : FuncData} (F : Fun K "_law_handed" "_law_handed" s_law_handed f fd) (nb : NB mg) (D_law_take : Def P w K mg base 1 "_law_take" ["box", "many"] spTakeB) : FnOk P w K mg base CX0 2 f fd ["box", "content"] (spHanded K) := by
  refine F.ok sc_law_handed (fun vs H Q E h => ?_) (fun cdv A outer sh H vs Q E hr h => ?_)
  · obtain ⟨b, cp, T, ct, rfl, _⟩ := h
    rfl
  obtain ⟨b, cp, T, ct, rfl, S, hT, hd, few, few2, q⟩ := h
  have nd := sc_law_handed.nd
  refine ⟨_, (pss_cons (ps_set (i := 2) nd rfl (Or.inl rfl) (pe_own D_law_take hr (pa_cons (pv 0) (pa_cons pe_int pa_nil))))
      (pss_cons (ps_if (pt_cmpR op_eq (pv 2) pe_int (nomark _))
        (pss_one (ps_ret (pe_lc (te := (tLc (iList K (tVar 3)) (gName 4) tYes (tCB (rTupQ K) (tCons (tVar 4) tNil)) [4])) (own := [("rows", 3)]) (g := (gName 3)) (tt := tYes) rfl nd (pi_list (pv 1)) (blkOk_by (N := N_law_handed) (sc := defScope s_law_handed) (by decide +kernel)) (fun _ _ _ _ _ => (pg_name (i := 3) nd rfl (Or.inl rfl))) (fun _ _ _ _ _ => pts_nil) (fun _ _ _ _ _ => (pe_lc (own := [("row", 4)]) (g := (gName 4)) (tt := tYes) rfl nd (pi_list (pv 3)) (blkOk_by (N := N_law_handed) (sc := relS { kind := ScopeKind.function, names := [(".0", NameKind.local), ("rows", NameKind.local)], isGenerator := false, isCoroutine := false } (defScope s_law_handed)) (by decide +kernel)) (fun _ _ _ _ _ => (pg_name (i := 4) nd rfl (Or.inl rfl))) (fun _ _ _ _ _ => pts_nil) (fun _ _ _ _ _ => (pe_callTy (T := "tuple") (r := rTupQ K) call_tuple_of (by rfl) nb.b_tuple (by decide +kernel) (pa_cons (pv 4) pa_nil))))))))
        pss_nil)
      (pss_cons (ps_if (pt_cmpR op_eq (pv 2) pe_int (nomark _))
        (pss_one (ps_ret (pe_lc (te := (tLc (iList K (tVar 3)) (gName 4) tYes (tCB (rLstQ K) (tCons (tVar 4) tNil)) [4])) (own := [("rows", 3)]) (g := (gName 3)) (tt := tYes) rfl nd (pi_list (pv 1)) (blkOk_by (N := N_law_handed) (sc := defScope s_law_handed) (by decide +kernel)) (fun _ _ _ _ _ => (pg_name (i := 3) nd rfl (Or.inl rfl))) (fun _ _ _ _ _ => pts_nil) (fun _ _ _ _ _ => (pe_lc (own := [("row", 4)]) (g := (gName 4)) (tt := tYes) rfl nd (pi_list (pv 3)) (blkOk_by (N := N_law_handed) (sc := relS { kind := ScopeKind.function, names := [(".0", NameKind.local), ("rows", NameKind.local)], isGenerator := false, isCoroutine := false } (defScope s_law_handed)) (by decide +kernel)) (fun _ _ _ _ _ => (pg_name (i := 4) nd rfl (Or.inl rfl))) (fun _ _ _ _ _ => pts_nil) (fun _ _ _ _ _ => (pe_callTy (T := "list") (r := rLstQ K) call_list_of (by rfl) nb.b_list (by decide +kernel) (pa_cons (pv 4) pa_nil))))))))
        pss_nil)
      (pss_one (ps_ret (pe_callTy call_tuple_of (by rfl) nb.b_tuple (by decide +kernel) (pa_cons (pe_lc (te := tCB (rTupQ K) (tCons (tLc (iList K (tVar 3)) (gName 4) tYes (tCB (rTupQ K) (tCons (tVar 4) tNil)) [4]) tNil)) (own := [("rows", 3)]) (g := (gName 3)) (tt := tYes) rfl nd (pi_list (pv 1)) (blkOk_by (N := N_law_handed) (sc := defScope s_law_handed) (by decide +kernel)) (fun _ _ _ _ _ => (pg_name (i := 3) nd rfl (Or.inl rfl))) (fun _ _ _ _ _ => pts_nil) (fun _ _ _ _ _ => (pe_callTy (T := "tuple") (r := rTupQ K) call_tuple_of (by rfl) nb.b_tuple (by decide +kernel) (pa_cons (pe_lc (own := [("row", 4)]) (g := (gName 4)) (tt := tYes) rfl nd (pi_list (pv 3)) (blkOk_by (N := N_law_handed) (sc := relS { kind := ScopeKind.function, names := [(".0", NameKind.local), ("rows", NameKind.local), ("tuple", NameKind.globalImplicit)], isGenerator := false, isCoroutine := false } (defScope s_law_handed)) (by decide +kernel)) (fun _ _ _ _ _ => (pg_name (i := 4) nd rfl (Or.inl rfl))) (fun _ _ _ _ _ => pts_nil) (fun _ _ _ _ _ => (pe_callTy (T := "tuple") (r := rTupQ K) call_tuple_of (by rfl) nb.b_tuple (by decide +kernel) (pa_cons (pv 4) pa_nil)))) pa_nil)))) pa_nil))))))), ?_⟩
  refine ⟨.ref b, rfl, b, T, 3, rfl, S, hT, by decide, by decide, fun way H1 w0 w1 S1 K1 => ?_⟩
  have hd1 := dp_same (msk_same K1) hd
  obtain ⟨p, xs, e, hCS1, hCA1, lx⟩ := cont_dp hd1
  cases e
  have sC : SqL K H1 cp xs := (msk_sub _ _).seq hCS1
  refine ⟨.int way, rfl, rfl, _, rfl, ite2 (fun _ => ?_) (fun _ => ?_)⟩
  · refine ⟨.ref cp, rfl, cp, rfl, ⟨xs, sC⟩, fun D nD => ?_⟩
    have oD := S1.out nD
    refine lc_dp (K := K) (walk_list (xs := xs)) (l := ct) [b] lx few (fun rs => .list (rs.map rowD)) nD (fun H' k => (kept_same k nD).seq sC) (fun m x rs' H' C N hx hl kk eD hC => ?_) (fun us H2 gr kk => ?_) oD
    · obtain ⟨rs2, hr1, hr2⟩ := cont_at hCA1 hx
      rw [hl] at hr1
      cases hr1
      obtain ⟨rp, ys, rfl, g1, g2, g3⟩ := rows_dp hr2
      have sk := kept_same kk nD
      have few9 := few2 rs' (List.mem_of_getElem? hl)
      obtain ⟨wsD, eD⟩ := eD
      refine ⟨rfl, iteT ?_⟩
      refine ⟨.ref rp, rfl, rp, rfl, ⟨ys, sk.seq ((msk_sub _ _).seq g1)⟩, fun D' nD' => ?_⟩
      have nDD : D ≠ D' := ne_of_none eD nD'
      have nbD' := (S1.same sk).ne nD'
      refine lc_dp (K := K) (walk_list (xs := ys)) (l := rs') [D, b] g3 few9 (rowD) nD' (fun H'' k => (kept_same k nD').seq (sk.seq ((msk_sub _ _).seq g1))) (fun m2 x2 row H'' C2 N2 hx2 hl2 kk2 eD2 hC2 => ?_) (fun us2 H4 gr2 kk2 => ?_) (by simp [nDD.symm, nbD'.symm])
      · obtain ⟨row2, rq, hr3, rfl, hr4⟩ := row_at' g2 hx2
        rw [hl2] at hr3
        cases hr3
        obtain ⟨wsD2, eD2⟩ := eD2
        have sk2 := kept_same kk2 nD'
        have hr5 := sameT (msk_sub _ _) hr4
        have msk2 : Same (msk [b] H1) (msk (D' :: [D, b]) H'') := fun p o e => by
          have h1 := msk_sub _ _ p o e
          have hb : p ∉ [b] := fun z => by unfold msk at e; rw [if_pos z] at e; cases e
          have h2 : p ≠ D := fun z => by rw [z, nD] at h1; cases h1
          have h3 : p ≠ D' := fun z => by
            have := sk _ _ h1
            rw [z, nD'] at this; cases this
          refine msk_at (sk2 _ _ (sk _ _ h1)) ?_
          simp only [List.mem_cons, List.not_mem_nil, or_false] at hb ⊢
          rintro (z | z | z)
          · exact h3 z
          · exact h2 z
          · exact hb z
        refine ⟨rfl, iteT ?_⟩
        refine ⟨.ref rq, rfl, rq, row.map wV, rfl, .inr ⟨sameT (sk.trans sk2) hr5, ?_⟩⟩
        exact hC2 _ _ (Kept.refl _ _) (.tup (sameT msk2 hr4) (dp_ws row))
      · exact hC _ _ ((kk2.mono (fun p h => h)).new nD') (gr2.done (by simp [nDD.symm, nbD'.symm]))
    · exact q (.ref D) false false true H2 (gr.done oD) (S1.same (kept_same kk nD)) (K1.trans (Kept.of_same (kept_same kk nD)))
  refine ⟨.int way, rfl, rfl, _, rfl, ite2 (fun _ => ?_) (fun _ => ?_)⟩
  · refine ⟨.ref cp, rfl, cp, rfl, ⟨xs, sC⟩, fun D nD => ?_⟩
    have oD := S1.out nD
    refine lc_dp (K := K) (walk_list (xs := xs)) (l := ct) [b] lx few (fun rs => .list (rs.map fun row => .list (row.map wD))) nD (fun H' k => (kept_same k nD).seq sC) (fun m x rs' H' C N hx hl kk eD hC => ?_) (fun us H2 gr kk => ?_) oD
    · obtain ⟨rs2, hr1, hr2⟩ := cont_at hCA1 hx
      rw [hl] at hr1
      cases hr1
      obtain ⟨rp, ys, rfl, g1, g2, g3⟩ := rows_dp hr2
      have sk := kept_same kk nD
      have few9 := few2 rs' (List.mem_of_getElem? hl)
      obtain ⟨wsD, eD⟩ := eD
      refine ⟨rfl, iteT ?_⟩
      refine ⟨.ref rp, rfl, rp, rfl, ⟨ys, sk.seq ((msk_sub _ _).seq g1)⟩, fun D' nD' => ?_⟩
      have nDD : D ≠ D' := ne_of_none eD nD'
      have nbD' := (S1.same sk).ne nD'
      refine lc_dp (K := K) (walk_list (xs := ys)) (l := rs') [D, b] g3 few9 (fun row => .list (row.map wD)) nD' (fun H'' k => (kept_same k nD').seq (sk.seq ((msk_sub _ _).seq g1))) (fun m2 x2 row H'' C2 N2 hx2 hl2 kk2 eD2 hC2 => ?_) (fun us2 H4 gr2 kk2 => ?_) (by simp [nDD.symm, nbD'.symm])
      · obtain ⟨row2, rq, hr3, rfl, hr4⟩ := row_at' g2 hx2
        rw [hl2] at hr3
        cases hr3
        obtain ⟨wsD2, eD2⟩ := eD2
        have sk2 := kept_same kk2 nD'
        have hr5 := sameT (msk_sub _ _) hr4
        have msk2 : Same (msk [b] H1) (msk (D' :: [D, b]) H'') := fun p o e => by
          have h1 := msk_sub _ _ p o e
          have hb : p ∉ [b] := fun z => by unfold msk at e; rw [if_pos z] at e; cases e
          have h2 : p ≠ D := fun z => by rw [z, nD] at h1; cases h1
          have h3 : p ≠ D' := fun z => by
            have := sk _ _ h1
            rw [z, nD'] at this; cases this
          refine msk_at (sk2 _ _ (sk _ _ h1)) ?_
          simp only [List.mem_cons, List.not_mem_nil, or_false] at hb ⊢
          rintro (z | z | z)
          · exact h3 z
          · exact h2 z
          · exact hb z
        refine ⟨rfl, iteT ?_⟩
        refine ⟨.ref rq, rfl, rq, row.map wV, rfl, .inr (sameT (sk.trans sk2) hr5), fun l nl => ?_⟩
        refine hC2 _ _ (Kept.upd_new nl) (.lst (.inl (.inl (msk_at upd_same ?_))) (dp_ws row))
        have n1 : D' ≠ l := ne_of_none eD2 nl
        have n2 : D ≠ l := ne_of_none (sk2 _ _ eD) nl
        have n3 := ((S1.same sk).same sk2).ne nl
        simp [n1.symm, n2.symm, n3.symm]
      · exact hC _ _ ((kk2.mono (fun p h => h)).new nD') (gr2.done (by simp [nDD.symm, nbD'.symm]))
    · exact q (.ref D) false false false H2 (gr.done oD) (S1.same (kept_same kk nD)) (K1.trans (Kept.of_same (kept_same kk nD)))
  · refine ⟨.ref cp, rfl, cp, rfl, ⟨xs, sC⟩, fun D nD => ?_⟩
    have oD := S1.out nD
    refine lc_dp (K := K) (walk_list (xs := xs)) (l := ct) [b] lx few (fun rs => .tuple (rs.map rowD)) nD (fun H' k => (kept_same k nD).seq sC) (fun m x rs' H' C N hx hl kk eD hC => ?_) (fun us H2 gr kk => ?_) oD
    · obtain ⟨rs2, hr1, hr2⟩ := cont_at hCA1 hx
      rw [hl] at hr1
      cases hr1
      obtain ⟨rp, ys, rfl, g1, g2, g3⟩ := rows_dp hr2
      have sk := kept_same kk nD
      have few9 := few2 rs' (List.mem_of_getElem? hl)
      obtain ⟨wsD, eD⟩ := eD
      refine ⟨rfl, iteT ?_⟩
      refine ⟨.ref rp, rfl, rp, rfl, ⟨ys, sk.seq ((msk_sub _ _).seq g1)⟩, fun D' nD' => ?_⟩
      have nDD : D ≠ D' := ne_of_none eD nD'
      have nbD' := (S1.same sk).ne nD'
      refine lc_dp (K := K) (walk_list (xs := ys)) (l := rs') [D, b] g3 few9 (rowD) nD' (fun H'' k => (kept_same k nD').seq (sk.seq ((msk_sub _ _).seq g1))) (fun m2 x2 row H'' C2 N2 hx2 hl2 kk2 eD2 hC2 => ?_) (fun us2 H4 gr2 kk2 => ?_) (by simp [nDD.symm, nbD'.symm])
      · obtain ⟨row2, rq, hr3, rfl, hr4⟩ := row_at' g2 hx2
        rw [hl2] at hr3
        cases hr3
        obtain ⟨wsD2, eD2⟩ := eD2
        have sk2 := kept_same kk2 nD'
        have hr5 := sameT (msk_sub _ _) hr4
        have msk2 : Same (msk [b] H1) (msk (D' :: [D, b]) H'') := fun p o e => by
          have h1 := msk_sub _ _ p o e
          have hb : p ∉ [b] := fun z => by unfold msk at e; rw [if_pos z] at e; cases e
          have h2 : p ≠ D := fun z => by rw [z, nD] at h1; cases h1
          have h3 : p ≠ D' := fun z => by
            have := sk _ _ h1
            rw [z, nD'] at this; cases this
          refine msk_at (sk2 _ _ (sk _ _ h1)) ?_
          simp only [List.mem_cons, List.not_mem_nil, or_false] at hb ⊢
          rintro (z | z | z)
          · exact h3 z
          · exact h2 z
          · exact hb z
        refine ⟨rfl, iteT ?_⟩
        refine ⟨.ref rq, rfl, rq, row.map wV, rfl, .inr ⟨sameT (sk.trans sk2) hr5, ?_⟩⟩
        exact hC2 _ _ (Kept.refl _ _) (.tup (sameT msk2 hr4) (dp_ws row))
      · refine ⟨D', us2, rfl, .inl ⟨.inl (.inl gr2.at'), fun l nl => ?_⟩⟩
        have n1 : D' ≠ l := ne_of_none gr2.at' nl
        have n2 : D ≠ l := ne_of_none ((kept_same kk2 nD') _ _ eD) nl
        have n3 := ((S1.same sk).same (kept_same kk2 nD')).ne nl
        refine hC _ _ (((kk2.mono (fun p h => h)).new nD').trans (Kept.upd_new nl)) (.tup (.inl (.inl (msk_at upd_same (by simp [n2.symm, n3.symm])))) ?_)
        exact dpAll_same ((msk_less sub_push).trans (msk_same (Kept.upd_new nl))) gr2.dp
    · refine ⟨D, us, rfl, .inl ⟨.inl (.inl gr.at'), fun l nl => ?_⟩⟩
      have S2 := S1.same (kept_same kk nD)
      have sl := same_upd (o := .tup us) nl
      refine q (.ref l) true true true _ (.tup (.inl (.inl (msk_at upd_same (S2.out nl)))) ?_) (S2.same sl) ((K1.trans (Kept.of_same (kept_same kk nD))).trans (Kept.upd_new nl))
      exact dpAll_same ((msk_less sub_push).trans (msk_same (Kept.of_same sl))) gr.dp
end
end TT

set_option Elab.async false
set_option linter.all false
set_option maxRecDepth 100000
namespace TT
open PySem PySem.Spec PyProof.Rows L2
/-! ### a def with a parameter that is given by its name -/
def DefK (P : Program) (w : World) (K : PySem.W.Frag) (mg : Str → Option Value) (base : Heap) (k : Nat) (x : Str) (ps : List Str) (n : Nat) (ks : List Str) (sp : Sp) : Prop :=
  ∃ f fd, mg x = some (.ref f) ∧ PySem.W.keepIn K (.ref f) = true ∧ KBn K fd ps n ks (fun us ws => us ++ ws) (fun us ws => us ++ ws) ∧ FnOk P w K mg base CX0 k f fd ps sp
theorem vals_app {vs : List V} {us : List Value} {zs : List V} {ws : List Value} (a : Vals vs us) (b : Vals zs ws) : Vals (vs ++ zs) (us ++ ws) := by
  induction a with
  | nil => exact b
  | cons h t ih => exact .cons h ih
section
variable {X : Cx} {k j n : Nat} {x : Str} {ps ks : List Str} {sp : Sp} {p pos : Pos} {e : Expr} {es : List Expr} {kws : List Keyword} {t tk : TA}
theorem pe_ownK (D : DefK X.prog X.w X.K X.mg X.base k x ps n ks sp) (hr : Room j X.A) (ha : PA X (e :: es) t) (hkw : PK X kws tk) (hkj : k ≤ j := by decide) (hg : Gl X x := by rfl)
    (h1 : ((backToKw pos (keywordEach kws X.env)).all fun x => x.1.isSome) = true := by rfl) (h2 : (backToKw pos (keywordEach kws X.env)).filterMap (fun x => x.1) = ks := by rfl) (hdb : (x == ("__debug__" : Str)) = false := by decide)
    (he : starEach (e :: es) X.env = (false, eval e X.env) :: starEach es X.env := by rfl) (hpl : ((backTo pos (starEach (e :: es) X.env)).any (·.1) || (backToKw pos (keywordEach kws X.env)).any fun x => x.1.isNone) = false := by rfl) :
    PE X (.Call (.Name x p) (e :: es) kws pos) (tCallN n ks.length sp (fun us ws => us ++ ws) E0 t tk) := by
  obtain ⟨f, fd, hm, hk, hb, F⟩ := D
  exact pe_callN F (hr.mono hkj) hg hm hk hb pass0 ha hkw h1 h2 hdb he hpl
end
end TT

set_option Elab.async false
set_option linter.all false
set_option maxRecDepth 100000
namespace TT
open PySem PySem.Spec PyProof.Rows L2
/-- keys in order, in bounds -/
structure KsOk (ks : List Int) : Prop where
  up : ks.Pairwise (· < ·)
  few : ks.length ≤ 10
  bd : ∀ k ∈ ks, WOk (some k)
/-- a list of lists of keys, each by itself -/
structure Marks (Ms : List Addr) (H : Hp) (M : Addr) (ps : List Addr) (kss : List (List Int)) : Prop where
  at' : H M = some (.lst (ps.map V.ref))
  len : ps.length = kss.length
  it : ∀ (j : Nat) (p : Addr) (ks : List Int), ps[j]? = some p → kss[j]? = some ks → H p = some (.lst (ks.map V.int))
  outM : M ∉ Ms
  out : ∀ p ∈ ps, p ∉ Ms
theorem Marks.kept {Ms : List Addr} {H H' : Hp} {M : Addr} {ps : List Addr} {kss : List (List Int)} (h : Marks Ms H M ps kss) (k : Kept Ms H H') : Marks Ms H' M ps kss :=
  ⟨k.at h.at' h.outM, h.len, fun j p ks h1 h2 => k.at (h.it j p ks h1 h2) (h.out p (List.mem_of_getElem? h1)), h.outM, h.out⟩
theorem Marks.get {Ms : List Addr} {H : Hp} {M : Addr} {ps : List Addr} {kss : List (List Int)} (h : Marks Ms H M ps kss) {j : Nat} (hj : j < kss.length) : ∃ p ks, ps[j]? = some p ∧ kss[j]? = some ks ∧ ks ∈ kss ∧ H p = some (.lst (ks.map V.int)) ∧ p ∉ Ms := by
  have hj2 : j < ps.length := by rw [h.len]; exact hj
  have h1 : ps[j]? = some ps[j] := List.getElem?_eq_getElem hj2
  have h2 : kss[j]? = some kss[j] := List.getElem?_eq_getElem hj
  exact ⟨_, _, h1, h2, List.getElem_mem _, h.it j _ _ h1 h2, h.out _ (List.getElem_mem _)⟩
theorem wOk_small {d : Int} (h0 : 0 ≤ d) (h1 : d < 12) : WOk (some (d - 3)) := ⟨by omega, by omega⟩
theorem map_ints {ks : List Int} : (ks.map some).map wV = ks.map V.int := by rw [List.map_map]; rfl
theorem atI_ws {ws : List (Option Int)} {d : Int} (h0 : 0 ≤ d) (h1 : d < ws.length) : ∃ o ∈ ws, atI (ws.map wV) d = some (wV o) := by
  obtain ⟨j, rfl⟩ : ∃ j : Nat, d = (j : Int) := ⟨d.toNat, by omega⟩
  have hj : j < ws.length := by omega
  exact ⟨ws[j], List.getElem_mem _, atI_nat (by rw [List.getElem?_map, List.getElem?_eq_getElem hj]; rfl)⟩
theorem rep_ints (c : Bool) (v : Int) : ∃ rp : List Int, (List.replicate ((if c = true then 1 else 0 : Int)).toNat [V.int v]).flatten = rp.map V.int ∧ rp.length ≤ 1 ∧ ∀ x ∈ rp, x = v := by
  cases c
  · exact ⟨[], rfl, Nat.zero_le _, fun _ h => absurd h List.not_mem_nil⟩
  · exact ⟨[v], rfl, Nat.le_refl _, fun x h => List.mem_singleton.mp h⟩
theorem b63 (c : Bool) : -(2 ^ 63 : Int) ≤ (if c = true then 1 else 0) ∧ (if c = true then 1 else 0 : Int) < 2 ^ 63 ∧ 1 * (if c = true then 1 else 0 : Int).toNat ≤ sizeLine := by cases c <;> exact ⟨by decide, by decide, by show _ ≤ 16777216; decide⟩
theorem sIx1 {n : Nat} (h : 0 < n) : HT.sIx n 0 (some 1) ≠ 0 := by
  show (if (1 : Int) < 0 then ((1 : Int) + n).toNat else min (1 : Int).toNat n) ≠ 0
  rw [if_neg (by decide)]
  show min 1 n ≠ 0
  omega
theorem ps_refs {ps : List Addr} {j : Nat} {p : Addr} (h : ps[j]? = some p) : (ps.map V.ref)[j]? = some (.ref p) := by rw [List.getElem?_map, h]; rfl
section
variable {P : Program} {w : World} {K : PySem.W.Frag} {mg : Str → Option Value} {base : Heap}
def spContentB (K : PySem.W.Frag) : Sp := fun vs H Q _ => ∃ (b tp ep : Addr) (T m : Nat) (ts : List Tab) (es : List (List Str)), vs = [.ref b, .ref tp, .ref ep, .int m] ∧ BoxAt H b T ∧ T + 1000 ≤ 1000000 ∧ m ≤ 9 ∧ ts.length ≤ 5 ∧ Tabs K (msk [b] H) tp ts ∧
  Dp K (msk [b] H) (.ref ep) (.tuple (es.map tieD)) ∧ (∀ zs ∈ es, TieOk ts zs) ∧ es.length ≤ 900 ∧
  ∀ (p : Addr) (ct : List (List Rw)) (H' : Hp), ContOk 10 ts ct → H p = none → (∃ us, Grow K [b] H' p us (ct.map rowsD)) → BoxAt H' b (T + 1000) → Kept [b] H H' → Q (.ref p) H'
abbrev s_law_content : Stmt := topS 22
abbrev N_law_content : List Str := ["box", "tables", "ties", "most", "marks", "found", "table", "some", "at", "columns", "rows", "mark", "row", "column", "fallback", "on", "more", "turn", "tie"]
theorem sc_law_content : FnScope N_law_content ["box", "tables", "ties", "most"] (defScope s_law_content) := ⟨rfl, rfl, rfl, by decide +kernel, rfl, by decide +kernel, by decide +kernel⟩

set_option maxHeartbeats 8000000 in
theorem ok_law_content {f : Addr} {fd : FuncData} (F : Fun K "_law_content" "_law_content" s_law_content f fd) (nb : NB mg) (D_law_take : Def P w K mg base 1 "_law_take" ["box", "many"] spTakeB)
    (D_law_place : Def P w K mg base 1 "_law_place" ["tables", "table"] (spTabPlace K)) : FnOk P w K mg base CX0 2 f fd ["box", "tables", "ties", "most"] (spContentB K) := by
  refine F.ok sc_law_content (fun vs H Q E h => ?_) (fun cdv A outer sh H vs Q E hr h => ?_)
  · obtain ⟨b, tp, ep, T, m, ts, es, rfl, _⟩ := h
    rfl
  obtain ⟨b, tp, ep, T, m, ts, es, rfl, S, hT, hm, l5, hTb, hE, hes, fewE, q⟩ := h
  have nd := sc_law_content.nd
  refine ⟨_, (pss_cons (ps_par (i := 4) (j := 5) (by rfl) nd rfl rfl (by decide) rfl rfl (pa_cons (pe_lst pa_nil) (pa_cons (pe_lst pa_nil) pa_nil)) (by rfl))
      (pss_cons (ps_for PassesOwn.never rfl (pi_tup (pv 1)) (pg_name (i := 6) nd rfl (Or.inr rfl))
        (pss_cons (ps_setLc (i := 7) (own := [("turn", 17)]) (g := (gName 17)) (tt := tYes) rfl nd rfl rfl (sw_true rfl rfl rfl (by decide +kernel)) (pi_range1 (by rfl) nb.b_range (pa_cons (pe_own D_law_take hr (pa_cons (pv 0) (pa_cons (pe_op op_add (pv 3) pe_int) pa_nil))) pa_nil)) (blkOk_by (N := N_law_content) (sc := defScope s_law_content) (by decide +kernel)) (fun _ _ _ _ _ => (pg_name (i := 17) nd rfl (Or.inl rfl))) (fun _ _ _ _ _ => pts_nil) (fun _ _ _ _ _ => (pe_op op_sub (pe_own D_law_take hr (pa_cons (pv 0) (pa_cons pe_int pa_nil))) pe_int)))
        (pss_one (ps_expr (pe_bm PySem.F.plainAttrs_list PySem.F.slot_list_append PySem.F.type_list_append mt_append (pv 4) (pa_cons (pe_sortSet nb.b_sorted nb.b_set (pe_op op_cat (pv 7) (pe_op op_rep (pe_lst (pa_cons (pe_op op_pow pe_int pe_int) pa_nil)) (pe_callTy call_int1 (by rfl) nb.b_int (by decide +kernel) (pa_cons (pe_cmpR op_eq (pe_own D_law_take hr (pa_cons (pv 0) (pa_cons pe_int pa_nil))) pe_int (nomark _)) pa_nil))))) pa_nil))))))
      (pss_cons (ps_for PassesOwn.never rfl (pi_enumT (by rfl) nb.b_enumerate (pa_cons (pv 1) pa_nil)) (pg_tup rfl (pgs_cons (pg_name (i := 8) nd rfl (Or.inl rfl)) (pgs_cons (pg_tup rfl (pgs_cons (pg_name (i := 6) nd rfl (Or.inr rfl)) (pgs_cons (pg_name (i := 9) nd rfl (Or.inl rfl)) pgs_nil))) pgs_nil)))
        (pss_cons (ps_set (i := 10) nd rfl (Or.inl rfl) (pe_lst pa_nil))
        (pss_cons (ps_for PassesOwn.never rfl (pi_list (pe_ix ix_list (pv 4) (pv 8) (fun _ _ => rfl))) (pg_name (i := 11) nd rfl (Or.inl rfl))
          (pss_cons (ps_set (i := 12) nd rfl (Or.inl rfl) (pe_lst (pa_cons (pv 11) pa_nil)))
          (pss_cons (ps_for PassesOwn.never rfl (pi_tup (pe_slice sl_tup (pv 9) (po_some pe_int) po_none)) (pg_tup rfl (pgs_cons (pg_name (i := 13) nd rfl (Or.inr rfl)) (pgs_cons (pg_name (i := 14) nd rfl (Or.inl rfl)) pgs_nil)))
            (pss_cons (ps_setLc (i := 15) (own := [("tie", 18)]) (g := (gName 18)) rfl nd rfl rfl (sw_true rfl rfl rfl (by decide +kernel)) (pi_tup (pv 2)) (blkOk_by (N := N_law_content) (sc := defScope s_law_content) (by decide +kernel)) (fun _ _ _ _ _ => (pg_name (i := 18) nd rfl (Or.inl rfl))) (fun _ _ _ _ _ => (pts_one (pt_cmpR (r := rEqD K) (op_eqD hr.units) (pe_slice (r := rSlT K) sl_tup (pv 18) (po_some pe_int) (po_some pe_int)) (pe_tup (pa_cons (pv 6) (pa_cons (pv 13) pa_nil))) (nomark _)))) (fun _ _ _ _ _ => (pe_ix (r := rIxT K) ix_tup (pv 18) pe_int (fun _ _ => rfl))))
            (pss_cons (ps_set (i := 7) nd rfl (Or.inl rfl) (pe_lst (pa_cons pe_int (pa_cons pe_int (pa_cons pe_int pa_nil)))))
            (pss_cons (ps_if (pt_cmpR (op_neD hr.units) (pv 15) (pe_lst pa_nil) (nomark _))
              (pss_one (ps_set (i := 7) nd rfl (Or.inl rfl) (pe_ix ix_list (pv 4) (pe_own D_law_place hr (pa_cons (pv 1) (pa_cons (pe_ix ix_list (pv 15) (pe_own D_law_take hr (pa_cons (pv 0) (pa_cons (pe_callB call_len_seq (by rfl) nb.b_len (by decide +kernel) (pa_cons (pv 15) pa_nil)) pa_nil))) (fun _ _ => rfl)) pa_nil))) (fun _ _ => rfl))))
              pss_nil)
            (pss_cons (ps_set (i := 16) nd rfl (Or.inl rfl) (pe_op op_cat (pe_lst (pa_cons pe_non (pa_cons (pv 14) (pa_cons (pe_op op_sub (pe_own D_law_take hr (pa_cons (pv 0) (pa_cons pe_int pa_nil))) pe_int) pa_nil)))) (pe_slice sl_list (pe_op op_cat (pe_op op_cat (pv 7) (pv 7)) (pv 7)) po_none (po_some pe_int))))
            (pss_one (ps_expr (pe_bm PySem.F.plainAttrs_list PySem.F.slot_list_append PySem.F.type_list_append mt_append (pv 12) (pa_cons (pe_ix ix_list (pv 16) (pe_own D_law_take hr (pa_cons (pv 0) (pa_cons (pe_callB call_len_seq (by rfl) nb.b_len (by decide +kernel) (pa_cons (pv 16) pa_nil)) pa_nil))) (fun _ _ => rfl)) pa_nil)))))))))
          (pss_one (ps_expr (pe_bm PySem.F.plainAttrs_list PySem.F.slot_list_append PySem.F.type_list_append mt_append (pv 10) (pa_cons (pe_callTy call_tuple_of (by rfl) nb.b_tuple (by decide +kernel) (pa_cons (pv 12) pa_nil)) pa_nil)))))))
        (pss_one (ps_expr (pe_bm PySem.F.plainAttrs_list PySem.F.slot_list_append PySem.F.type_list_append mt_append (pv 5) (pa_cons (pv 10) pa_nil)))))))
      (pss_one (ps_ret (pv 5)))))), ?_⟩
  have l0 := hTb.l0
  have okt := hTb.ok
  obtain ⟨ws, hWS, hWA, lw⟩ := hTb.parts
  obtain ⟨q0, xs, e0, hES, hEA⟩ := seq_dp (b := true) hE
  cases e0
  refine ⟨Nat.zero_le _, fun MK n1 => ⟨Nat.zero_le _, fun F1 n2 => ⟨_, _, rfl, ?_⟩⟩⟩
  have oM := S.out n1
  have nMF : MK ≠ F1 := ne_of_none upd_same n2
  have oF := (S.same (same_upd (o := .lst []) n1)).out n2
  have hF0 : H F1 = none := Same.free (same_upd n1) n2
  have S1 := (S.same (same_upd (o := .lst []) n1)).same (same_upd (o := .lst []) n2)
  have eM : (upd (upd H MK (.lst [])) F1 (.lst [])) MK = some (.lst []) := by rw [upd_ne nMF]; exact upd_same
  have eF : (upd (upd H MK (.lst [])) F1 (.lst [])) F1 = some (.lst []) := upd_same
  have K1 : Kept [b] H (upd (upd H MK (.lst [])) F1 (.lst [])) := (Kept.upd_new n1).trans (Kept.upd_new n2)
  show tSeq _ _ _ [some (.ref b), some (.ref tp), some (.ref ep), some (.int m), some (.ref MK), some (.ref F1), none, none, none, none, none, none, none, none, none, none, none, none, none] (upd (upd H MK (.lst [])) F1 (.lst []))
  generalize upd (upd H MK (.lst [])) F1 (.lst []) = H1 at S1 eM eF K1 ⊢
  -- the keys
  refine ⟨.ref tp, rfl, tp, rfl, ⟨ws, sameT ((msk_same K1).trans (msk_sub _ _)) hWS⟩, ?_⟩
  refine for_it (walk_tup (xs := ws)) (fun i σ H' => (∃ y6 y7, σ = [some (.ref b), some (.ref tp), some (.ref ep), some (.int m), some (.ref MK), some (.ref F1), y6, y7, none, none, none, none, none, none, none, none, none, none, none]) ∧ (∃ ps kss, Marks [F1, b] H' MK ps kss ∧ MK ∉ ps ∧ kss.length = i ∧ ∀ ks ∈ kss, KsOk ks) ∧
      BoxAt H' b (T + i * 11) ∧ H' F1 = some (.lst []) ∧ Kept [MK, F1, b] H1 H') ⟨⟨_, _, rfl⟩, ⟨[], [], ⟨eM, rfl, (fun j p ks h _ => by simp at h), (by simpa using ⟨nMF, fun z => oM (List.mem_singleton.mpr z)⟩), fun _ h => absurd h List.not_mem_nil⟩, List.not_mem_nil, rfl, fun _ h => absurd h List.not_mem_nil⟩, S1.mono (by omega), eF, Kept.refl _ _⟩ (fun i σ H' _ hP => ?G) (fun i x σ H' H5 hi hP hY => ?_) (fun σ H5 hP => ?_)
  case G =>
    have k0 : Kept (MK :: F1 :: [b]) H H' := (K1.mono fun p h => List.mem_cons_of_mem _ (List.mem_cons_of_mem _ h)).trans hP.2.2.2.2
    exact sameT ((msk_same ((k0.new n1).new hF0)).trans (msk_sub _ _)) hWS
  · obtain ⟨rfl, hx⟩ := hY
    obtain ⟨⟨y6, y7, rfl⟩, ⟨ps, kss, mk, nps, lk, hks⟩, S5, eF5, K05⟩ := hP
    refine ⟨.ref b, rfl, .int m, rfl, _, _, rfl, rfl, b, _, _, rfl, S5, by omega, by omega, by omega, fun n6 H6 n60 n61 S6 K6 => ⟨n6, rfl, by omega, by omega, fun D nD => ?_⟩⟩
    have nbD := S6.ne nD
    have mk6 := mk.kept (K6.mono fun p h => List.mem_cons_of_mem _ h)
    have nMD : MK ≠ D := ne_of_none mk6.at' nD
    have eF6 := K6.at eF5 oF
    have nFD : F1 ≠ D := ne_of_none eF6 nD
    refine lc_range (lo := 0) (n := n6.toNat) (fun j H' => ∃ l : List Int, l.length = j ∧ (∀ x ∈ l, WOk (some x)) ∧ H' D = some (.lst (l.map V.int)) ∧ BoxAt H' b (T + i * 11 + 1 + j) ∧ Kept [D, b] H6 H') ⟨[], rfl, fun _ h => absurd h List.not_mem_nil, upd_same, S6.same (same_upd nD), Kept.upd_in (List.mem_cons_self ..)⟩ (fun j H7 hj hP => ?_) (fun H7 hP => ?_)
    · obtain ⟨l, el, hl, eD, S7, K7⟩ := hP
      refine ⟨rfl, ?_⟩
      unfold tYes
      dsimp only
      refine iteT ?_
      refine ⟨.ref b, rfl, b, _, 12, rfl, S7, by omega, by decide, by decide, fun d H8 d0 d1 S8 K8 => ⟨_, _, rfl, rfl, ?_⟩⟩
      have eD8 : H8 D = some (.lst (l.map V.int)) := K8.at eD (by simp [nbD.symm])
      refine ⟨_, eD8, by rw [List.length_map]; exact small1000 (by omega), l ++ [d - 3], ?_, ?_, ?_, ?_, ?_⟩
      · rw [List.length_append, el]; rfl
      · intro x hx
        rcases List.mem_append.mp hx with h | h
        · exact hl x h
        · rw [List.mem_singleton.mp h]; exact wOk_small d0 d1
      · rw [upd_same, List.map_append]; rfl
      · exact S8.kept (Kept.upd_in (M := [D]) (List.mem_cons_self ..)) (by simp [nbD])
      · exact (K7.trans (K8.mono (by intro p hp; exact List.mem_cons_of_mem _ hp))).trans (Kept.upd_in (List.mem_cons_self ..))
    · obtain ⟨l, el, hl, eD, S7, K7⟩ := hP
      have k57 : Kept [b] H5 H7 := K6.trans (K7.new nD)
      have mk7 := mk.kept (k57.mono fun p h => List.mem_cons_of_mem _ h)
      refine ⟨.ref MK, rfl, .inl ⟨rfl, _, .inl (.inl mk7.at')⟩, .ref D, rfl, _, _, rfl, rfl, ⟨by decide, by decide, by decide⟩, (by show 1 ≤ sizeLine; decide), fun L nL => ?_⟩
      have S7L := S7.same (same_upd (o := .lst [.int (10 ^ (9 : Int).toNat)]) nL)
      have oL := S7.out nL
      refine ⟨.ref b, rfl, b, _, 9, rfl, S7L, by omega, by decide, by decide, fun d9 H9 d90 d91 S9 K9 => ⟨rfl, .inr ⟨_, rfl, ?_⟩⟩⟩
      have k79 : Kept [b] H7 H9 := (Kept.upd_new nL).trans K9
      have eL9 : H9 L = some (.lst [.int (10 ^ (9 : Int).toNat)]) := K9.at upd_same oL
      have eD9 : H9 D = some (.lst (l.map V.int)) := k79.at eD (by simp [nbD.symm])
      obtain ⟨rp, hrp, lrp, hrpx⟩ := rep_ints (decide (V.int d9 = V.int 0)) (10 ^ (9 : Int).toNat)
      refine ⟨L, _, _, rfl, rfl, eL9, (b63 _).1, (b63 _).2.1, (b63 _).2.2, fun p2 np2 => ?_⟩
      rw [hrp]
      have nDp2 : D ≠ p2 := ne_of_none eD9 np2
      refine ⟨D, p2, _, _, rfl, rfl, (by rw [upd_ne nDp2]; exact eD9), upd_same, (by rw [List.length_map, List.length_map]; exact Nat.le_of_lt (small1000 (by omega))), fun C nC => ?_⟩
      rw [← List.map_append]
      refine ⟨C, l ++ rp, rfl, .inl (.inl upd_same), (by rw [List.length_append]; omega), fun P3 H10 ks s10 nP3 hup hmem hlen eP3 => ?_⟩
      have k710 : Kept [b] H7 H10 := k79.trans ((Kept.upd_new np2).trans ((Kept.upd_new nC).trans (Kept.of_same s10)))
      have k510 : Kept [b] H5 H10 := k57.trans k710
      have mkA := mk.kept (k510.mono fun p h => List.mem_cons_of_mem _ h)
      have SA := ((S9.same (same_upd np2)).same (same_upd nC)).same s10
      have k79C := k79.trans ((Kept.upd_new (M := [b]) (o := .lst (rp.map V.int)) np2).trans (Kept.upd_new (o := .lst ((l ++ rp).map V.int)) nC))
      have nMP : MK ≠ P3 := ne_of_none (k79C.at mk7.at' oM) nP3
      have nFP : F1 ≠ P3 := ne_of_none (k79C.at (k57.at eF5 oF) oF) nP3
      have nbP : b ≠ P3 := ((S9.same (same_upd np2)).same (same_upd nC)).ne nP3
      refine ⟨MK, _, .ref P3, rfl, rfl, mkA.at', (by rw [List.length_map, mk.len]; exact small1000 (by omega)), ⟨_, _, rfl⟩, ⟨ps ++ [P3], kss ++ [ks], ⟨?_, ?_, ?_, mk.outM, ?_⟩, ?_, ?_, ?_⟩, ?_, ?_, ?_⟩
      · rw [upd_same, List.map_append]; rfl
      · rw [List.length_append, List.length_append, mk.len]; rfl
      · intro j p kj h1 h2
        by_cases hj : j < ps.length
        · rw [List.getElem?_append_left hj] at h1
          rw [List.getElem?_append_left (by rw [← mk.len]; exact hj)] at h2
          rw [upd_ne (fun z => nps (by rw [← z]; exact List.mem_of_getElem? h1))]
          exact mkA.it j p kj h1 h2
        · have hj2 : j = ps.length := by
            have := (List.getElem?_eq_some_iff.mp h1).1
            rw [List.length_append, List.length_singleton] at this
            omega
          subst hj2
          rw [List.getElem?_concat_length] at h1
          rw [mk.len, List.getElem?_concat_length] at h2
          cases h1; cases h2
          rw [upd_ne nMP.symm]; exact eP3
      · intro p hp
        rcases List.mem_append.mp hp with h | h
        · exact mk.out p h
        · rw [List.mem_singleton.mp h]; simp [nFP.symm, nbP.symm]
      · intro h
        rcases List.mem_append.mp h with h | h
        · exact nps h
        · exact nMP (List.mem_singleton.mp h)
      · rw [List.length_append, lk]; rfl
      · intro kj hkj
        rcases List.mem_append.mp hkj with h | h
        · exact hks kj h
        · rw [List.mem_singleton.mp h]
          refine ⟨hup, by rw [List.length_append] at hlen; omega, fun k hk => ?_⟩
          rcases List.mem_append.mp ((hmem k).mp hk) with h | h
          · exact hl k h
          · rw [hrpx k h]; exact ⟨by decide, by decide⟩
      · exact ((SA.kept (Kept.upd_in (M := [MK]) (List.mem_cons_self ..)) (by intro z; exact oM (by rw [List.mem_singleton.mp z]; simp))).mono (by omega))
      · rw [upd_ne (fun z => nMF z.symm)]
        exact k510.at eF5 oF
      · exact K05.trans ((k510.mono fun p h => List.mem_cons_of_mem _ (List.mem_cons_of_mem _ h)).trans (Kept.upd_in (List.mem_cons_self ..)))
  obtain ⟨⟨y6, y7, rfl⟩, ⟨ps, kss, mk, nps, lk, hks⟩, S5, eF5, K05⟩ := hP
  have KB : Kept [b] H H5 := by
    have k0 : Kept (MK :: F1 :: [b]) H H5 := (K1.mono fun p h => List.mem_cons_of_mem _ (List.mem_cons_of_mem _ h)).trans K05
    exact (k0.new n1).new hF0
  rw [lw] at lk S5
  clear K05 K1 eM eF S1 S
  -- the rows
  have hb5 : ws.length ≤ 5 := by omega
  refine ⟨.ref tp, rfl, tp, ws, rfl, sameT ((msk_same KB).trans (msk_sub _ _)) hWS, ?_⟩
  refine for_it (walk_enumT (xs := ws)) (fun i σ H' => (∃ y6 y7 y8 y9 y10 y11 y12 y13 y14 y15 y16, σ = [some (.ref b), some (.ref tp), some (.ref ep), some (.int m), some (.ref MK), some (.ref F1), y6, y7, y8, y9, y10, y11, y12, y13, y14, y15, y16, none, none]) ∧
      (∃ us ct, Grow K [b] H' F1 us (ct.map rowsD) ∧ ct.length = i ∧ ∀ (j : Nat) (t : Tab) (rs : List Rw), ts[j]? = some t → ct[j]? = some rs → RwsOk t.2.length rs ∧ rs.length ≤ 10) ∧
      BoxAt H' b (T + 55 + i * 120) ∧ Kept [F1, b] H5 H') ⟨⟨_, _, _, _, _, _, _, _, _, _, _, rfl⟩, ⟨[], [], ⟨eF5, .nil⟩, rfl, fun j t rs _ h => by simp at h⟩, S5.mono (by omega), Kept.refl _ _⟩ (fun i σ H' _ hP => ?G2) (fun i x σ H6 H7 hi hP hY => ?_) (fun σ H6 hP => ?_)
  case G2 =>
    have k0 : Kept (F1 :: [b]) H H' := (KB.mono fun p h => List.mem_cons_of_mem _ h).trans hP.2.2.2
    exact sameT ((msk_same (k0.new hF0)).trans (msk_sub _ _)) hWS
  · obtain ⟨TT, a0, x0, rfl, nT, e7, ha, hx⟩ := hY
    cases ha
    obtain ⟨⟨y6, y7, y8, y9, y10, y11, y12, y13, y14, y15, y16, rfl⟩, ⟨us, ct, gr, lct, hct⟩, S6, K56⟩ := hP
    have KB6 : Kept [b] H H6 := ((KB.mono fun p h => List.mem_cons_of_mem _ h).trans K56 : Kept (F1 :: [b]) H H6).new hF0
    obtain ⟨tb, qq, pc, ys, htb, rfl, h1, h2, h3⟩ := tab_at hWA hx
    have htm := List.mem_of_getElem? htb
    have lys : ys.length = tb.2.length := by rw [dpAll_len h3, List.length_map]
    have lc0 := (okt.cs tb htm).2
    have lc5 := (okt.cs tb htm).1.top
    have K67 : Kept [b] H6 H7 := by rw [e7]; exact Kept.upd_new nT
    have S7 : BoxAt H7 b (T + 55 + i * 120) := by rw [e7]; exact S6.same (same_upd nT)
    have eT7 : H7 TT = some (.tup [.int (i : Nat), .ref qq]) := by rw [e7]; exact upd_same
    have gr7 := gr.kept K67 oF
    have KB7 := KB6.trans K67
    have m7 : Same (msk [b] H) H7 := (msk_same KB7).trans (msk_sub _ _)
    have K57 : Kept [F1, b] H5 H7 := K56.trans (K67.mono fun p h => List.mem_cons_of_mem _ h)
    clear e7
    refine ⟨TT, _, rfl, .inl (.inl eT7), rfl, _, _, rfl, .ref qq, _, rfl, qq, _, rfl, sameT m7 h1, rfl, .str tb.1, _, rfl, .ref pc, _, rfl, rfl, rfl, ?_⟩
    refine ⟨Nat.zero_le _, fun RW nRW => ?_⟩
    have oRW := S7.out nRW
    have nFR : F1 ≠ RW := ne_of_none gr7.at' nRW
    have mk7 := mk.kept K57
    obtain ⟨p, ks, hp, hk, hmem, ep7, op⟩ := mk7.get (j := i) (by omega)
    have nPR : p ≠ RW := ne_of_none ep7 nRW
    have nMR : MK ≠ RW := ne_of_none mk7.at' nRW
    have okk := hks ks hmem
    have S8 := S7.same (same_upd (o := .lst []) nRW)
    have eRW : (upd H7 RW (.lst [])) RW = some (.lst []) := upd_same
    have ep8 : (upd H7 RW (.lst [])) p = some (.lst (ks.map V.int)) := by rw [upd_ne nPR]; exact ep7
    have eM8 : (upd H7 RW (.lst [])) MK = some (.lst (ps.map V.ref)) := by rw [upd_ne nMR]; exact mk7.at'
    have K78 : Kept [b] H7 (upd H7 RW (.lst [])) := Kept.upd_new nRW
    show tSeq _ _ _ [some (.ref b), some (.ref tp), some (.ref ep), some (.int m), some (.ref MK), some (.ref F1), some (.str tb.1), y7, some (.int (i : Nat)), some (.ref pc), some (.ref RW), y11, y12, y13, y14, y15, y16, none, none] (upd H7 RW (.lst []))
    generalize upd H7 RW (.lst []) = H8 at S8 eRW ep8 eM8 K78 ⊢
    refine ⟨.ref MK, rfl, .int (i : Nat), rfl, MK, _, i, .ref p, rfl, rfl, .inl (.inl eM8), atI_nat (ps_refs hp), p, rfl, ⟨_, .inl (.inl ep8)⟩, ?_⟩
    have opb : p ∉ [RW, b] := by
      intro z
      rcases List.mem_cons.mp z with z | z
      · exact nPR z
      · exact op (List.mem_cons_of_mem _ z)
    refine for_it (walk_list (xs := ks.map V.int)) (fun i2 σ H' => (∃ y7 y11 y12 y13 y14 y15 y16, σ = [some (.ref b), some (.ref tp), some (.ref ep), some (.int m), some (.ref MK), some (.ref F1), some (.str tb.1), y7, some (.int (i : Nat)), some (.ref pc), some (.ref RW), y11, y12, y13, y14, y15, y16, none, none]) ∧
        (∃ us2 rs, Grow K [F1, b] H' RW us2 (rs.map rowD) ∧ rs.map keyW = ks.take i2 ∧ ∀ r ∈ rs, RwOk tb.2.length r) ∧ BoxAt H' b (T + 55 + i * 120 + i2 * 12) ∧ Kept [RW, b] H8 H') ⟨⟨_, _, _, _, _, _, _, rfl⟩, ⟨[], [], ⟨eRW, .nil⟩, rfl, fun _ h => absurd h List.not_mem_nil⟩, S8.mono (by omega), Kept.refl _ _⟩ (fun i2 σ H' _ hP => .inl (.inl (hP.2.2.2.at ep8 opb))) (fun i2 x σ H9 H9' hi2 hP hY => ?_) (fun σ H9 hP => ?_)
    · obtain ⟨rfl, hx2⟩ := hY
      obtain ⟨⟨y7, y11, y12, y13, y14, y15, y16, rfl⟩, ⟨us2, rs, g2, hkr, hrs⟩, S9, K89⟩ := hP
      rw [List.getElem?_map] at hx2
      obtain ⟨k, hk2, rfl⟩ := Option.map_eq_some_iff.mp hx2
      have hi10 : i2 < 10 := by rw [List.length_map] at hi2; have := okk.few; omega
      have K79 : Kept [b] H7 H9' := ((K78.mono fun p h => List.mem_cons_of_mem _ h).trans K89 : Kept (RW :: [b]) H7 H9').new nRW
      refine ⟨_, rfl, (by show 1 ≤ sizeLine; decide), fun R nR => ?_⟩
      have gF9 := gr7.kept K79 oF
      have nFr : F1 ≠ R := ne_of_none gF9.at' nR
      have nRWR : RW ≠ R := ne_of_none g2.at' nR
      have oR := S9.out nR
      have S10 := S9.same (same_upd (o := .lst [.int k]) nR)
      have eR10 : (upd H9' R (.lst [.int k])) R = some (.lst [.int k]) := upd_same
      have K910 : Kept [b] H9' (upd H9' R (.lst [.int k])) := Kept.upd_new nR
      show tSeq _ _ _ [some (.ref b), some (.ref tp), some (.ref ep), some (.int m), some (.ref MK), some (.ref F1), some (.str tb.1), y7, some (.int (i : Nat)), some (.ref pc), some (.ref RW), some (.int k), some (.ref R), y13, y14, y15, y16, none, none] (upd H9' R (.lst [.int k]))
      generalize upd H9' R (.lst [.int k]) = H10 at S10 eR10 K910 ⊢
      have KB10 := (KB7.trans K79).trans K910
      have m10 : Same (msk [b] H) H10 := (msk_same KB10).trans (msk_sub _ _)
      refine ⟨.ref pc, rfl, _, rfl, pc, ys, rfl, sameT m10 h2, (by intro z; exact sIx1 (by omega) z.1), fun SL nSL => ?_⟩
      have eSL : (upd H10 SL (.tup (cutV ys (some 1) none))) SL = some (.tup (ys.drop 1)) := by rw [upd_same, show (1 : Int) = ((1 : Nat) : Int) from rfl, cut_lo]
      have S11 := S10.same (same_upd (o := .tup (cutV ys (some 1) none)) nSL)
      have nRS : R ≠ SL := ne_of_none eR10 nSL
      have eR11 : (upd H10 SL (.tup (cutV ys (some 1) none))) R = some (.lst [.int k]) := by rw [upd_ne nRS]; exact eR10
      have K911 : Kept [b] H9' (upd H10 SL (.tup (cutV ys (some 1) none))) := K910.trans (Kept.upd_new nSL)
      have oSL : SL ∉ [R, b] := by simpa using ⟨nRS.symm, (S10.ne nSL).symm⟩
      refine ⟨SL, rfl, ⟨_, .inl (.inl eSL)⟩, ?_⟩
      generalize upd H10 SL (.tup (cutV ys (some 1) none)) = H11 at eSL S11 eR11 K911 ⊢
      have KB11 := (KB7.trans K79).trans K911
      refine for_it (walk_tup (xs := ys.drop 1)) (fun i3 σ H' => (∃ y7 y13 y14 y15 y16, σ = [some (.ref b), some (.ref tp), some (.ref ep), some (.int m), some (.ref MK), some (.ref F1), some (.str tb.1), y7, some (.int (i : Nat)), some (.ref pc), some (.ref RW), some (.int k), some (.ref R), y13, y14, y15, y16, none, none]) ∧
          (∃ wz : List (Option Int), H' R = some (.lst (wz.map wV)) ∧ wz.length = i3 + 1 ∧ (∀ o ∈ wz, WOk o) ∧ ∃ t, wz = some k :: t) ∧ BoxAt H' b (T + 55 + i * 120 + i2 * 12 + i3 * 3) ∧ Kept [R, b] H11 H') ⟨⟨_, _, _, _, _, rfl⟩, ⟨[some k], eR11, rfl, fun o h => by rw [List.mem_singleton.mp h]; exact okk.bd k (List.mem_of_getElem? hk2), [], rfl⟩, S11.mono (by omega), Kept.refl _ _⟩ (fun i3 σ H' _ hP => .inl (.inl (hP.2.2.2.at eSL oSL))) (fun i3 x σ H12 H12' hi3 hP hY => ?_) (fun σ H12 hP => ?_)
      · obtain ⟨rfl, hx3⟩ := hY
        obtain ⟨⟨y7, y13, y14, y15, y16, rfl⟩, ⟨wz, eR, lwz, hwz, hhd⟩, S12, K12⟩ := hP
        have hi4 : i3 < 4 := by rw [List.length_drop] at hi3; omega
        rw [List.getElem?_drop] at hx3
        obtain ⟨d, hd1, hd2⟩ := dpAll_get (1 + i3) h3 hx3
        rw [List.getElem?_map] at hd1
        obtain ⟨col, hcol, rfl⟩ := Option.map_eq_some_iff.mp hd1
        obtain ⟨qc, zs, rfl, hqc, hzs⟩ := seq_dp (b := true) hd2
        obtain rfl : zs = [.str col.1, wV col.2] := by
          cases hzs with
          | cons a1 a2 =>
            cases a2 with
            | cons a3 a4 =>
              cases a4
              cases a1
              cases e : col.2 with
              | none => rw [e] at a3; cases a3; rfl
              | some z => rw [e] at a3; cases a3; rfl
        have wcol : WOk col.2 := (okt.cs tb htm).1.w col (List.mem_of_getElem? hcol)
        have ncol : NameOk col.1 := (okt.cs tb htm).1.nm col (List.mem_of_getElem? hcol)
        have ntb : NameOk tb.1 := okt.nm tb htm
        have hR9 : H9' R = none := nR
        have nR9 : Kept (R :: [b]) H9' H12' := (K911.mono fun p h => List.mem_cons_of_mem _ h).trans K12
        have K912 : Kept [b] H9' H12' := nR9.new nR
        have KB12 : Kept [b] H H12' := (KB7.trans K79).trans K912
        have m12 : Same (msk [b] H) H12' := (msk_same KB12).trans (msk_sub _ _)
        refine ⟨qc, _, rfl, sameT m12 hqc, rfl, _, _, rfl, _, _, rfl, rfl, ?_⟩
        refine ⟨.ref ep, rfl, ep, rfl, ⟨xs, sameT m12 hES⟩, fun D nD => ?_⟩
        have nRD : R ≠ D := ne_of_none eR nD
        have oD := S12.out nD
        have lxs : xs.length = es.length := by rw [dpAll_len hEA, List.length_map]
        refine lc_it (walk_tup (xs := xs)) (fun j H' => ∃ zs : List Str, H' D = some (.lst (zs.map V.str)) ∧ zs.length ≤ j ∧ (∀ z ∈ zs, z ∈ tns ts) ∧ Kept [D] H12' H') ⟨[], upd_same, Nat.le_refl _, fun _ h => absurd h List.not_mem_nil, Kept.upd_new nD⟩ (fun j H' _ hP => let ⟨_, _, _, _, kk⟩ := hP; sameT (m12.trans (kept_same kk nD)) hES) (fun j x H' H'' hj hP hY => ?_) (fun H13 hP => ?_)
        · obtain ⟨rfl, hxj⟩ := hY
          obtain ⟨zs, eD, lzs, hzs2, kk⟩ := hP
          obtain ⟨d, hd3, hd4⟩ := dpAll_get j hEA hxj
          rw [List.getElem?_map] at hd3
          obtain ⟨tz, htz, rfl⟩ := Option.map_eq_some_iff.mp hd3
          obtain ⟨n', t', c', o', g', u', l', rfl, okn, ht', hc', ho', _, _, _⟩ := (hes tz (List.mem_of_getElem? htz)).ex
          obtain ⟨qt, yz, rfl, hqt, hyz⟩ := seq_dp (b := true) hd4
          have eyz : yz = [.str n', .str t', .str c', .str o', .str g', .str u', .str l'] := dpAll_strs hyz
          subst eyz
          have sk := m12.trans (kept_same kk nD)
          refine ⟨rfl, ?_⟩
          refine ⟨.ref qt, rfl, _, rfl, _, rfl, qt, _, rfl, sameT sk hqt, (fun z => sIx1 (by show 0 < 7; decide) z.1), fun t1 nt1 => ?_⟩
          refine ⟨.str tb.1, rfl, .str col.1, rfl, (by show 2 ≤ sizeLine; decide), fun t2 nt2 => ?_⟩
          have nDt1 : D ≠ t1 := ne_of_none eD nt1
          have nt12 : t1 ≠ t2 := ne_of_none upd_same nt2
          have eD2 : (upd (upd H'' t1 (.tup (cutV [V.str n', .str t', .str c', .str o', .str g', .str u', .str l'] (some 1) (some 3)))) t2 (.tup [.str tb.1, .str col.1])) D = some (.lst (zs.map V.str)) := by
            rw [upd_ne (ne_of_none (by rw [upd_ne nDt1]; exact eD) nt2), upd_ne nDt1]; exact eD
          have k2 : Kept [D] H'' (upd (upd H'' t1 (.tup (cutV [V.str n', .str t', .str c', .str o', .str g', .str u', .str l'] (some 1) (some 3)))) t2 (.tup [.str tb.1, .str col.1])) := (Kept.upd_new nt1).trans (Kept.upd_new nt2)
          have s2 := (same_upd (o := .tup (cutV [V.str n', .str t', .str c', .str o', .str g', .str u', .str l'] (some 1) (some 3))) nt1).trans (same_upd (o := .tup [.str tb.1, .str col.1]) nt2)
          refine ⟨.tuple [.str t', .str c'], .tuple [.str tb.1, .str col.1], .tup (.inl (.inl (by rw [upd_ne nt12]; exact upd_same))) (.cons (.str _) (.cons (.str _) .nil)), .tup (.inl (.inl upd_same)) (.cons (.str _) (.cons (.str _) .nil)), ?_, ?_, _, rfl, ite2 (fun _ => ?_) (fun _ => ?_)⟩
          · exact shaped_strs (zs := [t', c']) (by simpa using ⟨tns_ok okt _ ht', (cns_ok okt ht').1 _ hc'⟩)
          · exact shaped_strs (zs := [tb.1, col.1]) (by simpa using ⟨ntb, ncol⟩)
          · refine ⟨.ref qt, rfl, qt, _, 3, .str o', rfl, rfl, sameT (sk.trans s2) hqt, atI_nat (j := 3) rfl, _, eD2, ?_, zs ++ [o'], ?_, ?_, ?_, ?_⟩
            · rw [List.length_map]; exact small1000 (by omega)
            · rw [upd_same, List.map_append]; rfl
            · rw [List.length_append]; show _ + 1 ≤ _; omega
            · intro z hz
              rcases List.mem_append.mp hz with h | h
              · exact hzs2 z h
              · rw [List.mem_singleton.mp h]; exact ho'
            · exact kk.trans (k2.trans (Kept.upd_in (List.mem_cons_self ..)))
          · exact ⟨zs, eD2, by omega, hzs2, kk.trans k2⟩
        · obtain ⟨zs, eD, lzs, hzs2, kk⟩ := hP
          have K13 : Kept [b] H12' H13 := Kept.of_same (kept_same kk nD)
          have S13 := S12.kept K13 |> fun f => S12.same (kept_same kk nD)
          have lzs2 : zs.length ≤ 900 := by omega
          have hsz : SeqAt.shaped (.list (zs.map PyData.str)) = true := shaped_strs fun z hz => tns_ok okt z (hzs2 z hz)
          show tSeq _ _ _ [some (.ref b), some (.ref tp), some (.ref ep), some (.int m), some (.ref MK), some (.ref F1), some (.str tb.1), y7, some (.int (i : Nat)), some (.ref pc), some (.ref RW), some (.int k), some (.ref R), some (.str col.1), some (wV col.2), some (.ref D), y16, none, none] H13
          refine ⟨(by show 3 ≤ sizeLine; decide), fun L3 nL3 => ?_⟩
          have nDL : D ≠ L3 := ne_of_none eD nL3
          have S14 := S13.same (same_upd (o := .lst [.int 0, .int 1, .int 2]) nL3)
          have oL3 := S13.out nL3
          have eL3 : (upd H13 L3 (.lst [.int 0, .int 1, .int 2])) L3 = some (.lst (([some 0, some 1, some 2] : List (Option Int)).map wV)) := upd_same
          have eD14 : (upd H13 L3 (.lst [.int 0, .int 1, .int 2])) D = some (.lst (zs.map V.str)) := by rw [upd_ne nDL]; exact eD
          have K14 : Kept [b] H12' (upd H13 L3 (.lst [.int 0, .int 1, .int 2])) := K13.trans (Kept.upd_new nL3)
          unfold gName
          dsimp only [List.set]
          generalize upd H13 L3 (.lst [.int 0, .int 1, .int 2]) = H14 at S14 eL3 eD14 K14 ⊢
          refine splitR1 (fun v u H' => ∃ (pq : Addr) (kw : List (Option Int)), v = .ref pq ∧ H' pq = some (.lst (kw.map wV)) ∧ kw.length ≤ 10 ∧ (∀ o ∈ kw, WOk o) ∧ pq ∉ [b] ∧ BoxAt H' b (T + 55 + i * 120 + i2 * 12 + i3 * 3 + 1) ∧ Kept [b] H12' H') (fun v u => [some (.ref b), some (.ref tp), some (.ref ep), some (.int m), some (.ref MK), some (.ref F1), some (.str tb.1), some v, some (.int (i : Nat)), some (.ref pc), some (.ref RW), some (.int k), some (.ref R), some (.str col.1), some (wV col.2), some (.ref D), y16, none, none]) (fun v u H15 hP => ?_) (fun rest => ?_)
          rotate_left
          · refine ⟨.ref D, rfl, Nat.zero_le _, fun E0 nE0 => ?_⟩
            have nDE : D ≠ E0 := ne_of_none eD14 nE0
            have eD15 : (upd H14 E0 (.lst [])) D = some (.lst (zs.map V.str)) := by rw [upd_ne nDE]; exact eD14
            have S15 := S14.same (same_upd (o := .lst []) nE0)
            have K15 : Kept [b] H12' (upd H14 E0 (.lst [])) := K14.trans (Kept.upd_new nE0)
            have nLE : L3 ≠ E0 := ne_of_none eL3 nE0
            refine ⟨.list (zs.map .str), .list [], .lst (.inl (.inl eD15)) (dp_strs zs), .lst (.inl (.inl upd_same)) .nil, hsz, rfl, _, rfl, ?_⟩
            rw [eqv_nil]
            refine ite2 (fun hz => ?_) (fun _ => ?_)
            · have hzp : 0 < zs.length := by
                cases zs with
                | nil => simp at hz
                | cons _ _ => exact Nat.succ_pos _
              generalize upd H14 E0 (.lst []) = H15 at eD15 S15 K15 ⊢
              refine ⟨.ref MK, rfl, .ref tp, rfl, .ref D, rfl, .ref b, rfl, .ref D, rfl, D, _, rfl, .inl (.inl (.inl eD15)), b, _, _, rfl, S15, by omega, (by rw [List.length_map]; omega), (by rw [List.length_map]; omega), fun d H16 d0 d1 S16 K16 => ?_⟩
              rw [List.length_map] at d1
              obtain ⟨jz, rfl⟩ : ∃ jz : Nat, d = (jz : Int) := ⟨d.toNat, by omega⟩
              have hjz : jz < zs.length := by omega
              have oDb : D ∉ [b] := by simpa using (S12.ne nD).symm
              have eD16 := K16.at eD15 oDb
              have hzm := hzs2 _ (List.getElem_mem hjz)
              have K1216 := K15.trans K16
              have T16 := hTb.same ((msk_same (KB12.trans K1216)).trans (msk_sub _ _))
              refine ⟨D, _, jz, .str zs[jz], rfl, rfl, .inl (.inl eD16), atI_nat (by rw [List.getElem?_map, List.getElem?_eq_getElem hjz]; rfl), tp, ts, zs[jz], rfl, T16, hzm, fun H17 s17 => ?_⟩
              have K1217 := K1216.trans (Kept.of_same s17)
              have K817 : Kept [b] H7 H17 := (K79.trans K912).trans K1217
              have mk17 := mk7.kept (K817.mono fun p h => List.mem_cons_of_mem _ h)
              have hix : (tns ts).idxOf zs[jz] < kss.length := by rw [lk, ← tns_len]; exact List.idxOf_lt_length_of_mem hzm
              obtain ⟨p2, ks2, hp2, hk2', hm2, ep2, op2⟩ := mk17.get hix
              refine ⟨MK, _, _, .ref p2, rfl, rfl, .inl (.inl mk17.at'), atI_nat (ps_refs hp2), ?_⟩
              have okk2 := hks ks2 hm2
              exact rest (.ref p2) .non H17 ⟨p2, ks2.map some, rfl, (by rw [map_ints]; exact ep2), (by rw [List.length_map]; exact okk2.few), (fun o ho => by obtain ⟨z, hz1, rfl⟩ := List.mem_map.mp ho; exact okk2.bd z hz1), (fun z => op2 (List.mem_cons_of_mem _ z)), (S16.same s17).mono (by omega), K1217⟩
            · exact rest (.ref L3) .non _ ⟨L3, _, rfl, (by rw [upd_ne nLE]; exact eL3), (by show 3 ≤ 10; decide), (fun o ho => by simp at ho; rcases ho with rfl | rfl | rfl <;> exact ⟨by decide, by decide⟩), oL3, S15.mono (by omega), K15⟩
          · obtain ⟨pq, kw, rfl, eq15, lkw, hkw, opq, S15, K15⟩ := hP
            refine ⟨wV col.2, rfl, .ref b, rfl, b, _, 12, rfl, S15, by omega, by decide, by decide, fun d Ha d0 d1 Sa Ka => ⟨_, _, rfl, rfl, (by show 3 ≤ sizeLine; decide), fun L nL => ?_⟩⟩
            have eqa := Ka.at eq15 opq
            have nqL : pq ≠ L := ne_of_none eqa nL
            have eqb : (upd Ha L (.lst [.non, wV col.2, .int (d - 3)])) pq = some (.lst (kw.map wV)) := by rw [upd_ne nqL]; exact eqa
            have eLb : (upd Ha L (.lst [.non, wV col.2, .int (d - 3)])) L = some (.lst [.non, wV col.2, .int (d - 3)]) := upd_same
            have Sb := Sa.same (same_upd (o := .lst [.non, wV col.2, .int (d - 3)]) nL)
            have Kb : Kept [b] H15 (upd Ha L (.lst [.non, wV col.2, .int (d - 3)])) := Ka.trans (Kept.upd_new nL)
            show tSl _ _ _ _ _ (upd Ha L (.lst [.non, wV col.2, .int (d - 3)])) _
            generalize upd Ha L (.lst [.non, wV col.2, .int (d - 3)]) = Hb at eqb eLb Sb Kb ⊢
            have l3 : (kw.map wV).length ≤ 10 := by rw [List.length_map]; exact lkw
            refine ⟨.ref pq, rfl, .ref pq, rfl, pq, pq, _, _, rfl, rfl, eqb, eqb, Nat.le_of_lt (small1000 (by omega)), fun C1 nC1 => ?_⟩
            have nqC : pq ≠ C1 := ne_of_none eqb nC1
            refine ⟨.ref pq, rfl, C1, pq, _, _, rfl, rfl, upd_same, (by rw [upd_ne nqC]; exact eqb), Nat.le_of_lt (small1000 (by rw [List.length_append]; omega)), fun C2 nC2 => ?_⟩
            refine ⟨_, rfl, C2, _, rfl, .inl (.inl upd_same), fun C3 nC3 => ?_⟩
            have s1 := (same_upd (o := .lst (kw.map wV ++ kw.map wV)) nC1).trans ((same_upd (o := .lst (kw.map wV ++ kw.map wV ++ kw.map wV)) nC2).trans (same_upd (o := .lst (cutV (kw.map wV ++ kw.map wV ++ kw.map wV) none (some 24))) nC3))
            have e24 : cutV (kw.map wV ++ kw.map wV ++ kw.map wV) none (some 24) = ((kw ++ kw ++ kw).take 24).map wV := by
              rw [show (24 : Int) = ((24 : Nat) : Int) from rfl, cut_hi, ← List.map_append, ← List.map_append, ← List.map_take]
            have l24 : ((kw ++ kw ++ kw).take 24).length ≤ 24 := by rw [List.length_take]; omega
            have h24 : ∀ o ∈ (kw ++ kw ++ kw).take 24, WOk o := fun o ho => by
              have := List.mem_of_mem_take ho
              rcases List.mem_append.mp this with h | h
              · rcases List.mem_append.mp h with h | h <;> exact hkw o h
              · exact hkw o h
            have eC3 : (upd (upd (upd Hb C1 (.lst (kw.map wV ++ kw.map wV))) C2 (.lst (kw.map wV ++ kw.map wV ++ kw.map wV))) C3 (.lst (cutV (kw.map wV ++ kw.map wV ++ kw.map wV) none (some 24)))) C3 = some (.lst (((kw ++ kw ++ kw).take 24).map wV)) := by rw [upd_same, e24]
            generalize upd (upd (upd Hb C1 (.lst (kw.map wV ++ kw.map wV))) C2 (.lst (kw.map wV ++ kw.map wV ++ kw.map wV))) C3 (.lst (cutV (kw.map wV ++ kw.map wV ++ kw.map wV) none (some 24))) = Hc at s1 eC3 ⊢
            generalize (kw ++ kw ++ kw).take 24 = k24 at l24 h24 eC3
            refine ⟨L, C3, _, _, rfl, rfl, s1 _ _ eLb, eC3, (by rw [List.length_map]; exact Nat.le_of_lt (small1000 (by show 3 + _ ≤ _; omega))), fun MO nMO => ?_⟩
            have eMO : (upd Hc MO (.lst ([.non, wV col.2, .int (d - 3)] ++ k24.map wV))) MO = some (.lst (([none, col.2, some (d - 3)] ++ k24).map wV)) := by rw [upd_same, List.map_append]; rfl
            have lmo : ([none, col.2, some (d - 3)] ++ k24).length ≤ 27 := by rw [List.length_append]; show 3 + _ ≤ _; omega
            have lmo0 : 0 < ([none, col.2, some (d - 3)] ++ k24).length := by rw [List.length_append]; show 0 < 3 + _; omega
            have hmo : ∀ o ∈ [none, col.2, some (d - 3)] ++ k24, WOk o := fun o ho => by
              rcases List.mem_append.mp ho with h | h
              · have h : o = none ∨ o = col.2 ∨ o = some (d - 3) := by simpa using h
                rcases h with rfl | rfl | rfl
                · trivial
                · exact wcol
                · exact wOk_small d0 d1
              · exact h24 o h
            have Se := (Sb.same s1).same (same_upd (o := .lst ([.non, wV col.2, .int (d - 3)] ++ k24.map wV)) nMO)
            have Ke : Kept [b] H15 (upd Hc MO (.lst ([.non, wV col.2, .int (d - 3)] ++ k24.map wV))) := Kb.trans ((Kept.of_same s1).trans (Kept.upd_new nMO))
            have oMO := (Sb.same s1).out nMO
            generalize [none, col.2, some (d - 3)] ++ k24 = mws at eMO lmo lmo0 hmo
            dsimp only [List.set]
            generalize upd Hc MO (.lst ([.non, wV col.2, .int (d - 3)] ++ k24.map wV)) = He at eMO Se Ke ⊢
            have oRb : R ∉ [b] := oR
            have eRe := (K15.trans Ke).at eR oRb
            refine ⟨.ref R, rfl, .inl ⟨rfl, _, .inl (.inl eRe)⟩, .ref MO, rfl, .ref b, rfl, .ref MO, rfl, MO, _, rfl, .inl (.inl (.inl eMO)), b, _, _, rfl, Se, by omega, (by rw [List.length_map]; omega), (by rw [List.length_map]; omega), fun d2 Hd d20 d21 Sd Kd => ?_⟩
            rw [List.length_map] at d21
            obtain ⟨o, ho, hat⟩ := atI_ws d20 d21
            have eRd := Kd.at eRe oRb
            refine ⟨MO, _, _, wV o, rfl, rfl, .inl (.inl (Kd.at eMO oMO)), hat, R, _, wV o, rfl, rfl, eRd, (by rw [List.length_map]; exact small1000 (by omega)), ⟨_, _, _, _, _, rfl⟩, ⟨wz ++ [o], ?_, ?_, ?_, ?_⟩, ?_, ?_⟩
            · rw [upd_same, List.map_append]; rfl
            · rw [List.length_append, lwz]; rfl
            · intro o2 ho2
              rcases List.mem_append.mp ho2 with h | h
              · exact hwz o2 h
              · rw [List.mem_singleton.mp h]; exact hmo o ho
            · obtain ⟨t0, rfl⟩ := hhd
              exact ⟨t0 ++ [o], rfl⟩
            · exact (Sd.kept (Kept.upd_in (M := [R]) (List.mem_cons_self ..)) (by intro z; exact oR (by rw [List.mem_singleton.mp z]; simp))).mono (by omega)
            · exact K12.trans (((K15.trans (Ke.trans Kd)).mono fun p h => List.mem_cons_of_mem _ h).trans (Kept.upd_in (List.mem_cons_self ..)))
      · obtain ⟨⟨y7, y13, y14, y15, y16, rfl⟩, ⟨wz, eR, lwz, hwz, hhd⟩, S12, K12⟩ := hP
        have K912 : Kept [b] H9' H12 := ((K911.mono fun p h => List.mem_cons_of_mem _ h).trans K12 : Kept (R :: [b]) H9' H12).new nR
        have oRW2 : RW ∉ [F1, b] := by simpa using ⟨nFR.symm, fun z => oRW (List.mem_singleton.mpr z)⟩
        have g12 := g2.kept (K912.mono fun p h => List.mem_cons_of_mem _ h) oRW2
        rw [List.length_drop, lys] at lwz S12
        have okr : RwOk tb.2.length wz := ⟨by omega, hwz, k, hhd⟩
        have gF12 := gF9.kept K912 oF
        refine ⟨.ref RW, rfl, .inl ⟨rfl, _, .inl (.inl g12.at')⟩, .ref R, rfl, R, _, rfl, .inl ⟨.inl (.inl eR), fun t nt => ?_⟩⟩
        have nRWt : RW ≠ t := ne_of_none g12.at' nt
        have nFt : F1 ≠ t := ne_of_none gF12.at' nt
        have nbt := S12.ne nt
        have g13 := g12.kept (Kept.upd_new (o := .tup (wz.map wV)) nt) oRW2
        have put := g13.put (v := .ref t) (d := rowD wz) (.tup (.inl (.inl (msk_at upd_same (by simp [nRWt.symm, nFt.symm, nbt.symm])))) (dp_ws wz))
        have lrs : rs.length ≤ i2 := by
          have := congrArg List.length hkr
          rw [List.length_map, List.length_take] at this
          omega
        refine ⟨RW, us2, .ref t, rfl, rfl, g13.at', small1000 (by rw [g2.len, List.length_map]; omega), ⟨_, _, _, _, _, _, _, rfl⟩, ⟨_, rs ++ [wz], by rw [List.map_append]; exact put, ?_, ?_⟩, ?_, ?_⟩
        · obtain ⟨t0, rfl⟩ := hhd
          rw [List.map_append, hkr, List.take_add_one, hk2]; rfl
        · intro r hr
          rcases List.mem_append.mp hr with h | h
          · exact hrs r h
          · rw [List.mem_singleton.mp h]; exact okr
        · exact ((S12.same (same_upd nt)).kept (Kept.upd_in (M := [RW]) (List.mem_cons_self ..)) (by intro z; exact oRW (by rw [List.mem_singleton.mp z]; simp))).mono (by omega)
        · exact K89.trans (((K912.trans (Kept.upd_new nt)).mono fun p h => List.mem_cons_of_mem _ h).trans (Kept.upd_in (List.mem_cons_self ..)))
    · obtain ⟨⟨y7, y11, y12, y13, y14, y15, y16, rfl⟩, ⟨us2, rs, g2, hkr, hrs⟩, S9, K89⟩ := hP
      have K79 : Kept [b] H7 H9 := ((K78.mono fun p h => List.mem_cons_of_mem _ h).trans K89 : Kept (RW :: [b]) H7 H9).new nRW
      have lks := okk.few
      rw [List.length_map] at S9
      rw [List.length_map, List.take_length] at hkr
      have gF9 := gr7.kept K79 oF
      have oRW2 : RW ∉ [F1, b] := by simpa using ⟨nFR.symm, fun z => oRW (List.mem_singleton.mpr z)⟩
      refine ⟨.ref F1, rfl, .inl ⟨rfl, _, .inl (.inl gF9.at')⟩, .ref RW, rfl, F1, us, .ref RW, rfl, rfl, gF9.at', small1000 (by rw [gr.len, List.length_map]; omega), ⟨_, _, _, _, _, _, _, _, _, _, _, rfl⟩, ⟨_, ct ++ [rs], by rw [List.map_append]; exact gF9.put (g2.done oRW2), ?_, ?_⟩, ?_, ?_⟩
      · rw [List.length_append, lct]; rfl
      · intro j t rs' h1' h2'
        by_cases hj : j < ct.length
        · rw [List.getElem?_append_left hj] at h2'
          exact hct j t rs' h1' h2'
        · have hj2 : j = ct.length := by
            have := (List.getElem?_eq_some_iff.mp h2').1
            rw [List.length_append, List.length_singleton] at this
            omega
          subst hj2
          rw [List.getElem?_concat_length] at h2'
          cases h2'
          rw [lct, htb] at h1'
          cases h1'
          refine ⟨⟨hrs, by rw [hkr]; exact okk.up⟩, ?_⟩
          have := congrArg List.length hkr
          rw [List.length_map] at this
          omega
      · exact (S9.kept (Kept.upd_in (M := [F1]) (List.mem_cons_self ..)) (by intro z; exact oF (by rw [List.mem_singleton.mp z]; simp))).mono (by omega)
      · exact K57.trans ((K79.mono fun p h => List.mem_cons_of_mem _ h).trans (Kept.upd_in (List.mem_cons_self ..))) |> fun z => z
  · obtain ⟨⟨y6, y7, y8, y9, y10, y11, y12, y13, y14, y15, y16, rfl⟩, ⟨us, ct, gr, lct, hct⟩, S6, K56⟩ := hP
    have KB6 : Kept [b] H H6 := ((KB.mono fun p h => List.mem_cons_of_mem _ h).trans K56 : Kept (F1 :: [b]) H H6).new hF0
    rw [lw] at lct
    refine ⟨.ref F1, rfl, q F1 ct H6 ⟨lct, fun j t rs h1 h2 => (hct j t rs h1 h2).1, fun rs hrs => ?_⟩ hF0 ⟨_, gr⟩ (S6.mono (by omega)) KB6⟩
    obtain ⟨j, hj⟩ := List.getElem?_of_mem hrs
    have hjl := (List.getElem?_eq_some_iff.mp hj).1
    exact (hct j ts[j] rs (List.getElem?_eq_getElem (by omega)) hj).2
end
end TT

set_option Elab.async false
set_option linter.all false
set_option maxRecDepth 100000
namespace TT
open PySem PySem.Spec PyProof.Rows L2
theorem sameL {K : PySem.W.Frag} {H H' : Hp} {a : Addr} {xs : List V} (e : Same H H') (h : SqL K H a xs) : SqL K H' a xs := (Kept.seqL (M := []) (fun p o h1 _ => e p o h1) List.not_mem_nil h)
theorem cont_find {K : PySem.W.Frag} {H : Hp} {cp : Addr} {ct : List (List Rw)} {ts : List Tab} {t : Str} {rs : List Rw} (h : Dp K H (.ref cp) (contD ct)) (hA : At ts ct t rs) :
    ∃ xs rp ys, SqL K H cp xs ∧ xs[(tns ts).idxOf t]? = some (.ref rp) ∧ SqL K H rp ys ∧ DpAll K H ys (rs.map rowD) ∧ ys.length = rs.length := by
  obtain ⟨p, xs, e, h1, h2, h3⟩ := cont_dp h
  cases e
  have hj := (List.getElem?_eq_some_iff.mp hA.row).1
  obtain ⟨x, hx⟩ : ∃ x, xs[(tns ts).idxOf t]? = some x := ⟨_, List.getElem?_eq_getElem (by omega)⟩
  obtain ⟨rs', hr, hd⟩ := cont_at h2 hx
  rw [hA.row] at hr
  cases hr
  cases hd with
  | lst a1 a2 => exact ⟨xs, _, _, h1, hx, a1, a2, by rw [dpAll_len a2, List.length_map]⟩
theorem key0 {n : Nat} {r : Rw} (h : RwOk n r) : (r.map wV)[0]? = some (.int (keyW r)) := by
  obtain ⟨k, t, rfl⟩ := h.key
  rfl
theorem nice_ints {ks : List Int} (l : ks.length ≤ 900) (h : ∀ z ∈ ks, z.natAbs ≤ 10 ^ 12) : Nice (10 ^ 12) 900 (.list (ks.map PyData.int)) := ⟨by rw [List.length_map]; exact l, all_nice fun z hz => h z hz⟩
theorem depth_ints : ∀ ks : List Int, PyData.depthAll (ks.map PyData.int) = 0
  | [] => rfl
  | k :: ks => by
    show max 0 (PyData.depthAll (ks.map PyData.int)) = 0
    rw [depth_ints ks]; rfl
theorem dp_ints {K : PySem.W.Frag} {H : Hp} : ∀ ks : List Int, DpAll K H (ks.map V.int) (ks.map PyData.int)
  | [] => .nil
  | k :: ks => .cons (.int k) (dp_ints ks)
theorem len_id (mk : List (Option Int)) : (mk.filterMap id).length ≤ mk.length := List.length_filterMap_le _ _
structure World1 (K : PySem.W.Frag) (M : Hp) (pl tp ep : Addr) (x v : V) (cp : Addr) (ts : List Tab) (es : List (List Str)) (o i r : Bool) (ct : List (List Rw)) : Prop where
  pl : SqT K M pl [.ref tp, .ref ep, x]
  tp : Tabs K M tp ts
  ep : Dp K M (.ref ep) (.tuple (es.map tieD))
  ties : ∀ z ∈ es, TieOk ts z
  nd : (es.map (·.headD Str.empty)).Nodup
  hd : Dp K M v (handD o i r ct)
  cp : Dp K M (.ref cp) (contD ct)
  all : ContAll ts ct
  few : ∀ t ∈ tns ts, (rowsAt ts ct t).length ≤ 20
  fewE : es.length ≤ 900
section
variable {K : PySem.W.Frag}
theorem World1.same {M M' : Hp} {pl tp ep : Addr} {x v : V} {cp : Addr} {ts : List Tab} {es : List (List Str)} {o i r : Bool} {ct : List (List Rw)} (h : World1 K M pl tp ep x v cp ts es o i r ct) (s : Same M M') : World1 K M' pl tp ep x v cp ts es o i r ct :=
  ⟨sameT s h.pl, h.tp.same s, dp_same s h.ep, h.ties, h.nd, dp_same s h.hd, dp_same s h.cp, h.all, h.few, h.fewE⟩
end
end TT

set_option Elab.async false
set_option linter.all false
set_option maxRecDepth 100000
namespace TT
open PySem PySem.Spec PyProof.Rows L2
/-! ### some data in a list of data -/
def rInD (K : PySem.W.Frag) : R2 := fun x y H Q => ∃ (d : PyData) (ds : List PyData), Dp K H x d ∧ Dp K H y (.list ds) ∧ SeqAt.shaped d = true ∧ SeqAt.shaped (.list ds) = true ∧ Q (.bl (ds.any fun z => PyData.eqv z d)) H
theorem op_inD {X : Cx} (hu : X.A.units + 65 < cLine) : OpR X (compareOp .In) (rInD X.K) := by
  intro pins s σ H x y v u Q I rx ry h
  obtain ⟨d, ds, hd, he, sd, se, q⟩ := h
  obtain ⟨as, r1⟩ := Dp.reads I d x v hd rx
  obtain ⟨bs, r2⟩ := Dp.reads I (.list ds) y u he ry
  exact SeqAt.in_list_reads r2 r1 (SeqAt.canLay_of_shaped se) (SeqAt.canLay_of_shaped sd) (room_in_shaped sd hu) ⟨.bl _, H, I, rfl, q⟩
theorem lay_ints : ∀ ks : List Int, PyData.canLayAll0 (ks.map PyData.int) = true
  | [] => rfl
  | k :: ks => lay_ints ks
theorem shaped_ints (ks : List Int) : SeqAt.shaped (.list (ks.map PyData.int)) = true := by
  show (PyData.canLayAll0 (ks.map PyData.int) && decide (PyData.depthAll (ks.map PyData.int) + 1 ≤ 64)) = true
  rw [lay_ints, depth_ints]; rfl
theorem any_w (w : Option Int) (ks : List Int) : ((ks.map PyData.int).any fun z => PyData.eqv z (wD w)) = decide (w ∈ ks.map some) := by
  rw [List.any_map]
  cases w with
  | none =>
    rw [decide_eq_false (by simp)]
    exact List.any_eq_false.mpr fun x _ => by simp [Function.comp, PyData.eqv, wD]
  | some i =>
    rw [Bool.eq_iff_iff, List.any_eq_true, decide_eq_true_iff]
    constructor
    · rintro ⟨x, hx, e⟩
      have e : (x == i) = true := e
      rw [beq_iff_eq] at e
      exact List.mem_map.mpr ⟨x, hx, congrArg some e⟩
    · intro h
      obtain ⟨x, hx, e⟩ := List.mem_map.mp h
      refine ⟨x, hx, ?_⟩
      show (x == i) = true
      rw [beq_iff_eq]; exact Option.some.inj e
theorem fm_congr {α β : Type} {f g : α → Option β} : ∀ {l : List α}, (∀ x ∈ l, f x = g x) → l.filterMap f = l.filterMap g
  | [], _ => rfl
  | x :: l, h => by
    rw [List.filterMap_cons, List.filterMap_cons, h x (List.mem_cons_self ..), fm_congr fun y hy => h y (List.mem_cons_of_mem _ hy)]
end TT

set_option Elab.async false
set_option linter.all false
set_option maxRecDepth 100000
namespace TT
open PySem PySem.Spec PyProof.Rows L2
theorem sum_few : ∀ {l : List Nat} {n : Nat}, (∀ x ∈ l, x ≤ n) → l.sum ≤ l.length * n
  | [], _, _ => Nat.zero_le _
  | a :: l, n, h => by
    have h1 := h a (List.mem_cons_self ..)
    have h2 := sum_few fun y hy => h y (List.mem_cons_of_mem a hy)
    rw [List.sum_cons, List.length_cons, Nat.add_mul]
    omega
theorem hand_nice {L : Nat} {ts : List Tab} {ct : List (List Rw)} (h : ContOk L ts ct) (okt : TabsOk 5 ts) (l8 : ts.length ≤ 8) (hs : (ct.map List.length).sum ≤ 61) (o i r : Bool) : Nice 1000000000 61 (handD o i r ct) ∧ wt (handD o i r ct) ≤ 9200 ∧ (handD o i r ct).depth ≤ 3 := by
  obtain ⟨h1, h2, h3⟩ := cont_nice h okt l8 hs
  have e1 : ∀ ds : List PyData, (Nice 1000000000 61 (seqD o ds) ↔ Nice 1000000000 61 (.list ds)) ∧ wt (seqD o ds) = wt (.list ds) ∧ (seqD o ds).depth = (PyData.list ds).depth := fun ds => by cases o <;> exact ⟨Iff.rfl, rfl, rfl⟩
  have e2 : ∀ ds : List PyData, (Nice 1000000000 61 (seqD i ds) ↔ Nice 1000000000 61 (.list ds)) ∧ wt (seqD i ds) = wt (.list ds) ∧ (seqD i ds).depth = (PyData.list ds).depth := fun ds => by cases i <;> exact ⟨Iff.rfl, rfl, rfl⟩
  have e3 : ∀ ds : List PyData, (Nice 1000000000 61 (seqD r ds) ↔ Nice 1000000000 61 (.tuple ds)) ∧ wt (seqD r ds) = wt (.tuple ds) ∧ (seqD r ds).depth = (PyData.tuple ds).depth := fun ds => by cases r <;> exact ⟨Iff.rfl, rfl, rfl⟩
  have wA : ∀ {α : Type} (f g : α → PyData) (l : List α), (∀ x, wt (f x) = wt (g x)) → wtAll (l.map f) = wtAll (l.map g) := fun {α} f g l hh => by
    induction l with
    | nil => rfl
    | cons x l ih => show wt (f x) + 3 + wtAll (l.map f) = wt (g x) + 3 + wtAll (l.map g); rw [hh, ih]
  have dA : ∀ {α : Type} (f g : α → PyData) (l : List α), (∀ x, (f x).depth = (g x).depth) → PyData.depthAll (l.map f) = PyData.depthAll (l.map g) := fun {α} f g l hh => by
    induction l with
    | nil => rfl
    | cons x l ih => show max (f x).depth (PyData.depthAll (l.map f)) = max (g x).depth (PyData.depthAll (l.map g)); rw [hh, ih]
  have nA : ∀ {α : Type} (f g : α → PyData) (l : List α), (∀ x, Nice 1000000000 61 (f x) ↔ Nice 1000000000 61 (g x)) → NiceAll 1000000000 61 (l.map g) → NiceAll 1000000000 61 (l.map f) := fun {α} f g l hh hn => niceAll_iff.mpr fun d hd => by
    obtain ⟨x, hx, rfl⟩ := List.mem_map.mp hd
    exact (hh x).mpr (niceAll_iff.mp hn _ (List.mem_map.mpr ⟨x, hx, rfl⟩))
  have r1 : ∀ rs : List Rw, (Nice 1000000000 61 (seqD i (rs.map fun row => seqD r (row.map wD))) ↔ Nice 1000000000 61 (rowsD rs)) ∧ wt (seqD i (rs.map fun row => seqD r (row.map wD))) = wt (rowsD rs) ∧ (seqD i (rs.map fun row => seqD r (row.map wD))).depth = (rowsD rs).depth := fun rs => by
    obtain ⟨a1, a2, a3⟩ := e2 (rs.map fun row => seqD r (row.map wD))
    refine ⟨a1.trans ⟨fun z => ⟨by have := z.1; rw [List.length_map] at this ⊢; exact this, nA _ _ _ (fun x => (e3 _).1.symm) z.2⟩, fun z => ⟨by have := z.1; rw [List.length_map] at this ⊢; exact this, nA _ _ _ (fun x => (e3 _).1) z.2⟩⟩, a2.trans ?_, a3.trans ?_⟩
    · show 6 + wtAll _ = 6 + wtAll _
      rw [wA _ _ _ fun x => (e3 _).2.1]; rfl
    · show PyData.depthAll _ + 1 = PyData.depthAll _ + 1
      rw [dA _ _ _ fun x => (e3 _).2.2]; rfl
  obtain ⟨a1, a2, a3⟩ := e1 (ct.map fun rs => seqD i (rs.map fun row => seqD r (row.map wD)))
  refine ⟨a1.mpr ⟨by have := h1.1; rw [List.length_map] at this ⊢; exact this, nA _ _ _ (fun x => (r1 x).1) h1.2⟩, ?_, ?_⟩
  · refine Nat.le_trans (Nat.le_of_eq (a2.trans ?_)) h2
    show 6 + wtAll _ = 6 + wtAll _
    rw [wA _ _ _ fun x => (r1 x).2.1]
  · refine Nat.le_trans (Nat.le_of_eq (a3.trans ?_)) h3
    show PyData.depthAll _ + 1 = PyData.depthAll _ + 1
    rw [dA _ _ _ fun x => (r1 x).2.2]
theorem lateways_nice : ∀ z ∈ waysL ++ lates, NameOk z := by
  intro z hz
  refine nameB_ok ?_
  have : ∀ z ∈ waysL ++ lates, nameB (.str z) = true := by decide +kernel
  exact this z hz
theorem tie_nice {ts : List Tab} (okt : TabsOk 5 ts) {zs : List Str} (h : TieOk ts zs) : Nice 1000000000 61 (tieD zs) ∧ wt (tieD zs) ≤ 700 ∧ (tieD zs).depth ≤ 1 := by
  obtain ⟨n, t, c, o, g, u, l, rfl, hn, ht, hc, ho, hg, hu, hl⟩ := h.ex
  have a1 := name_nice hn 1000000000 61
  have a2 := name_nice (tns_ok okt t ht) 1000000000 61
  have a3 := name_nice ((cns_ok okt ht).1 c hc) 1000000000 61
  have a4 := name_nice (tns_ok okt o ho) 1000000000 61
  have a5 := name_nice (lateways_nice g (List.mem_append_left _ hg)) 1000000000 61
  have a6 := name_nice (lateways_nice u (List.mem_append_left _ hu)) 1000000000 61
  have a7 := name_nice (lateways_nice l (List.mem_append_right _ hl)) 1000000000 61
  refine ⟨⟨by show 7 ≤ 61; decide, a1.1, a2.1, a3.1, a4.1, a5.1, a6.1, a7.1, trivial⟩, ?_, by show max 0 (max 0 (max 0 (max 0 (max 0 (max 0 (max 0 0)))))) + 1 ≤ 1; decide⟩
  show 6 + (wt (.str n) + 3 + (wt (.str t) + 3 + (wt (.str c) + 3 + (wt (.str o) + 3 + (wt (.str g) + 3 + (wt (.str u) + 3 + (wt (.str l) + 3 + 0))))))) ≤ 700
  have := a1.2; have := a2.2; have := a3.2; have := a4.2; have := a5.2; have := a6.2; have := a7.2
  omega
theorem ties_nice {ts : List Tab} (okt : TabsOk 5 ts) {es : List (List Str)} (h : ∀ z ∈ es, TieOk ts z) (l : es.length ≤ 12) : Nice 1000000000 61 (.tuple (es.map tieD)) ∧ wt (.tuple (es.map tieD)) ≤ 9000 ∧ (PyData.tuple (es.map tieD)).depth ≤ 2 := by
  refine ⟨⟨by rw [List.length_map]; omega, all_nice fun z hz => (tie_nice okt (h z hz)).1⟩, ?_, ?_⟩
  · have h1 : ∀ es : List (List Str), (∀ z ∈ es, wt (tieD z) ≤ 700) → wtAll (es.map tieD) ≤ es.length * 703 := by
      intro es
      induction es with
      | nil => intro _; exact Nat.le_refl _
      | cons z es ih =>
        intro hz
        have e1 := hz z (List.mem_cons_self ..)
        have e2 := ih fun y hy => hz y (List.mem_cons_of_mem _ hy)
        show wt (tieD z) + 3 + wtAll (es.map tieD) ≤ (es.length + 1) * 703
        omega
    have h2 := h1 es fun z hz => (tie_nice okt (h z hz)).2.1
    show 6 + wtAll (es.map tieD) ≤ 9000
    omega
  · have h2 := all_depth (f := tieD) (n := 1) fun z hz => (tie_nice okt (h z hz)).2.2
    show PyData.depthAll (es.map tieD) + 1 ≤ 2
    omega
def planD (ts : List Tab) (es : List (List Str)) : PyData := .tuple [.tuple (ts.map tabD), .tuple (es.map tieD), .tuple []]
theorem both_shows {K : PySem.W.Frag} {H : Hp} {tp : Addr} {ts : List Tab} {es : List (List Str)} {ct : List (List Rw)} (hT : Tabs K H tp ts) (h : ∀ z ∈ es, TieOk ts z) (l : es.length ≤ 12) (okc : ContOk 10 ts ct) (l5 : ts.length ≤ 5) (o i r : Bool) : Shows (.list [planD ts es, handD o i r ct]) := by
  obtain ⟨n1, w1, d1⟩ := tabs_all hT
  obtain ⟨n2, w2, d2⟩ := ties_nice hT.ok h l
  have hs : (ct.map List.length).sum ≤ 61 := by
    have h1 := sum_few (l := ct.map List.length) (n := 10) fun x hx => by
      obtain ⟨rs, hrs, rfl⟩ := List.mem_map.mp hx
      exact okc.few rs hrs
    rw [List.length_map, okc.len] at h1
    omega
  obtain ⟨n3, w3, d3⟩ := hand_nice okc hT.ok hT.l8 hs o i r
  refine shows_nice (B := 1000000000) (L := 61) ⟨by show 2 ≤ 61; decide, ⟨by show 3 ≤ 61; decide, Nice.mono (Nat.le_refl _) (by decide) n1, n2, ⟨by show 0 ≤ 61; decide, trivial⟩, trivial⟩, n3, trivial⟩ (by decide) ?_ ?_
  · show max (max (PyData.tuple (ts.map tabD)).depth (max (PyData.tuple (es.map tieD)).depth (max 1 0)) + 1) (max (handD o i r ct).depth 0) + 1 ≤ 60
    omega
  · show 6 + ((6 + (wt (.tuple (ts.map tabD)) + 3 + (wt (.tuple (es.map tieD)) + 3 + (6 + 3 + 0)))) + 3 + (wt (handD o i r ct) + 3 + 0)) ≤ 100000
    omega
theorem cont_all {ts : List Tab} {ct : List (List Rw)} (okt : TabsOk 5 ts) (okc : ContOk 10 ts ct) : ContAll ts ct ∧ ∀ t ∈ tns ts, (rowsAt ts ct t).length ≤ 20 := by
  have key : ∀ t ∈ tns ts, At ts ct t (rowsAt ts ct t) ∧ (rowsAt ts ct t).length ≤ 10 := fun t ht => by
    have lat : (tns ts).idxOf t < (tns ts).length := List.idxOf_lt_length_of_mem ht
    have lat2 : (tns ts).idxOf t < ts.length := by rw [List.length_map] at lat; exact lat
    have lat3 : (tns ts).idxOf t < ct.length := by rw [okc.len]; exact lat2
    obtain ⟨tb2, h1⟩ : ∃ t', ts[(tns ts).idxOf t]? = some t' := ⟨_, List.getElem?_eq_getElem lat2⟩
    obtain ⟨rs, h2⟩ : ∃ rs, ct[(tns ts).idxOf t]? = some rs := ⟨_, List.getElem?_eq_getElem lat3⟩
    have er : rowsAt ts ct t = rs := by unfold rowsAt; rw [h2]; rfl
    rw [er]
    have e1 : tb2.1 = t := by
      have h5 : (tns ts)[(tns ts).idxOf t]? = some t := by rw [List.getElem?_eq_getElem lat, List.getElem_idxOf]
      rw [List.getElem?_map, h1] at h5
      exact Option.some.inj h5
    have e2 : (cns ts t).length = tb2.2.length := by
      show ((colsOf ts t).map _).length = _
      rw [← e1, colsOf_mem okt.nd (List.mem_of_getElem? h1), List.length_map]
    have hl := okc.few _ (List.mem_of_getElem? h2)
    exact ⟨⟨ht, h2, by rw [e2]; exact okc.rows _ _ _ h1 h2, by omega⟩, hl⟩
  exact ⟨fun t ht => (key t ht).1, fun t ht => by have := (key t ht).2; omega⟩
theorem all_true (n : Nat) : (List.replicate n true).all id = true := List.all_eq_true.mpr fun b hb => by rw [(List.mem_replicate.mp hb).2]; rfl
end TT

set_option Elab.async false
set_option linter.all false
set_option maxRecDepth 100000
namespace TT
open PySem PySem.Spec PyProof.Rows L2
/-! ### a def with a default at its end -/
def DefD (P : Program) (w : World) (K : PySem.W.Frag) (mg : Str → Option Value) (base : Heap) (k : Nat) (x : Str) (ps : List Str) (dv : V) (sp : Sp) : Prop :=
  ∃ f fd ds, mg x = some (.ref f) ∧ PySem.W.keepIn K (.ref f) = true ∧ Vals [dv] ds ∧ Binds K fd ps ds ∧ FnOk P w K mg base CX0 k f fd ps sp
section
variable {X : Cx} {k j : Nat} {x : Str} {ps : List Str} {dv : V} {sp : Sp} {p pos : Pos} {e : Expr} {es : List Expr} {t : TA}
theorem pe_ownD (D : DefD X.prog X.w X.K X.mg X.base k x ps dv sp) (hr : Room j X.A) (ha : PA X (e :: es) t) (hkj : k ≤ j := by decide) (hg : Gl X x := by rfl) (hdb : (x == ("__debug__" : Str)) = false := by decide)
    (he : starEach (e :: es) X.env = (false, eval e X.env) :: starEach es X.env := by rfl) (hpl : (backTo pos (starEach es X.env)).any (·.1) = false := by rfl) :
    PE X (.Call (.Name x p) (e :: es) [] pos) (tCall sp [dv] E0 t) := by
  obtain ⟨f, fd, ds, hm, hk, hd, hb, F⟩ := D
  exact pe_call F (hr.mono hkj) hg hm hk hb hd pass0 ha hdb he hpl
end
/-! ### what is loose by a tie -/
theorem str_dec (a b : Str) : decide (V.str a = V.str b) = decide (a = b) := by
  by_cases h : a = b
  · rw [h, decide_eq_true rfl, decide_eq_true rfl]
  · rw [decide_eq_false h, decide_eq_false fun z => h (V.str.inj z)]
def keysOf (rs : List Rw) : List Int := rs.map keyW
def isLoose (zs : List Str) (c : Str) (ks : List Int) (r : Rw) : Bool := match cellAt zs c r with
  | none => false
  | some k => !decide (k ∈ ks)
def looseOf (ts : List Tab) (ct : List (List Rw)) : List Str → List PyData
  | [n, t, c, o, _, _, _] => ((rowsAt ts ct t).filter (isLoose (cns ts t) c (keysOf (rowsAt ts ct o)))).map fun r => .tuple [.str n, .int (keyW r)]
  | _ => []
def whenV : Option Str → V
  | none => .non
  | some z => .str z
def isWhen (wh : Option Str) (zs : List Str) : Bool := match wh with
  | none => true
  | some z => decide (zs.getD 6 Str.empty = z)
def looseL (ts : List Tab) (ct : List (List Rw)) (es : List (List Str)) (wh : Option Str) : List PyData := (es.filter (isWhen wh)).flatMap (looseOf ts ct)
/-- a dict comprehension -/
theorem dc_it {J : It} {n : Nat} {G : Hp → Prop} {Y : Nat → Hp → V → Hp → Prop} (w : Walk J n G Y) {g : TG} {tt : TT} {tk tv : TE} {vs : List Nat} {σ : L2.St} {H1 : Hp} {D : Addr} {Qd : Hp → Prop} (Pv : Nat → Hp → Prop)
    (h0 : Pv 0 (upd H1 D (.dK []))) (hG : ∀ (i : Nat) (H : Hp), i ≤ n → Pv i H → G H)
    (hs : ∀ (i : Nat) (x : V) (H H' : Hp), i < n → Pv i H → Y i H x H' → g x (wipe σ vs) H' fun σ2 H2 => wipe σ2 vs = wipe σ vs ∧ tt σ2 H2 fun b H3 =>
      if b = true then tk σ2 H3 fun y H4 => tv σ2 H4 fun z H5 => ∃ kvs k, y = kV k ∧ H5 D = some (.dK kvs) ∧ kvs.length < sizeLine ∧ Pv (i + 1) (upd H5 D (.dK (putK kvs k z))) else Pv (i + 1) H3)
    (hd : ∀ H, Pv n H → Qd H) :
    ∃ W : Nat → Nat → Hp → Prop, (∃ m, W 0 m (upd H1 D (.dK []))) ∧ ∀ i m H, W i m H →
      (J.stop i H ∧ Qd H) ∨ (J.go i H ∧ ∃ Nx : Hp → Prop, (∀ H', Nx H' → ∃ m', m' < m ∧ W (i + 1) m' H') ∧ ∀ x H', J.yld i H x H' → g x (wipe σ vs) H' fun σ2 H2 => wipe σ2 vs = wipe σ vs ∧ tt σ2 H2 fun b H3 =>
        if b = true then tk σ2 H3 fun y H4 => tv σ2 H4 fun z H5 => ∃ kvs k, y = kV k ∧ H5 D = some (.dK kvs) ∧ kvs.length < sizeLine ∧ Nx (upd H5 D (.dK (putK kvs k z))) else Nx H3) := by
  refine ⟨fun i m H => i ≤ n ∧ m = n - i ∧ Pv i H, ⟨n, Nat.zero_le _, rfl, h0⟩, fun i m H ⟨h1, h2, h3⟩ => ?_⟩
  by_cases hi : i < n
  · exact .inr ⟨w.goes i H hi (hG i H h1 h3), fun H' => Pv (i + 1) H', fun H' h => ⟨n - (i + 1), by omega, hi, rfl, h⟩, fun x H' hy => hs i x H H' hi h3 (w.yields i H x H' hi (hG i H h1 h3) hy)⟩
  · obtain rfl : i = n := by omega
    exact .inl ⟨w.stops H (hG i H h1 h3), hd H h3⟩
theorem if_two {c : TT} {a b : TS} {D : Ends} {σ : L2.St} {H : Hp} (bb : Bool) (hc : ∀ Q : Bool → Hp → Prop, Q bb H → c σ H Q) (h : if bb = true then a D σ H else b D σ H) : tIfS c a b D σ H := hc _ h
theorem len_loose (ts : List Tab) (ct : List (List Rw)) (zs : List Str) (h : ∀ t, (rowsAt ts ct t).length ≤ 20) : (looseOf ts ct zs).length ≤ 20 := by
  unfold looseOf
  split
  · rw [List.length_map]
    exact Nat.le_trans (List.length_filter_le _ _) (h _)
  · exact Nat.zero_le _
theorem len_flat {α β : Type} (f : α → List β) (n : Nat) (h : ∀ a, (f a).length ≤ n) : ∀ l : List α, (l.flatMap f).length ≤ l.length * n
  | [] => Nat.zero_le _
  | a :: l => by
    rw [List.flatMap_cons, List.length_append, List.length_cons]
    have h1 := h a
    have h2 := len_flat f n h l
    have h3 : (l.length + 1) * n = l.length * n + n := by rw [Nat.add_mul, Nat.one_mul]
    omega
theorem rows_few {ts : List Tab} {ct : List (List Rw)} (h : ∀ t ∈ tns ts, (rowsAt ts ct t).length ≤ 20) (all : ∀ rs ∈ ct, rs.length ≤ 20) : ∀ t, (rowsAt ts ct t).length ≤ 20 := fun t => by
  unfold rowsAt
  cases e : ct[(tns ts).idxOf t]? with
  | none => exact Nat.zero_le _
  | some rs => exact all rs (List.mem_of_getElem? e)
section
variable {P : Program} {w : World} {K : PySem.W.Frag} {mg : Str → Option Value} {base : Heap}
/-- a plan, what is handed in, a content -/
structure World2 (K : PySem.W.Frag) (M : Hp) (pl tp ep : Addr) (x v : V) (ts : List Tab) (es : List (List Str)) (o i r : Bool) (ct : List (List Rw)) : Prop where
  pl : SqT K M pl [.ref tp, .ref ep, x]
  tp : Tabs K M tp ts
  ep : Dp K M (.ref ep) (.tuple (es.map tieD))
  ties : ∀ z ∈ es, TieOk ts z
  hd : Dp K M v (handD o i r ct)
  all : ContAll ts ct
  few : ∀ rs ∈ ct, rs.length ≤ 20
  fewE : es.length ≤ 12
theorem World2.same {M M' : Hp} {pl tp ep : Addr} {x v : V} {ts : List Tab} {es : List (List Str)} {o i r : Bool} {ct : List (List Rw)} (h : World2 K M pl tp ep x v ts es o i r ct) (s : Same M M') : World2 K M' pl tp ep x v ts es o i r ct :=
  ⟨sameT s h.pl, h.tp.same s, dp_same s h.ep, h.ties, dp_same s h.hd, h.all, h.few, h.fewE⟩
def spLoose (K : PySem.W.Frag) : Sp := fun vs H Q _ => ∃ (pl tp ep : Addr) (x v : V) (ts : List Tab) (es : List (List Str)) (o i r : Bool) (ct : List (List Rw)) (wh : Option Str), vs = [.ref pl, v, whenV wh] ∧ World2 K H pl tp ep x v ts es o i r ct ∧
  ∀ (D : Addr) (us : List V) (H' : Hp), Same H H' → H D = none → H' D = some (.lst us) → DpAll K (msk [D] H') us (looseL ts ct es wh) → Q (.ref D) H'
abbrev s_loose : Stmt := topS 11
abbrev N_loose : List Str := ["plan", "content", "when", "told", "tie", "there", "pairs", "row", "low", "high"]
theorem sc_loose : FnScope N_loose ["plan", "content", "when"] (defScope s_loose) := ⟨rfl, rfl, rfl, by decide +kernel, rfl, by decide +kernel, by decide +kernel⟩

set_option maxHeartbeats 8000000 in
theorem ok_loose {f : Addr} {fd : FuncData} (F : FunD K "loose" "loose" (defArgs s_loose) (defBody s_loose) (defScope s_loose) [] [("when", .non)] f fd) (D_rows_of : Def P w K mg base 3 "rows_of" ["tables", "content", "table"] (spRowsOf K)) (D_leans_by : Def P w K mg base 4 "leans_by" ["plan", "content", "tie"] (spLeansBy K)) : FnOk P w K mg base CX0 5 f fd ["plan", "content", "when"] (spLoose K) := by
  refine F.ok sc_loose (fun vs H Q E h => ?_) (fun cdv A outer sh H vs Q E hr h => ?_)
  · obtain ⟨pl, tp, ep, x, v, ts, es, o, i, r, ct, wh, rfl, _⟩ := h
    rfl
  obtain ⟨pl, tp, ep, x, v, ts, es, o, i, r, ct, wh, rfl, W0, q⟩ := h
  have nd := sc_loose.nd
  have hu := hu_of hr
  refine ⟨_, PSs.nox ((pss_cons (ps_set (i := 3) nd rfl (Or.inl rfl) (pe_lst pa_nil))
      (pss_cons (ps_for PassesOwn.never rfl (pi_tup (pe_ix ix_tup (pv 0) pe_int (fun _ _ => rfl))) (pg_name (i := 4) nd rfl (Or.inr rfl))
        (pss_one (ps_if (PW.pt (pw_or (pt_cmpR op_isN (pv 2) pe_non (nomark _)) (pw_or1 (pt_cmpR op_eq (pe_ix ix_tup (pv 4) pe_int (fun _ _ => rfl)) (pv 2) (nomark _)))))
          (pss_cons (ps_set (i := 5) nd rfl (Or.inr rfl) (pe_dc (own := [("row", 7)]) (g := (gName 7)) (tt := tYes) rfl nd (pi_list (pe_own D_rows_of hr (pa_cons (pe_ix ix_tup (pv 0) pe_int (fun _ _ => rfl)) (pa_cons (pv 1) (pa_cons (pe_ix ix_tup (pv 4) pe_int (fun _ _ => rfl)) pa_nil))))) (blkOk_by (N := N_loose) (sc := defScope s_loose) (by decide +kernel)) (fun _ _ _ _ _ => (pg_name (i := 7) nd rfl (Or.inl rfl))) (fun _ _ _ _ _ => pts_nil) (fun _ _ _ _ _ => (pe_ix (r := rIxT K) ix_tup (pv 7) pe_int (fun _ _ => rfl))) (fun _ _ _ _ _ => pe_bl)))
          (pss_cons (ps_set (i := 6) nd rfl (Or.inl rfl) (pe_own D_leans_by hr (pa_cons (pv 0) (pa_cons (pv 1) (pa_cons (pv 4) pa_nil)))))
          (pss_one (ps_expr (pe_bm PySem.F.plainAttrs_list PySem.F.slot_list_extend PySem.F.type_list_extend mt_extend (pv 3) (pa_cons (pe_lc (own := [("low", 8), ("high", 9)]) (g := (gTup _ 2 (gCons (gName 8) (gCons (gName 9) gNil)))) rfl nd (pi_list (pv 6)) (blkOk_by (N := N_loose) (sc := defScope s_loose) (by decide +kernel)) (fun _ _ _ _ _ => (pg_tup rfl (pgs_cons (pg_name (i := 8) nd rfl (Or.inl rfl)) (pgs_cons (pg_name (i := 9) nd rfl (Or.inl rfl)) pgs_nil)))) (fun _ _ _ _ _ => (pts_one (pt_cmp (pc_dnotin hu (pv 9) (pv 5)) (by rfl)))) (fun _ _ _ _ _ => (pe_tup (pa_cons (pe_ix (r := rIxT K) ix_tup (pv 4) pe_int (fun _ _ => rfl)) (pa_cons (pv 8) pa_nil))))) pa_nil))))))
          pss_nil)))
      (pss_one (ps_ret (pv 3)))))), ?_⟩
  refine ⟨Nat.zero_le _, fun D nD => ?_⟩
  obtain ⟨q0, xs, e0, hES, hEA⟩ := seq_dp (b := true) W0.ep
  cases e0
  have lxs : xs.length = es.length := by rw [dpAll_len hEA, List.length_map]
  have sD := same_upd (o := .lst []) nD
  have rf : ∀ t, (rowsAt ts ct t).length ≤ 20 := rows_few (fun t ht => by have := (W0.all t ht).row; exact W0.few _ (List.mem_of_getElem? this)) W0.few
  have W1 := W0.same sD
  have eD1 : (upd H D (.lst [])) D = some (.lst []) := upd_same
  dsimp only [List.set]
  generalize hH1 : upd H D (.lst []) = H1 at sD W1 eD1 ⊢
  refine ⟨.ref pl, rfl, pl, _, 1, .ref ep, rfl, rfl, W1.pl, atI_nat (j := 1) rfl, ep, rfl, ⟨xs, sameT sD hES⟩, ?_⟩
  refine for_it (walk_tup (xs := xs)) (fun j σ H' => (∃ y4 y5 y6, σ = [some (.ref pl), some v, some (whenV wh), some (.ref D), y4, y5, y6, none, none, none]) ∧ (∃ us, Grow K [] H' D us (((es.take j).filter (isWhen wh)).flatMap (looseOf ts ct))) ∧ Kept [D] H1 H') ⟨⟨_, _, _, rfl⟩, ⟨[], eD1, .nil⟩, Kept.refl _ _⟩ (fun j σ H' _ hP => ?G) (fun j y σ H2 H2' hj hP hY => ?_) (fun σ H2 hP => ?_)
  case G => exact sameT (kept_same ((Kept.of_same sD).trans hP.2.2) nD) hES
  · obtain ⟨rfl, hy⟩ := hY
    obtain ⟨⟨y4, y5, y6, rfl⟩, ⟨us, gr⟩, k12⟩ := hP
    obtain ⟨d, hd1, hd2⟩ := dpAll_get j hEA hy
    rw [List.getElem?_map] at hd1
    obtain ⟨zs, hz, rfl⟩ := Option.map_eq_some_iff.mp hd1
    obtain ⟨n, t, c, ot, g, u, l, rfl, okn, ht, hc, hot, _, _, hl⟩ := (W0.ties zs (List.mem_of_getElem? hz)).ex
    obtain ⟨qt, yz, rfl, hqt, hyz⟩ := seq_dp (b := true) hd2
    have eyz : yz = [.str n, .str t, .str c, .str ot, .str g, .str u, .str l] := dpAll_strs hyz
    subst eyz
    have s2 : Same H H2' := kept_same ((Kept.of_same sD).trans k12) nD
    have W2 := W0.same s2
    have hq2 := sameT s2 hqt
    have et : ((es.take (j + 1)).filter (isWhen wh)).flatMap (looseOf ts ct) = ((es.take j).filter (isWhen wh)).flatMap (looseOf ts ct) ++ (if isWhen wh [n, t, c, ot, g, u, l] = true then looseOf ts ct [n, t, c, ot, g, u, l] else []) := by
      rw [List.take_add_one, hz, List.filter_append, List.flatMap_append]
      congr 1
      show (List.filter _ [_]).flatMap _ = _
      rw [List.filter_cons, List.filter_nil]
      split
      · rw [List.flatMap_cons, List.flatMap_nil, List.append_nil]
      · rfl
    have lus : us.length ≤ 240 := by
      rw [gr.len]
      have h1 := len_flat (looseOf ts ct) 20 (fun z => len_loose ts ct z rf) ((es.take j).filter (isWhen wh))
      have h2 := List.length_filter_le (isWhen wh) (es.take j)
      have h3 := W0.fewE
      rw [List.length_take] at h2
      omega
    refine if_two (isWhen wh [n, t, c, ot, g, u, l]) (fun Qc hq => ?_) (ite2 (fun hw => ?_) (fun hw => ?_))
    · cases wh with
      | none => exact ⟨.non, rfl, rfl, _, rfl, iteT hq⟩
      | some z => exact ⟨.str z, rfl, rfl, _, rfl, iteF ⟨.ref qt, rfl, qt, _, 6, .str l, rfl, rfl, hq2, atI_nat (j := 6) rfl, .str z, rfl, rfl, _, rfl, (by rw [str_dec]; exact hq)⟩⟩
    · have hA := W0.all t ht
      have hA2 := W0.all ot hot
      have f1 := rf t
      have f2 := rf ot
      dsimp only [List.set]
      refine ⟨.ref pl, rfl, pl, _, 0, .ref tp, rfl, rfl, W2.pl, atI_nat (j := 0) rfl, v, rfl, .ref qt, rfl, qt, _, 3, .str ot, rfl, rfl, hq2, atI_nat (j := 3) rfl, tp, ts, v, o, i, r, ct, ot, rowsAt ts ct ot, rfl, W2.tp, W2.hd, hA2, fun R1 us1 H3 s3 nR1 eR1 hus1 => ?_⟩
      have lus1 : us1.length = (rowsAt ts ct ot).length := by rw [dpAll_len hus1, List.length_map]
      refine ⟨R1, rfl, ⟨us1, .inl (.inl eR1)⟩, fun DK nDK => ?_⟩
      have nR1K : R1 ≠ DK := ne_of_none eR1 nDK
      refine dc_it (walk_list (xs := us1)) (fun j2 H' => ∃ kvs : List (Key × V), H' DK = some (.dK kvs) ∧ kvs.length ≤ j2 ∧ (∀ k : Int, (valV kvs (.inl k)).isSome = decide (k ∈ ((rowsAt ts ct ot).take j2).map keyW)) ∧ Kept [DK] H3 H') ⟨[], upd_same, Nat.le_refl _, fun k => by simp [valV], Kept.upd_new nDK⟩ (fun j2 H' _ hP => let ⟨_, _, _, _, kk⟩ := hP; .inl (.inl (kk.at eR1 (by simp [nR1K])))) (fun j2 y2 H4 H4' hj2 hP2 hY2 => ?_) (fun H4 hP2 => ?_)
      · obtain ⟨rfl, hy2⟩ := hY2
        obtain ⟨kvs, eK, lkv, hkv, kk⟩ := hP2
        obtain ⟨row, p, hrow, rfl, hp⟩ := row_at' hus1 hy2
        have okr := hA2.ok.row row (List.mem_of_getElem? hrow)
        have hp2 := sameT ((msk_sub _ _).trans (kept_same kk nDK)) hp
        refine ⟨rfl, ?_⟩
        unfold tYes
        dsimp only
        refine iteT ⟨.ref p, rfl, p, _, 0, .int (keyW row), rfl, rfl, hp2, atI_nat (j := 0) (key0 okr), kvs, .inl (keyW row), rfl, eK, small1000 (by omega), _, upd_same, ?_, fun k => ?_, kk.trans (Kept.upd_in (List.mem_cons_self ..))⟩
        · exact Nat.le_trans (length_putK _ _ _) (by omega)
        · rw [valV_put, List.take_add_one, hrow, List.map_append]
          by_cases e : k = keyW row
          · subst e
            rw [if_pos rfl]
            exact (decide_eq_true (List.mem_append_right _ (List.mem_singleton.mpr rfl))).symm
          · rw [if_neg (fun z => e (Sum.inl.inj z)), hkv k]
            have : k ∈ ((rowsAt ts ct ot).take j2).map keyW ++ (some row).toList.map keyW ↔ k ∈ ((rowsAt ts ct ot).take j2).map keyW := by
              rw [List.mem_append]
              exact ⟨fun z => z.elim id fun z => absurd (List.mem_singleton.mp z) e, .inl⟩
            exact decide_eq_decide.mpr this.symm
      · obtain ⟨kvs, eK, lkv, hkv, kk⟩ := hP2
        rw [lus1, List.take_length] at hkv
        have s4 : Same H2' H4 := s3.trans (kept_same kk nDK)
        have W4 := W2.same s4
        dsimp only [List.set]
        refine ⟨.ref pl, rfl, v, rfl, .ref qt, rfl, pl, tp, qt, .ref ep, x, ts, v, o, i, r, ct, n, t, c, ot, g, u, l, rowsAt ts ct t, rfl, W4.pl, W4.tp, W4.hd, sameT s4 hq2, hA, hc, fun R2 us2 H5 s5 nR2 eR2 hus2 => ?_⟩
        have s25 := s4.trans s5
        have hq5 := sameT s25 hq2
        have eK5 := s5 _ _ eK
        have gr5 := gr.kept (Kept.of_same s25) List.not_mem_nil
        have lus2 : us2.length = ((rowsAt ts ct t).filter fun r => !decide (cellAt (cns ts t) c r = none)).length := by rw [dpAll_len hus2]; unfold leanP; rw [List.length_map]
        have lfl := List.length_filter_le (fun r => !decide (cellAt (cns ts t) c r = none)) (rowsAt ts ct t)
        have el : looseOf ts ct [n, t, c, ot, g, u, l] = (((rowsAt ts ct t).filter fun r => !decide (cellAt (cns ts t) c r = none)).filter (isLoose (cns ts t) c (keysOf (rowsAt ts ct ot)))).map fun r => .tuple [.str n, .int (keyW r)] := by
          show ((rowsAt ts ct t).filter _).map _ = _
          rw [List.filter_filter]
          refine congrArg _ (List.filter_congr fun r _ => ?_)
          unfold isLoose
          cases cellAt (cns ts t) c r with
          | none => rfl
          | some k => simp
        unfold leanP at hus2
        have hlp : ∀ r ∈ (rowsAt ts ct t).filter (fun r => !decide (cellAt (cns ts t) c r = none)), ∃ k, cellAt (cns ts t) c r = some k := fun r hr => by
          have h1 := (List.mem_filter.mp hr).2
          cases e : cellAt (cns ts t) c r with
          | none => rw [e] at h1; simp at h1
          | some k => exact ⟨k, rfl⟩
        generalize (rowsAt ts ct t).filter (fun r => !decide (cellAt (cns ts t) c r = none)) = lp at lus2 lfl el hus2 hlp
        dsimp only [List.set]
        refine ⟨.ref D, rfl, .inl ⟨rfl, _, .inl (.inl gr5.at')⟩, .ref R2, rfl, R2, rfl, ⟨us2, .inl (.inl eR2)⟩, fun D2 nD2 => ?_⟩
        have nDD2 : D ≠ D2 := ne_of_none gr5.at' nD2
        have nR2D : R2 ≠ D2 := ne_of_none eR2 nD2
        have nK2 : DK ≠ D2 := ne_of_none eK5 nD2
        have oD2 : D2 ∉ [D] := by simpa using nDD2.symm
        refine lc_it (walk_list (xs := us2)) (fun j2 H' => ∃ ws, Grow K [D] H' D2 ws (((lp.take j2).filter (isLoose (cns ts t) c (keysOf (rowsAt ts ct ot)))).map fun r => .tuple [.str n, .int (keyW r)]) ∧ Kept [D2] H5 H') ⟨[], .start, Kept.upd_new nD2⟩ (fun j2 H' _ hP => let ⟨_, _, kk⟩ := hP; .inl (.inl (kk.at eR2 (by simp [nR2D])))) (fun j2 y2 H6 H6' hj2 hP2 hY2 => ?_) (fun H6 hP2 => ?_)
        · obtain ⟨rfl, hy2⟩ := hY2
          obtain ⟨ws, gw, k6⟩ := hP2
          obtain ⟨d, hd3, hd4⟩ := dpAll_get j2 hus2 hy2
          rw [List.getElem?_map] at hd3
          obtain ⟨row, hrow, rfl⟩ := Option.map_eq_some_iff.mp hd3
          obtain ⟨k, hk⟩ := hlp row (List.mem_of_getElem? hrow)
          obtain ⟨rp, yr, rfl, hS, hys⟩ := seq_dp (b := true) hd4
          rw [hk] at hys
          obtain rfl : yr = [.int (keyW row), .int k] := by
            cases hys with
            | cons h1 h2 =>
              cases h2 with
              | cons h3 h4 => cases h4; cases h1; cases h3; rfl
          have s6 := kept_same k6 nD2
          have eb : isLoose (cns ts t) c (keysOf (rowsAt ts ct ot)) row = !decide (k ∈ (rowsAt ts ct ot).map keyW) := by
            unfold isLoose; rw [hk]; rfl
          have et2 : ((lp.take (j2 + 1)).filter (isLoose (cns ts t) c (keysOf (rowsAt ts ct ot)))) = ((lp.take j2).filter (isLoose (cns ts t) c (keysOf (rowsAt ts ct ot)))) ++ (if isLoose (cns ts t) c (keysOf (rowsAt ts ct ot)) row = true then [row] else []) := by
            rw [List.take_add_one, hrow, List.filter_append]
            congr 1
            show List.filter _ [row] = _
            rw [List.filter_cons, List.filter_nil]
          have lws : ws.length ≤ 20 := by
            rw [gw.len, List.length_map]
            have h1 := List.length_filter_le (isLoose (cns ts t) c (keysOf (rowsAt ts ct ot))) (lp.take j2)
            rw [List.length_take] at h1
            omega
          refine ⟨rp, _, rfl, sameT s6 hS, rfl, _, _, rfl, _, _, rfl, rfl, rfl, ?_⟩
          refine ⟨_, rfl, _, rfl, DK, _, rfl, .inl ⟨kvs, .inl k, .inl (s6 _ _ eK5), rfl, rfl⟩, _, rfl, ?_⟩
          rw [hkv k, ← eb]
          refine ite2 (fun e => ?_) (fun e => ?_)
          · refine ⟨.ref qt, rfl, qt, _, 0, .str n, rfl, rfl, sameT s6 hq5, atI_nat (j := 0) rfl, .int (keyW row), rfl, (by show 2 ≤ sizeLine; decide), fun tt ntt => ?_⟩
            have nDt : D2 ≠ tt := ne_of_none gw.at' ntt
            have nD3t : D ≠ tt := ne_of_none ((k6.at gr5.at' (by simp [nDD2]))) ntt
            have g7 := gw.kept (Kept.upd_new (o := .tup [.str n, .int (keyW row)]) ntt) oD2
            refine ⟨ws, g7.at', small1000 (by omega), ws ++ [.ref tt], ?_, k6.trans ((Kept.upd_new ntt).trans (Kept.upd_in (List.mem_cons_self ..)))⟩
            rw [et2, if_pos e, List.map_append]
            exact g7.put (.tup (.inl (.inl (msk_at upd_same (by simp [nDt.symm, nD3t.symm])))) (.cons (.str _) (.cons (.int _) .nil)))
          · exact ⟨ws, by rw [et2, if_neg e, List.append_nil]; exact gw, k6⟩
        · obtain ⟨ws, gw, k6⟩ := hP2
          rw [lus2, List.take_length, ← el] at gw
          have lws : ws.length ≤ 20 := by rw [gw.len]; exact len_loose ts ct _ rf
          have s6 := kept_same k6 nD2
          have gr6 := gr5.kept (Kept.of_same s6) List.not_mem_nil
          refine ⟨D, D2, us, ws, rfl, rfl, gr6.at', gw.at', Nat.le_of_lt (small1000 (by omega)), ⟨_, _, _, rfl⟩, ⟨us ++ ws, upd_same, ?_⟩, k12.trans (((Kept.of_same (s25.trans s6)).trans (Kept.upd_in (List.mem_cons_self ..))))⟩
          rw [et, if_pos hw]
          exact dpAll_same (msk_same (Kept.upd_in (List.mem_cons_self ..))) (dpAll_app gr6.dp (dpAll_same (msk_less sub_push) gw.dp))
    · refine ⟨⟨_, _, _, rfl⟩, ⟨us, ?_⟩, k12⟩
      rw [et, if_neg hw, List.append_nil]; exact gr
  · obtain ⟨⟨y4, y5, y6, rfl⟩, ⟨us, gr⟩, k12⟩ := hP
    rw [lxs, List.take_length] at gr
    exact ⟨.ref D, rfl, q D us H2 (kept_same ((Kept.of_same sD).trans k12) nD) nD gr.at' gr.dp⟩
end
end TT

set_option Elab.async false
set_option linter.all false
set_option maxRecDepth 100000
namespace TT
open PySem PySem.Spec PyProof.Rows L2
theorem empty_len {α β : Type} {l : List α} {m : List β} (h : l.length = m.length) : l.isEmpty = m.isEmpty := by
  cases l <;> cases m <;> first | rfl | cases h
section
variable {P : Program} {w : World} {K : PySem.W.Frag} {mg : Str → Option Value} {base : Heap}
def spHolds (K : PySem.W.Frag) : Sp := fun vs H Q _ => ∃ (pl tp ep : Addr) (x v : V) (ts : List Tab) (es : List (List Str)) (o i r : Bool) (ct : List (List Rw)), vs = [.ref pl, v] ∧ World2 K H pl tp ep x v ts es o i r ct ∧
  ∀ H', Same H H' → Q (.bl (looseL ts ct es none).isEmpty) H'
abbrev s_holds : Stmt := topS 12
abbrev N_holds : List Str := ["plan", "content"]
theorem sc_holds : FnScope N_holds ["plan", "content"] (defScope s_holds) := ⟨rfl, rfl, rfl, by decide +kernel, rfl, by decide +kernel, by decide +kernel⟩

theorem ok_holds {f : Addr} {fd : FuncData} (F : Fun K "holds" "holds" s_holds f fd) (D_loose_d : DefD P w K mg base 5 "loose" ["plan", "content", "when"] .non (spLoose K)) : FnOk P w K mg base CX0 6 f fd ["plan", "content"] (spHolds K) := by
  refine F.ok sc_holds (fun vs H Q E h => ?_) (fun cdv A outer sh H vs Q E hr h => ?_)
  · obtain ⟨pl, tp, ep, x, v, ts, es, o, i, r, ct, rfl, _⟩ := h
    rfl
  obtain ⟨pl, tp, ep, x, v, ts, es, o, i, r, ct, rfl, W0, q⟩ := h
  have nd := sc_holds.nd
  refine ⟨_, (pss_one (ps_ret (pe_notT (pe_ownD D_loose_d hr (pa_cons (pv 0) (pa_cons (pv 1) pa_nil)))))), ?_⟩
  refine ⟨.ref pl, rfl, v, rfl, pl, tp, ep, x, v, ts, es, o, i, r, ct, none, rfl, W0, fun D us H' s nD eD dD => ⟨!us.isEmpty, .inl ⟨us, .inl (.inl eD), rfl⟩, ?_⟩⟩
  rw [Bool.not_not, empty_len (dpAll_len dD)]
  exact q H' s
end
end TT

set_option Elab.async false
set_option linter.all false
set_option maxRecDepth 100000
namespace TT
open PySem PySem.Spec PyProof.Rows L2
theorem same_msk {M : List Addr} {H H' : Hp} (s : Same H H') (n : ∀ p ∈ M, H p = none) : Same H (msk M H') := fun b o e => msk_at (s b o e) (fun z => by rw [n b z] at e; cases e)
theorem eqV_w (a b : Option Int) : eqV (wV a) (wV b) = decide (a = b) := by
  cases a with
  | none => cases b <;> rfl
  | some i => cases b with
    | none => rfl
    | some j =>
      show (i == j) = _
      by_cases h : i = j
      · rw [h, decide_eq_true rfl]; simp
      · rw [decide_eq_false (fun z => h (Option.some.inj z))]; simp [h]
theorem inV_w (c : Option Int) (ws : List (Option Int)) : inV (wV c) (ws.map wV) = decide (c ∈ ws) := by
  show (ws.map wV).any (fun y => eqV y (wV c)) = _
  rw [List.any_map, Bool.eq_iff_iff, List.any_eq_true, decide_eq_true_iff]
  constructor
  · rintro ⟨x, hx, e⟩
    have e : eqV (wV x) (wV c) = true := e
    rw [eqV_w] at e
    rw [← of_decide_eq_true e]; exact hx
  · intro h
    exact ⟨c, h, by show eqV (wV c) (wV c) = true; rw [eqV_w]; exact decide_eq_true rfl⟩
theorem flat_w (c : Option Int) : flatV (wV c) = true := by cases c <;> rfl
theorem flat_ws (ws : List (Option Int)) : (ws.map wV).all flatV = true := by
  rw [List.all_map]
  exact List.all_eq_true.mpr fun x _ => flat_w x
theorem loose_in (zs : List Str) (c : Str) (ks : List Int) (r : Rw) : isLoose zs c ks r = !decide (cellAt zs c r ∈ ks.map some ++ [none]) := by
  unfold isLoose
  cases cellAt zs c r with
  | none => rw [decide_eq_true (List.mem_append_right _ (List.mem_singleton.mpr rfl))]; rfl
  | some k =>
    show (!decide (k ∈ ks)) = !decide (some k ∈ ks.map some ++ [none])
    refine congrArg Bool.not (decide_eq_decide.mpr ?_)
    rw [List.mem_append]
    constructor
    · intro h; exact .inl (List.mem_map.mpr ⟨k, h, rfl⟩)
    · rintro (h | h)
      · obtain ⟨x, hx, e⟩ := List.mem_map.mp h
        rw [← Option.some.inj e]; exact hx
      · cases List.mem_singleton.mp h
def isIn (tms : List Str) (zs : List Str) : Bool := decide (zs.getD 6 Str.empty ∈ tms)
def looseT (ts : List Tab) (ct : List (List Rw)) (es : List (List Str)) (tms : List Str) : List PyData := (es.filter (isIn tms)).flatMap (looseOf ts ct)
section
variable {P : Program} {w : World} {K : PySem.W.Frag} {mg : Str → Option Value} {base : Heap}
def spLawLoose (K : PySem.W.Frag) : Sp := fun vs H Q _ => ∃ (pl tp ep : Addr) (x : V) (cp tm : Addr) (ts : List Tab) (es : List (List Str)) (ct : List (List Rw)) (tms : List Str), vs = [.ref pl, .ref cp, .ref tm] ∧ World2 K H pl tp ep x (.ref cp) ts es false false true ct ∧ SqT K H tm (tms.map V.str) ∧
  ∀ (D : Addr) (us : List V) (H' : Hp), Same H H' → H D = none → H' D = some (.lst us) → DpAll K (msk [D] H') us (looseT ts ct es tms) → Q (.ref D) H'
abbrev s_law_loose : Stmt := topS 25
abbrev N_law_loose : List Str := ["plan", "content", "times", "found", "tie", "there", "rows", "place", "row"]
theorem sc_law_loose : FnScope N_law_loose ["plan", "content", "times"] (defScope s_law_loose) := ⟨rfl, rfl, rfl, by decide +kernel, rfl, by decide +kernel, by decide +kernel⟩

set_option maxHeartbeats 8000000 in
theorem ok_law_loose {f : Addr} {fd : FuncData} (F : Fun K "_law_loose" "_law_loose" s_law_loose f fd) (D_law_place : Def P w K mg base 1 "_law_place" ["tables", "table"] (spTabPlace K)) (D_law_column : Def P w K mg base 2 "_law_column" ["tables", "table", "column"] (spColPlace K)) : FnOk P w K mg base CX0 3 f fd ["plan", "content", "times"] (spLawLoose K) := by
  refine F.ok sc_law_loose (fun vs H Q E h => ?_) (fun cdv A outer sh H vs Q E hr h => ?_)
  · obtain ⟨pl, tp, ep, x, cp, tm, ts, es, ct, tms, rfl, _⟩ := h
    rfl
  obtain ⟨pl, tp, ep, x, cp, tm, ts, es, ct, tms, rfl, W0, htm, q⟩ := h
  have nd := sc_law_loose.nd
  refine ⟨_, (pss_cons (ps_set (i := 3) nd rfl (Or.inl rfl) (pe_lst pa_nil))
      (pss_cons (ps_for PassesOwn.never rfl (pi_list (pe_lc (own := [("tie", 4)]) (g := (gName 4)) rfl nd (pi_tup (pe_ix ix_tup (pv 0) pe_int (fun _ _ => rfl))) (blkOk_by (N := N_law_loose) (sc := defScope s_law_loose) (by decide +kernel)) (fun _ _ _ _ _ => (pg_name (i := 4) nd rfl (Or.inl rfl))) (fun _ _ _ _ _ => (pts_one (pt_cmpR (r := rIn K false) op_in_seq (pe_ix (r := rIxT K) ix_tup (pv 4) pe_int (fun _ _ => rfl)) (pv 2) (by rfl)))) (fun _ _ _ _ _ => (pv 4)))) (pg_name (i := 4) nd rfl (Or.inr rfl))
        (pss_cons (ps_set (i := 5) nd rfl (Or.inr rfl) (pe_lc (own := [("row", 8)]) (g := (gName 8)) (tt := tYes) rfl nd (pi_list (pe_ix ix_list (pv 1) (pe_own D_law_place hr (pa_cons (pe_ix ix_tup (pv 0) pe_int (fun _ _ => rfl)) (pa_cons (pe_ix ix_tup (pv 4) pe_int (fun _ _ => rfl)) pa_nil))) (fun _ _ => rfl))) (blkOk_by (N := N_law_loose) (sc := defScope s_law_loose) (by decide +kernel)) (fun _ _ _ _ _ => (pg_name (i := 8) nd rfl (Or.inl rfl))) (fun _ _ _ _ _ => pts_nil) (fun _ _ _ _ _ => (pe_ix (r := rIxT K) ix_tup (pv 8) pe_int (fun _ _ => rfl)))))
        (pss_cons (ps_asg (pe_tup (pa_cons (pe_ix ix_list (pv 1) (pe_own D_law_place hr (pa_cons (pe_ix ix_tup (pv 0) pe_int (fun _ _ => rfl)) (pa_cons (pe_ix ix_tup (pv 4) pe_int (fun _ _ => rfl)) pa_nil))) (fun _ _ => rfl)) (pa_cons (pe_own D_law_column hr (pa_cons (pe_ix ix_tup (pv 0) pe_int (fun _ _ => rfl)) (pa_cons (pe_ix ix_tup (pv 4) pe_int (fun _ _ => rfl)) (pa_cons (pe_ix ix_tup (pv 4) pe_int (fun _ _ => rfl)) pa_nil)))) pa_nil))) (pg_tup rfl (pgs_cons (pg_name (i := 6) nd rfl (Or.inl rfl)) (pgs_cons (pg_name (i := 7) nd rfl (Or.inr rfl)) pgs_nil))))
        (pss_one (ps_expr (pe_bm PySem.F.plainAttrs_list PySem.F.slot_list_extend PySem.F.type_list_extend mt_extend (pv 3) (pa_cons (pe_lc (own := [("row", 8)]) (g := (gName 8)) rfl nd (pi_list (pv 6)) (blkOk_by (N := N_law_loose) (sc := defScope s_law_loose) (by decide +kernel)) (fun _ _ _ _ _ => (pg_name (i := 8) nd rfl (Or.inl rfl))) (fun _ _ _ _ _ => (pts_one (pt_cmpR (r := rIn K true) op_notIn_seq (pe_ix (r := rIxT K) ix_tup (pv 8) (pv 7) (fun _ _ => rfl)) (pe_op op_cat (pv 5) (pe_lst (pa_cons pe_non pa_nil))) (by rfl)))) (fun _ _ _ _ _ => (pe_tup (pa_cons (pe_ix (r := rIxT K) ix_tup (pv 4) pe_int (fun _ _ => rfl)) (pa_cons (pe_ix (r := rIxT K) ix_tup (pv 8) pe_int (fun _ _ => rfl)) pa_nil))))) pa_nil)))))))
      (pss_one (ps_ret (pv 3))))), ?_⟩
  refine ⟨Nat.zero_le _, fun D nD => ?_⟩
  obtain ⟨q0, xs, e0, hES, hEA⟩ := seq_dp (b := true) W0.ep
  cases e0
  have hcp : Dp K H (.ref cp) (contD ct) := W0.hd
  have lxs : xs.length = es.length := by rw [dpAll_len hEA, List.length_map]
  have fewE := W0.fewE
  have sD := same_upd (o := .lst []) nD
  have rf : ∀ t, (rowsAt ts ct t).length ≤ 20 := rows_few (fun t ht => by have := (W0.all t ht).row; exact W0.few _ (List.mem_of_getElem? this)) W0.few
  have eD1 : (upd H D (.lst [])) D = some (.lst []) := upd_same
  dsimp only [List.set]
  generalize hH1 : upd H D (.lst []) = H1 at sD eD1 ⊢
  have W1 := W0.same sD
  -- its ties
  refine ⟨.ref pl, rfl, pl, _, 1, .ref ep, rfl, rfl, W1.pl, atI_nat (j := 1) rfl, ep, rfl, ⟨xs, sameT sD hES⟩, fun D3 nD3 => ?_⟩
  have nD3' : D ≠ D3 := ne_of_none eD1 nD3
  have hn3 : ∀ p ∈ [D3, D], H p = none := fun p hp => by
    have hp : p = D3 ∨ p = D := by simpa using hp
    rcases hp with rfl | rfl
    · exact Same.free sD nD3
    · exact nD
  have oD3 : D3 ∉ [D] := by simpa using nD3'.symm
  refine lc_it (walk_tup (xs := xs)) (fun j H' => ∃ vs, Grow K [D] H' D3 vs (((es.take j).filter (isIn tms)).map tieD) ∧ Kept [D3] H1 H') ⟨[], .start, Kept.upd_new nD3⟩ (fun j H' _ hP => let ⟨_, _, kk⟩ := hP; sameT (sD.trans (kept_same kk nD3)) hES) (fun j y H' H'' hj hP hY => ?_) (fun H5 hP => ?_)
  · obtain ⟨rfl, hy⟩ := hY
    obtain ⟨vs, g3, kk⟩ := hP
    obtain ⟨d, hd1, hd2⟩ := dpAll_get j hEA hy
    rw [List.getElem?_map] at hd1
    obtain ⟨zs, hz, rfl⟩ := Option.map_eq_some_iff.mp hd1
    obtain ⟨n', t', c', o', g', u', l', rfl, _⟩ := (W0.ties zs (List.mem_of_getElem? hz)).ex
    have sk := sD.trans (kept_same kk nD3)
    obtain ⟨qt, yz, rfl, hqt, hyz⟩ := seq_dp (b := true) hd2
    have eyz : yz = [.str n', .str t', .str c', .str o', .str g', .str u', .str l'] := dpAll_strs hyz
    subst eyz
    have et : ((es.take (j + 1)).filter (isIn tms)).map tieD = ((es.take j).filter (isIn tms)).map tieD ++ (if isIn tms [n', t', c', o', g', u', l'] = true then [tieD [n', t', c', o', g', u', l']] else []) := by
      rw [List.take_add_one, hz, List.filter_append, List.map_append]
      congr 1
      show (List.filter _ [_]).map tieD = _
      rw [List.filter_cons, List.filter_nil]
      split <;> rfl
    have lvs : vs.length ≤ 900 := by
      rw [g3.len, List.length_map]
      have h1 := List.length_filter_le (isIn tms) (es.take j)
      rw [List.length_take] at h1
      omega
    refine ⟨rfl, ?_⟩
    refine ⟨.ref qt, rfl, qt, _, 6, .str l', rfl, rfl, sameT sk hqt, atI_nat (j := 6) rfl, .ref tm, rfl, tm, _, rfl, .inr (sameT sk htm), rfl, flat_strs _, _, rfl, ?_⟩
    rw [if_neg Bool.false_ne_true, inV_strs]
    refine ite2 (fun e => ?_) (fun e => ?_)
    · refine ⟨.ref qt, rfl, vs, g3.at', small1000 (by omega), vs ++ [.ref qt], ?_, kk.trans (Kept.upd_in (List.mem_cons_self ..))⟩
      rw [et, if_pos (show isIn tms [n', t', c', o', g', u', l'] = true from e)]
      exact g3.put (.tup (sameT (same_msk sk hn3) hqt) (dp_strs [n', t', c', o', g', u', l']))
    · exact ⟨vs, by rw [et, if_neg (show ¬ isIn tms [n', t', c', o', g', u', l'] = true from e), List.append_nil]; exact g3, kk⟩
  obtain ⟨us3, g3, kk⟩ := hP
  rw [lxs, List.take_length] at g3
  have s5 := sD.trans (kept_same kk nD3)
  have eD5 := (kept_same kk nD3) _ _ eD1
  have hft : ∀ z ∈ es.filter (isIn tms), z ∈ es := fun z hz => (List.mem_filter.mp hz).1
  have lft := List.length_filter_le (isIn tms) es
  unfold looseT at q
  generalize es.filter (isIn tms) = ft at g3 hft lft q
  have lus3 : us3.length = ft.length := by rw [g3.len, List.length_map]
  refine ⟨D3, rfl, ⟨us3, .inl (.inl g3.at')⟩, ?_⟩
  refine for_it (walk_list (xs := us3)) (fun j σ H' => (∃ y4 y5 y6 y7, σ = [some (.ref pl), some (.ref cp), some (.ref tm), some (.ref D), y4, y5, y6, y7, none]) ∧ (∃ us, Grow K [] H' D us ((ft.take j).flatMap (looseOf ts ct))) ∧ Kept [D] H5 H') ⟨⟨_, _, _, _, rfl⟩, ⟨[], eD5, .nil⟩, Kept.refl _ _⟩ (fun j σ H' _ hP => .inl (.inl (hP.2.2.at g3.at' oD3))) (fun j y σ H6 H6' hj hP hY => ?_) (fun σ H6 hP => ?_)
  · obtain ⟨rfl, hy⟩ := hY
    obtain ⟨⟨y4, y5, y6, y7, rfl⟩, ⟨us, gr⟩, k6⟩ := hP
    obtain ⟨d, hd1, hd2⟩ := dpAll_get j g3.dp hy
    rw [List.getElem?_map] at hd1
    obtain ⟨zs, hz, rfl⟩ := Option.map_eq_some_iff.mp hd1
    obtain ⟨n, t, c, ot, g, u, l, rfl, okn, ht, hc, hot, _, _, hl⟩ := (W0.ties zs (hft zs (List.mem_of_getElem? hz))).ex
    obtain ⟨qt, yz, rfl, hqt, hyz⟩ := seq_dp (b := true) hd2
    have eyz : yz = [.str n, .str t, .str c, .str ot, .str g, .str u, .str l] := dpAll_strs hyz
    subst eyz
    have s6 : Same H H6' := kept_same ((Kept.of_same s5).trans k6) nD
    have W6 := W0.same s6
    have hq6 : SqT K H6' qt [.str n, .str t, .str c, .str ot, .str g, .str u, .str l] := sameT ((msk_same (k6.mono fun p h => List.mem_cons_of_mem _ h)).trans (msk_sub [D3, D] _)) hqt
    have hA := W0.all t ht
    have hA2 := W0.all ot hot
    have f1 := rf t
    have f2 := rf ot
    obtain ⟨cx, rp, ys, hCX, hxr, hRP, hRA, lys⟩ := cont_find hcp hA
    obtain ⟨cx2, rp2, ys2, hCX2, hxr2, hRP2, hRA2, lys2⟩ := cont_find hcp hA2
    have et : (ft.take (j + 1)).flatMap (looseOf ts ct) = (ft.take j).flatMap (looseOf ts ct) ++ looseOf ts ct [n, t, c, ot, g, u, l] := by
      rw [List.take_add_one, hz, List.flatMap_append]
      congr 1
      show [_].flatMap _ = _
      rw [List.flatMap_cons, List.flatMap_nil, List.append_nil]
    have lus : us.length ≤ 240 := by
      rw [gr.len]
      have h1 := len_flat (looseOf ts ct) 20 (fun z => len_loose ts ct z rf) (ft.take j)
      rw [List.length_take] at h1
      omega
    dsimp only [List.set]
    refine ⟨.ref cp, rfl, .ref pl, rfl, pl, _, 0, .ref tp, rfl, rfl, W6.pl, atI_nat (j := 0) rfl, .ref qt, rfl, qt, _, 3, .str ot, rfl, rfl, hq6, atI_nat (j := 3) rfl, tp, ts, ot, rfl, W6.tp, hot, fun H7 s7 => ?_⟩
    have s67 := s6.trans s7
    refine ⟨cp, cx2, _, .ref rp2, rfl, rfl, sameL s67 hCX2, atI_nat hxr2, rp2, rfl, ⟨ys2, sameL s67 hRP2⟩, fun D5 nD5 => ?_⟩
    refine lc_map (walk_list (xs := ys2)) (ys := (keysOf (rowsAt ts ct ot)).map V.int) (by unfold keysOf; rw [List.length_map, List.length_map, lys2]) (by omega) nD5 (fun H' k => sameL (s67.trans (kept_same k nD5)) hRP2) (fun j2 y2 H' C N hy2 s9 hC => ?_) (fun H8 eD5 s8 => ?_)
    · obtain ⟨row2, p2, hrow2, rfl, hp2⟩ := row_at' hRA2 hy2
      have okr2 := hA2.ok.row row2 (List.mem_of_getElem? hrow2)
      exact ⟨rfl, iteT ⟨.ref p2, rfl, p2, _, 0, .int (keyW row2), rfl, rfl, sameT (s67.trans s9) hp2, atI_nat (j := 0) (key0 okr2), hC _ (by unfold keysOf; rw [List.getElem?_map, List.getElem?_map, hrow2]; rfl)⟩⟩
    have s78 := s7.trans s8
    have s68 := s6.trans s78
    have W8 := W0.same s68
    have hq8 := sameT s78 hq6
    dsimp only [List.set]
    refine ⟨.ref cp, rfl, .ref pl, rfl, pl, _, 0, .ref tp, rfl, rfl, W8.pl, atI_nat (j := 0) rfl, .ref qt, rfl, qt, _, 1, .str t, rfl, rfl, hq8, atI_nat (j := 1) rfl, tp, ts, t, rfl, W8.tp, ht, fun H9 s9 => ?_⟩
    have s69 := s68.trans s9
    have W9 := W0.same s69
    have hq9 := sameT s9 hq8
    refine ⟨cp, cx, _, .ref rp, rfl, rfl, sameL s69 hCX, atI_nat hxr, .ref pl, rfl, pl, _, 0, .ref tp, rfl, rfl, W9.pl, atI_nat (j := 0) rfl, .ref qt, rfl, qt, _, 1, .str t, rfl, rfl, hq9, atI_nat (j := 1) rfl, .ref qt, rfl, qt, _, 2, .str c, rfl, rfl, hq9, atI_nat (j := 2) rfl, tp, ts, t, c, rfl, W9.tp, ht, hc, fun Ha sa => ⟨(by show 2 ≤ sizeLine; decide), fun TT nTT => ⟨TT, _, rfl, .inl (.inl upd_same), rfl, _, _, rfl, _, _, rfl, rfl, ?_⟩⟩⟩
    have sT := same_upd (o := .tup [.ref rp, .int ((cns ts t).idxOf c : Nat)]) nTT
    have s6a : Same H6' (upd Ha TT (.tup [.ref rp, .int ((cns ts t).idxOf c : Nat)])) := s78.trans (s9.trans (sa.trans sT))
    have s8a : Same H8 (upd Ha TT (.tup [.ref rp, .int ((cns ts t).idxOf c : Nat)])) := s9.trans (sa.trans sT)
    dsimp only [List.set]
    generalize upd Ha TT (.tup [.ref rp, .int ((cns ts t).idxOf c : Nat)]) = Hb at s6a s8a ⊢
    have s0b := s6.trans s6a
    have hqb := sameT s6a hq6
    have eD5b := s8a _ _ eD5
    have grb := gr.kept (Kept.of_same s6a) List.not_mem_nil
    refine ⟨.ref D, rfl, .inl ⟨rfl, _, .inl (.inl grb.at')⟩, .ref rp, rfl, rp, rfl, ⟨ys, sameL s0b hRP⟩, fun D6 nD6 => ?_⟩
    have nDD6 : D ≠ D6 := ne_of_none grb.at' nD6
    have oD6 : D6 ∉ [D] := by simpa using nDD6.symm
    refine lc_it (walk_list (xs := ys)) (fun j2 H' => ∃ ws, Grow K [D] H' D6 ws ((((rowsAt ts ct t).take j2).filter (isLoose (cns ts t) c (keysOf (rowsAt ts ct ot)))).map fun r => .tuple [.str n, .int (keyW r)]) ∧ Kept [D6] Hb H') ⟨[], .start, Kept.upd_new nD6⟩ (fun j2 H' _ hP => let ⟨_, _, kk⟩ := hP; sameL (s0b.trans (kept_same kk nD6)) hRP) (fun j2 y2 Hc Hc' hj2 hP2 hY2 => ?_) (fun Hc hP2 => ?_)
    · obtain ⟨rfl, hy2⟩ := hY2
      obtain ⟨ws, gw, kc⟩ := hP2
      obtain ⟨row, p, hrow, rfl, hp⟩ := row_at' hRA hy2
      have okr := hA.ok.row row (List.mem_of_getElem? hrow)
      have sc := kept_same kc nD6
      have hpc := sameT (s0b.trans sc) hp
      have et2 : (((rowsAt ts ct t).take (j2 + 1)).filter (isLoose (cns ts t) c (keysOf (rowsAt ts ct ot)))) = (((rowsAt ts ct t).take j2).filter (isLoose (cns ts t) c (keysOf (rowsAt ts ct ot)))) ++ (if isLoose (cns ts t) c (keysOf (rowsAt ts ct ot)) row = true then [row] else []) := by
        rw [List.take_add_one, hrow, List.filter_append]
        congr 1
        show List.filter _ [row] = _
        rw [List.filter_cons, List.filter_nil]
      have lws : ws.length ≤ 20 := by
        rw [gw.len, List.length_map]
        have h1 := List.length_filter_le (isLoose (cns ts t) c (keysOf (rowsAt ts ct ot))) ((rowsAt ts ct t).take j2)
        rw [List.length_take] at h1
        omega
      refine ⟨rfl, ?_⟩
      refine ⟨.ref p, rfl, _, rfl, p, _, _, _, rfl, rfl, hpc, atI_nat (cell_row okr rfl hc), .ref D5, rfl, (by show 1 ≤ sizeLine; decide), fun L nL => ?_⟩
      have eDc := sc _ _ eD5b
      have nD5L : D5 ≠ L := ne_of_none eDc nL
      refine ⟨D5, L, _, _, rfl, rfl, (by rw [upd_ne nD5L]; exact eDc), upd_same, (by unfold keysOf; rw [List.length_map, List.length_map]; exact Nat.le_of_lt (small1000 (by show _ + 1 ≤ _; omega))), fun M nM => ?_⟩
      have eM : (upd (upd Hc' L (.lst [.non])) M (.lst ((keysOf (rowsAt ts ct ot)).map V.int ++ [.non]))) M = some (.lst (((keysOf (rowsAt ts ct ot)).map some ++ [none]).map wV)) := by
        rw [upd_same, List.map_append, map_ints]; rfl
      have kM : Kept [] Hc' (upd (upd Hc' L (.lst [.non])) M (.lst ((keysOf (rowsAt ts ct ot)).map V.int ++ [.non]))) := (Kept.upd_new nL).trans (Kept.upd_new nM)
      have sM := (same_upd (o := .lst [.non]) nL).trans (same_upd (o := .lst ((keysOf (rowsAt ts ct ot)).map V.int ++ [.non])) nM)
      generalize upd (upd Hc' L (.lst [.non])) M (.lst ((keysOf (rowsAt ts ct ot)).map V.int ++ [.non])) = Hd at eM kM sM ⊢
      refine ⟨M, _, rfl, .inl (.inl (.inl eM)), flat_w _, flat_ws _, _, rfl, ?_⟩
      rw [if_pos rfl, inV_w, ← loose_in]
      have gd := gw.kept (kM.mono fun _ h => absurd h List.not_mem_nil) oD6
      have k6d : Kept [D6] Hb Hd := kc.trans (kM.mono fun _ h => absurd h List.not_mem_nil)
      refine ite2 (fun e => ?_) (fun e => ?_)
      · refine ⟨.ref qt, rfl, qt, _, 0, .str n, rfl, rfl, sameT (sc.trans sM) hqb, atI_nat (j := 0) rfl, .ref p, rfl, p, _, 0, .int (keyW row), rfl, rfl, sameT sM hpc, atI_nat (j := 0) (key0 okr), (by show 2 ≤ sizeLine; decide), fun tt ntt => ?_⟩
        have nDt : D6 ≠ tt := ne_of_none gd.at' ntt
        have nD3t : D ≠ tt := ne_of_none (k6d.at grb.at' (by simp [nDD6])) ntt
        have g7 := gd.kept (Kept.upd_new (o := .tup [.str n, .int (keyW row)]) ntt) oD6
        refine ⟨ws, g7.at', small1000 (by omega), ws ++ [.ref tt], ?_, k6d.trans ((Kept.upd_new ntt).trans (Kept.upd_in (List.mem_cons_self ..)))⟩
        rw [et2, if_pos e, List.map_append]
        exact g7.put (.tup (.inl (.inl (msk_at upd_same (by simp [nDt.symm, nD3t.symm])))) (.cons (.str _) (.cons (.int _) .nil)))
      · exact ⟨ws, by rw [et2, if_neg e, List.append_nil]; exact gd, k6d⟩
    · obtain ⟨ws, gw, kc⟩ := hP2
      rw [lys, List.take_length] at gw
      have gw : Grow K [D] Hc D6 ws (looseOf ts ct [n, t, c, ot, g, u, l]) := gw
      have lws : ws.length ≤ 20 := by rw [gw.len]; exact len_loose ts ct _ rf
      have sc := kept_same kc nD6
      have grc := grb.kept (Kept.of_same sc) List.not_mem_nil
      refine ⟨D, D6, us, ws, rfl, rfl, grc.at', gw.at', Nat.le_of_lt (small1000 (by omega)), ⟨_, _, _, _, rfl⟩, ⟨us ++ ws, upd_same, ?_⟩, k6.trans ((Kept.of_same (s6a.trans sc)).trans (Kept.upd_in (List.mem_cons_self ..)))⟩
      rw [et]
      exact dpAll_same (msk_same (Kept.upd_in (List.mem_cons_self ..))) (dpAll_app grc.dp (dpAll_same (msk_less sub_push) gw.dp))
  · obtain ⟨⟨y4, y5, y6, y7, rfl⟩, ⟨us, gr⟩, k6⟩ := hP
    rw [lus3, List.take_length] at gr
    exact ⟨.ref D, rfl, q D us H6 (kept_same ((Kept.of_same s5).trans k6) nD) nD gr.at' gr.dp⟩
end
end TT

set_option Elab.async false
set_option linter.all false
set_option maxRecDepth 100000
namespace TT
open PySem PySem.Spec PyProof.Rows L2
theorem filt_congr {α : Type} {p q : α → Bool} : ∀ {l : List α}, (∀ x ∈ l, p x = q x) → l.filter p = l.filter q
  | [], _ => rfl
  | x :: l, h => by
    rw [List.filter_cons, List.filter_cons, h x (List.mem_cons_self ..), filt_congr fun y hy => h y (List.mem_cons_of_mem _ hy)]
theorem loose_all {ts : List Tab} {ct : List (List Rw)} {es : List (List Str)} (h : ∀ z ∈ es, TieOk ts z) : looseL ts ct es none = looseT ts ct es ["once", "end"] := by
  unfold looseL looseT
  rw [filt_congr fun z hz => ?_]
  obtain ⟨n, t, c, o, g, u, l, rfl, _, _, _, _, _, _, hl⟩ := (h z hz).ex
  exact (decide_eq_true hl).symm
theorem loose_one {ts : List Tab} {ct : List (List Rw)} {es : List (List Str)} (z : Str) : looseL ts ct es (some z) = looseT ts ct es [z] := by
  unfold looseL looseT
  rw [filt_congr fun y _ => ?_]
  show decide (_ = z) = decide (_ ∈ [z])
  exact decide_eq_decide.mpr List.mem_singleton.symm
theorem loose_nice {ts : List Tab} {ct : List (List Rw)} {es : List (List Str)} {wh : Option Str} (hes : ∀ z ∈ es, TieOk ts z) (few : es.length ≤ 12) (rf : ∀ t, (rowsAt ts ct t).length ≤ 20) (hA : ContAll ts ct) :
    Nice (10 ^ 12) 900 (.list (looseL ts ct es wh)) ∧ (PyData.list (looseL ts ct es wh)).depth < 6 ∧ (looseL ts ct es wh).length ≤ 240 := by
  have hl : (looseL ts ct es wh).length ≤ 240 := by
    unfold looseL
    have h1 := len_flat (looseOf ts ct) 20 (fun z => len_loose ts ct z rf) (es.filter (isWhen wh))
    have h2 := List.length_filter_le (isWhen wh) es
    omega
  have hh : ∀ d ∈ looseL ts ct es wh, Nice (10 ^ 12) 900 d ∧ d.depth ≤ 1 := fun d hd => by
    unfold looseL at hd
    obtain ⟨z, hz, hd2⟩ := List.mem_flatMap.mp hd
    obtain ⟨n, t, c, o, g, u, l, rfl, okn, ht, _⟩ := (hes z (List.mem_filter.mp hz).1).ex
    have hd2 : d ∈ ((rowsAt ts ct t).filter (isLoose (cns ts t) c (keysOf (rowsAt ts ct o)))).map fun r => PyData.tuple [.str n, .int (keyW r)] := hd2
    obtain ⟨r, hr, rfl⟩ := List.mem_map.mp hd2
    have ho := (hA t ht).ok.row r (List.mem_filter.mp hr).1
    obtain ⟨k, t0, rfl⟩ := ho.key
    have h3 := ho.w (some k) (List.mem_cons_self ..)
    have h1 := h3.1; have h2 := h3.2
    exact ⟨⟨by show 2 ≤ 900; decide, (name_nice okn (10 ^ 12) 900).1, (by show k.natAbs ≤ _; omega), trivial⟩, by show max 0 (max 0 0) + 1 ≤ 1; decide⟩
  refine ⟨⟨by omega, niceAll_iff.mpr fun d hd => (hh d hd).1⟩, ?_, hl⟩
  have h2 := depthAll_le (n := 1) fun d hd => (hh d hd).2
  show PyData.depthAll _ + 1 < 6
  omega
theorem shaped_loose {ts : List Tab} {ct : List (List Rw)} {es : List (List Str)} {wh : Option Str} (h : Nice (10 ^ 12) 900 (.list (looseL ts ct es wh)) ∧ (PyData.list (looseL ts ct es wh)).depth < 6 ∧ (looseL ts ct es wh).length ≤ 240) : SeqAt.shaped (.list (looseL ts ct es wh)) = true :=
  shaped_nice h.1 (by have := h.2.1; omega)
section
variable {P : Program} {w : World} {K : PySem.W.Frag} {mg : Str → Option Value} {base : Heap}
def spToldRight (K : PySem.W.Frag) : Sp := fun vs H Q _ => ∃ (pl tp ep : Addr) (x v : V) (cp : Addr) (ts : List Tab) (es : List (List Str)) (o i r : Bool) (ct : List (List Rw)), vs = [.ref pl, .ref cp, v] ∧ World2 K H pl tp ep x v ts es o i r ct ∧ Dp K H (.ref cp) (contD ct) ∧ ∀ H', Same H H' → Q (.bl true) H'
abbrev s_law_told_right : Stmt := topS 27
abbrev N_law_told_right : List Str := ["plan", "content", "handed", "turn", "late", "times", "found", "due", "every", "told", "fine"]
theorem sc_law_told_right : FnScope N_law_told_right ["plan", "content", "handed"] (defScope s_law_told_right) := ⟨rfl, rfl, rfl, by decide +kernel, rfl, by decide +kernel, by decide +kernel⟩

set_option maxHeartbeats 8000000 in
theorem ok_told_right {f : Addr} {fd : FuncData} (F : Fun K "_law_told_right" "_law_told_right" s_law_told_right f fd) (nb : NB mg) (D_loose : DefK P w K mg base 5 "loose" ["plan", "content", "when"] 2 ["when"] (spLoose K)) (D_loose_d : DefD P w K mg base 5 "loose" ["plan", "content", "when"] .non (spLoose K))
    (D_holds : Def P w K mg base 6 "holds" ["plan", "content"] (spHolds K)) (D_law_loose : Def P w K mg base 3 "_law_loose" ["plan", "content", "times"] (spLawLoose K)) (D_law_same : Def P w K mg base 7 "_law_same" ["found", "due"] (spSame 6 K)) : FnOk P w K mg base CX0 8 f fd ["plan", "content", "handed"] (spToldRight K) := by
  refine F.ok sc_law_told_right (fun vs H Q E h => ?_) (fun cdv A outer sh H vs Q E hr h => ?_)
  · obtain ⟨pl, tp, ep, x, v, cp, ts, es, o, i, r, ct, rfl, _⟩ := h
    rfl
  obtain ⟨pl, tp, ep, x, v, cp, ts, es, o, i, r, ct, rfl, W0, hcp, q⟩ := h
  have nd := sc_law_told_right.nd
  refine ⟨_, (pss_cons (ps_for PassesOwn.never rfl (pi_range1 (by rfl) nb.b_range (pa_cons pe_int pa_nil)) (pg_name (i := 3) nd rfl (Or.inl rfl))
        (pss_one (ps_for PassesOwn.never rfl (pi_tup (pe_tup (pa_cons (pe_tup (pa_cons pe_non (pa_cons (pe_tup (pa_cons pe_str (pa_cons pe_str pa_nil))) pa_nil))) (pa_cons (pe_tup (pa_cons pe_str (pa_cons (pe_tup (pa_cons pe_str pa_nil)) pa_nil))) (pa_cons (pe_tup (pa_cons pe_str (pa_cons (pe_tup (pa_cons pe_str pa_nil)) pa_nil))) pa_nil))))) (pg_tup rfl (pgs_cons (pg_name (i := 4) nd rfl (Or.inl rfl)) (pgs_cons (pg_name (i := 5) nd rfl (Or.inl rfl)) pgs_nil)))
          (pss_cons (ps_par (i := 6) (j := 7) (by rfl) nd rfl rfl (by decide) rfl rfl (pa_cons (pe_ownK D_loose hr (pa_cons (pv 0) (pa_cons (pv 2) pa_nil)) (pk_cons (pv 4) pk_nil)) (pa_cons (pe_own D_law_loose hr (pa_cons (pv 0) (pa_cons (pv 1) (pa_cons (pv 5) pa_nil)))) pa_nil)) (by rfl))
          (pss_cons (ps_if (pt_not (pt_val (pe_own D_law_same hr (pa_cons (pv 6) (pa_cons (pv 7) pa_nil)))))
            (pss_one (ps_ret pe_bl))
            pss_nil)
          (pss_one (ps_expr (pe_bm PySem.F.plainAttrs_list PySem.F.slot_list_append PySem.F.type_list_append mt_append (pv 6) (pa_cons (pe_tup (pa_cons pe_str (pa_cons pe_int pa_nil))) pa_nil)))))))))
      (pss_cons (ps_set (i := 8) nd rfl (Or.inl rfl) (pe_ownD D_loose_d hr (pa_cons (pv 0) (pa_cons (pv 2) pa_nil))))
      (pss_cons (ps_set (i := 9) nd rfl (Or.inl rfl) (pe_own D_holds hr (pa_cons (pv 0) (pa_cons (pv 2) pa_nil))))
      (pss_cons (ps_set (i := 10) nd rfl (Or.inl rfl) (pe_and (pe_callB call_isi (by rfl) nb.b_isinstance (by decide +kernel) (pa_cons (pv 9) (pa_cons (pe_bltn (v := .ty "bool") (by rfl) nb.b_bool (by decide +kernel) rfl) pa_nil))) (pe_one (pe_cmpR op_eq (pv 9) (pe_cmpR (op_eqD hr.units) (pv 8) (pe_lst pa_nil) (nomark _)) (nomark _)))))
      (pss_one (ps_ret (pe_and (pv 10) (pe_one (pe_own D_law_same hr (pa_cons (pv 8) (pa_cons (pe_own D_law_loose hr (pa_cons (pv 0) (pa_cons (pv 1) (pa_cons (pe_tup (pa_cons pe_str (pa_cons pe_str pa_nil))) pa_nil)))) pa_nil))))))))))), ?_⟩
  have rf : ∀ t, (rowsAt ts ct t).length ≤ 20 := rows_few (fun t ht => by have := (W0.all t ht).row; exact W0.few _ (List.mem_of_getElem? this)) W0.few
  have nice : ∀ wh, _ := fun wh => loose_nice (wh := wh) W0.ties W0.fewE rf W0.all
  have WC : ∀ {H' : Hp}, Same H H' → World2 K H' pl tp ep x (.ref cp) ts es false false true ct := fun {H'} s => ⟨sameT s W0.pl, W0.tp.same s, dp_same s W0.ep, W0.ties, dp_same s hcp, W0.all, W0.few, W0.fewE⟩
  refine ⟨2, rfl, by decide, by decide, ?_⟩
  refine for_range (lo := 0) (n := (2 : Int).toNat) (fun i2 σ H' => (∃ y3 y4 y5 y6 y7, σ = [some (.ref pl), some (.ref cp), some v, y3, y4, y5, y6, y7, none, none, none]) ∧ Same H H') ⟨⟨_, _, _, _, _, rfl⟩, Same.refl _⟩ (fun i2 σ H1 hi2 hP => ?_) (fun σ H1 hP => ?_)
  · obtain ⟨⟨y3, y4, y5, y6, y7, rfl⟩, s1⟩ := hP
    dsimp only [List.set]
    refine ⟨(by show 2 ≤ sizeLine; decide), fun t1 nt1 => ?_⟩
    have at1 := same_upd (o := .tup [.str "once", .str "end"]) nt1
    have et1 : (upd H1 t1 (.tup [.str "once", .str "end"])) t1 = some (.tup [.str "once", .str "end"]) := upd_same
    generalize upd H1 t1 (.tup [.str "once", .str "end"]) = Ha at at1 et1 ⊢
    refine ⟨(by show 2 ≤ sizeLine; decide), fun t2 nt2 => ?_⟩
    have at2 := same_upd (o := .tup [.non, .ref t1]) nt2
    have et2 : (upd Ha t2 (.tup [.non, .ref t1])) t2 = some (.tup [.non, .ref t1]) := upd_same
    generalize upd Ha t2 (.tup [.non, .ref t1]) = Hb at at2 et2 ⊢
    refine ⟨(by show 1 ≤ sizeLine; decide), fun t3 nt3 => ?_⟩
    have at3 := same_upd (o := .tup [.str "once"]) nt3
    have et3 : (upd Hb t3 (.tup [.str "once"])) t3 = some (.tup [.str "once"]) := upd_same
    generalize upd Hb t3 (.tup [.str "once"]) = Hc at at3 et3 ⊢
    refine ⟨(by show 2 ≤ sizeLine; decide), fun t4 nt4 => ?_⟩
    have at4 := same_upd (o := .tup [.str "once", .ref t3]) nt4
    have et4 : (upd Hc t4 (.tup [.str "once", .ref t3])) t4 = some (.tup [.str "once", .ref t3]) := upd_same
    generalize upd Hc t4 (.tup [.str "once", .ref t3]) = Hd at at4 et4 ⊢
    refine ⟨(by show 1 ≤ sizeLine; decide), fun t5 nt5 => ?_⟩
    have at5 := same_upd (o := .tup [.str "end"]) nt5
    have et5 : (upd Hd t5 (.tup [.str "end"])) t5 = some (.tup [.str "end"]) := upd_same
    generalize upd Hd t5 (.tup [.str "end"]) = He at at5 et5 ⊢
    refine ⟨(by show 2 ≤ sizeLine; decide), fun t6 nt6 => ?_⟩
    have at6 := same_upd (o := .tup [.str "end", .ref t5]) nt6
    have et6 : (upd He t6 (.tup [.str "end", .ref t5])) t6 = some (.tup [.str "end", .ref t5]) := upd_same
    generalize upd He t6 (.tup [.str "end", .ref t5]) = Hf at at6 et6 ⊢
    refine ⟨(by show 3 ≤ sizeLine; decide), fun t7 nt7 => ?_⟩
    have at7 := same_upd (o := .tup [.ref t2, .ref t4, .ref t6]) nt7
    have et7 : (upd Hf t7 (.tup [.ref t2, .ref t4, .ref t6])) t7 = some (.tup [.ref t2, .ref t4, .ref t6]) := upd_same
    generalize upd Hf t7 (.tup [.ref t2, .ref t4, .ref t6]) = Hg at at7 et7 ⊢
    have sg := s1.trans (at1.trans (at2.trans (at3.trans (at4.trans (at5.trans (at6.trans at7))))))
    have hx : ∀ (j : Nat) (y : V), ([V.ref t2, V.ref t4, V.ref t6] : List V)[j]? = some y → ∃ (a tt : Addr) (wh : Option Str) (tms : List Str), y = .ref a ∧ Hg a = some (.tup [whenV wh, .ref tt]) ∧ Hg tt = some (.tup (tms.map V.str)) ∧ looseL ts ct es wh = looseT ts ct es tms := fun j y hy => by
      match j, hy with
      | 0, hy => cases hy; exact ⟨t2, t1, none, ["once", "end"], rfl, at7 _ _ (at6 _ _ (at5 _ _ (at4 _ _ (at3 _ _ et2)))), at7 _ _ (at6 _ _ (at5 _ _ (at4 _ _ (at3 _ _ (at2 _ _ et1))))), loose_all W0.ties⟩
      | 1, hy => cases hy; exact ⟨t4, t3, some "once", ["once"], rfl, at7 _ _ (at6 _ _ (at5 _ _ et4)), at7 _ _ (at6 _ _ (at5 _ _ (at4 _ _ et3))), loose_one _⟩
      | 2, hy => cases hy; exact ⟨t6, t5, some "end", ["end"], rfl, at7 _ _ et6, at7 _ _ (at6 _ _ et5), loose_one _⟩
    refine ⟨t7, rfl, ⟨_, .inl (.inl et7)⟩, ?_⟩
    refine for_it (walk_tup (xs := [V.ref t2, V.ref t4, V.ref t6])) (fun j σ H' => (∃ y4 y5 y6 y7, σ = [some (.ref pl), some (.ref cp), some v, some (.int (0 + (i2 : Int))), y4, y5, y6, y7, none, none, none]) ∧ Same Hg H') ⟨⟨_, _, _, _, rfl⟩, Same.refl _⟩ (fun j σ H' _ hP => .inl (.inl (hP.2 _ _ et7))) (fun j y σ H2 H2' hj hP hY => ?_) (fun σ H2 hP => ?_)
    · obtain ⟨rfl, hy⟩ := hY
      obtain ⟨⟨y4, y5, y6, y7, rfl⟩, s2⟩ := hP
      obtain ⟨a, tt, wh, tms, rfl, ea, ett, hL⟩ := hx j y hy
      have s02 := sg.trans s2
      have W2 := W0.same s02
      refine ⟨a, _, rfl, .inl (.inl (s2 _ _ ea)), rfl, _, _, rfl, _, _, rfl, rfl, ?_⟩
      dsimp only [List.set]
      refine ⟨.ref pl, rfl, v, rfl, whenV wh, rfl, rfl, rfl, pl, tp, ep, x, v, ts, es, o, i, r, ct, wh, rfl, W2, fun D us H3 s3 nD eD dD => ?_⟩
      refine ⟨.ref pl, rfl, .ref cp, rfl, .ref tt, rfl, pl, tp, ep, x, cp, tt, ts, es, ct, tms, rfl, WC (s02.trans s3), .inl (.inl (s3 _ _ (s2 _ _ ett))), fun D2 us2 H4 s4 nD2 eD2 dD2 => ⟨_, _, rfl, ?_⟩⟩
      rw [← hL] at dD2
      have hD4 : Dp K H4 (.ref D) (.list (looseL ts ct es wh)) := .lst (.inl (.inl (s4 _ _ eD))) (dpAll_same ((msk_sub _ _).trans s4) dD)
      dsimp only [List.set]
      refine ⟨.ref D, rfl, .ref D2, rfl, .ref D, .ref D2, _, rfl, hD4, .lst (.inl (.inl eD2)) (dpAll_same (msk_sub _ _) dD2), (nice wh).2.1, (nice wh).1, fun H5 s5 => ⟨_, rfl, iteF ?_⟩⟩
      have eD5 := s5 _ _ (s4 _ _ eD)
      refine ⟨.ref D, rfl, .inl ⟨rfl, _, .inl (.inl eD5)⟩, (by show 2 ≤ sizeLine; decide), fun t8 nt8 => ?_⟩
      have nD8 : D ≠ t8 := ne_of_none eD5 nt8
      have lus : us.length ≤ 240 := by rw [dpAll_len dD]; exact (nice wh).2.2
      refine ⟨D, us, .ref t8, rfl, rfl, (by rw [upd_ne nD8]; exact eD5), small1000 (by omega), ⟨_, _, _, _, rfl⟩, s2.trans (kept_same ((Kept.of_same (s3.trans (s4.trans (s5.trans (same_upd nt8))))).trans (Kept.upd_in (List.mem_cons_self ..))) nD)⟩
    · obtain ⟨⟨y4, y5, y6, y7, rfl⟩, s2⟩ := hP
      exact ⟨⟨_, _, _, _, _, rfl⟩, sg.trans s2⟩
  · obtain ⟨⟨y3, y4, y5, y6, y7, rfl⟩, s1⟩ := hP
    have W1 := W0.same s1
    refine ⟨.ref pl, rfl, v, rfl, pl, tp, ep, x, v, ts, es, o, i, r, ct, none, rfl, W1, fun D us H2 s2 nD eD dD => ?_⟩
    have W2 := W1.same s2
    dsimp only [List.set]
    refine ⟨.ref pl, rfl, v, rfl, pl, tp, ep, x, v, ts, es, o, i, r, ct, rfl, W2, fun H3 s3 => ?_⟩
    have hD3 : Dp K H3 (.ref D) (.list (looseL ts ct es none)) := .lst (.inl (.inl (s3 _ _ eD))) (dpAll_same ((msk_sub _ _).trans s3) dD)
    dsimp only [List.set]
    refine ⟨.bl _, rfl, .bl _, .ty "bool", _, _, _, rfl, .ty "bool", dp_ty (.bl _), kit_b (.bool (looseL ts ct es none).isEmpty), _, rfl, iteT ?_⟩
    refine ⟨.bl _, rfl, .ref D, rfl, Nat.zero_le _, fun E0 nE0 => ?_⟩
    have s4 := same_upd (o := .lst []) nE0
    refine ⟨.list (looseL ts ct es none), .list [], dp_same s4 hD3, .lst (.inl (.inl upd_same)) .nil, shaped_loose (nice none), rfl, ?_⟩
    rw [eqv_nil]
    refine ⟨rfl, ?_⟩
    rw [decide_eq_true rfl]
    have s14 := s1.trans (s2.trans (s3.trans s4))
    dsimp only [List.set]
    refine ⟨.bl true, rfl, _, rfl, iteT ?_⟩
    refine ⟨.ref D, rfl, .ref pl, rfl, .ref cp, rfl, (by show 2 ≤ sizeLine; decide), fun tm ntm => ?_⟩
    have s5 := same_upd (o := .tup [.str "once", .str "end"]) ntm
    refine ⟨pl, tp, ep, x, cp, tm, ts, es, ct, ["once", "end"], rfl, WC (s14.trans s5), .inl (.inl upd_same), fun D2 us2 H6 s6 nD2 eD2 dD2 => ?_⟩
    rw [← loose_all W0.ties] at dD2
    exact ⟨.ref D, .ref D2, _, rfl, dp_same (s4.trans (s5.trans s6)) hD3, .lst (.inl (.inl eD2)) (dpAll_same (msk_sub _ _) dD2), (nice none).2.1, (nice none).1, fun H7 s7 => q H7 (s14.trans (s5.trans (s6.trans s7)))⟩
end
end TT

set_option Elab.async false
set_option linter.all false
set_option maxRecDepth 100000
namespace TT
open PySem PySem.Spec PyProof.Rows L2
theorem tab_idx {ts : List Tab} (okt : TabsOk 5 ts) {t : Str} (ht : t ∈ tns ts) : ∃ tb, ts[(tns ts).idxOf t]? = some tb ∧ (cns ts t).length = tb.2.length := by
  have lat : (tns ts).idxOf t < (tns ts).length := List.idxOf_lt_length_of_mem ht
  have lat2 : (tns ts).idxOf t < ts.length := by rw [List.length_map] at lat; exact lat
  obtain ⟨tb2, h1⟩ : ∃ t', ts[(tns ts).idxOf t]? = some t' := ⟨_, List.getElem?_eq_getElem lat2⟩
  have e1 : tb2.1 = t := by
    have h5 : (tns ts)[(tns ts).idxOf t]? = some t := by rw [List.getElem?_eq_getElem lat, List.getElem_idxOf]
    rw [List.getElem?_map, h1] at h5
    exact Option.some.inj h5
  refine ⟨tb2, h1, ?_⟩
  show ((colsOf ts t).map _).length = _
  rw [← e1, colsOf_mem okt.nd (List.mem_of_getElem? h1), List.length_map]
theorem ContOk.set {L : Nat} {ts : List Tab} {ct : List (List Rw)} (h : ContOk L ts ct) {j : Nat} {tb : Tab} (hj : ts[j]? = some tb) {rs : List Rw} (ok : RwsOk tb.2.length rs) (few : rs.length ≤ L) : ContOk L ts (ct.set j rs) := by
  refine ⟨by rw [List.length_set]; exact h.len, fun i t rs' h1 h2 => ?_, fun rs' hr => ?_⟩
  · by_cases e : i = j
    · subst e
      have hl : i < ct.length := by have := (List.getElem?_eq_some_iff.mp h2).1; rw [List.length_set] at this; exact this
      rw [List.getElem?_set_self hl] at h2
      cases h2
      rw [h1] at hj
      cases hj
      exact ok
    · rw [List.getElem?_set_ne (fun z => e z.symm)] at h2
      exact h.rows i t rs' h1 h2
  · rcases List.mem_or_eq_of_mem_set hr with h1 | h1
    · exact h.few rs' h1
    · rw [h1]; exact few
theorem RwsOk.filter {n : Nat} {rs : List Rw} (h : RwsOk n rs) (p : Rw → Bool) : RwsOk n (rs.filter p) := ⟨fun r hr => h.row r (List.mem_filter.mp hr).1, h.up.sublist (List.filter_sublist.map _)⟩
/-- a row with nothing at a place behind its key -/
theorem RwOk.clear {n : Nat} {r : Rw} (h : RwOk n r) {pl : Nat} (hp : 0 < pl) : RwOk n (r.set pl none) ∧ keyW (r.set pl none) = keyW r := by
  obtain ⟨k, t, rfl⟩ := h.key
  obtain ⟨q, rfl⟩ : ∃ q, pl = q + 1 := ⟨pl - 1, by omega⟩
  refine ⟨⟨by rw [List.length_set]; exact h.len, fun o ho => ?_, k, t.set q none, rfl⟩, rfl⟩
  rcases List.mem_or_eq_of_mem_set ho with h1 | h1
  · exact h.w o h1
  · rw [h1]; trivial
theorem RwsOk.clear {n : Nat} {rs : List Rw} (h : RwsOk n rs) {pl : Nat} (hp : 0 < pl) (p : Rw → Bool) : RwsOk n (rs.map fun r => if p r = true then r.set pl none else r) := by
  refine ⟨fun r hr => ?_, ?_⟩
  · obtain ⟨x, hx, rfl⟩ := List.mem_map.mp hr
    by_cases e : p x = true
    · rw [if_pos e]; exact ((h.row x hx).clear hp).1
    · rw [if_neg e]; exact h.row x hx
  · have e : (rs.map fun r => if p r = true then r.set pl none else r).map keyW = rs.map keyW := by
      rw [List.map_map]
      refine List.map_congr_left fun x hx => ?_
      show keyW (if p x = true then x.set pl none else x) = keyW x
      by_cases e : p x = true
      · rw [if_pos e]; exact ((h.row x hx).clear hp).2
      · rw [if_neg e]
    rw [e]; exact h.up
theorem set_cut {r : Rw} {pl : Nat} (h : pl < r.length) : r.take pl ++ [none] ++ r.drop (pl + 1) = r.set pl none := by
  rw [List.append_assoc, List.singleton_append, List.set_eq_take_append_cons_drop, if_pos h]
theorem found_at {K : PySem.W.Frag} {M : Hp} {us : List V} {ct : List (List Rw)} {ts : List Tab} (okt : TabsOk 5 ts) (h : DpAll K M us (ct.map rowsD)) (okc : ContOk 10 ts ct) {t : Str} (ht : t ∈ tns ts) :
    ∃ tb rs rp ys, ts[(tns ts).idxOf t]? = some tb ∧ (cns ts t).length = tb.2.length ∧ ct[(tns ts).idxOf t]? = some rs ∧ RwsOk tb.2.length rs ∧ rs.length ≤ 10 ∧ us[(tns ts).idxOf t]? = some (.ref rp) ∧ SqL K M rp ys ∧ DpAll K M ys (rs.map rowD) ∧ ys.length = rs.length := by
  obtain ⟨tb, htb, ltb⟩ := tab_idx okt ht
  have l1 : (tns ts).idxOf t < ts.length := (List.getElem?_eq_some_iff.mp htb).1
  have l2 : us.length = ct.length := by rw [dpAll_len h, List.length_map]
  obtain ⟨x, hx⟩ : ∃ x, us[(tns ts).idxOf t]? = some x := ⟨_, List.getElem?_eq_getElem (by rw [l2, okc.len]; exact l1)⟩
  obtain ⟨rs, hrs, hd⟩ := cont_at h hx
  obtain ⟨rp, ys, rfl, h1, h2, h3⟩ := rows_dp hd
  exact ⟨tb, rs, rp, ys, htb, ltb, hrs, okc.rows _ _ _ htb hrs, okc.few _ (List.mem_of_getElem? hrs), hx, h1, h2, h3⟩
theorem msk_two {M : List Addr} {D7 : Addr} {A B : Hp} (k : Kept [D7] A B) (n : A D7 = none) : Same (msk M A) (msk (D7 :: M) B) := fun b o e => by
  unfold msk at e ⊢
  by_cases h : b ∈ M
  · rw [if_pos h] at e; cases e
  · rw [if_neg h] at e
    have n1 : b ∉ [D7] := fun z => by rw [List.mem_singleton.mp z, n] at e; cases e
    have n2 : b ∉ D7 :: M := fun z => by
      rcases List.mem_cons.mp z with z | z
      · exact n1 (List.mem_singleton.mpr z)
      · exact h z
    rw [if_neg n2]
    exact k b o e n1
theorem dps_w {K : PySem.W.Frag} {H : Hp} : ∀ r : Rw, DpAll K H (r.map wV) (r.map wD)
  | [] => .nil
  | o :: r => .cons (dp_w o) (dps_w r)
theorem tied_put {K : PySem.W.Frag} {N : List Addr} {H : Hp} {D D7 : Addr} {us ws : List V} {ct : List (List Rw)} {ts : List Tab} {j : Nat} {tb : Tab} {rs : List Rw} (hA : DpAll K (msk (D :: N) H) us (ct.map rowsD)) (okc : ContOk 10 ts ct) (g : Grow K (D :: N) H D7 ws (rs.map rowD)) (n : D7 ∉ D :: N) (hj : ts[j]? = some tb) (ok : RwsOk tb.2.length rs) (few : rs.length ≤ 10) :
    ∃ us2 ct2, (upd H D (.lst (us.set j (.ref D7)))) D = some (.lst us2) ∧ DpAll K (msk (D :: N) (upd H D (.lst (us.set j (.ref D7))))) us2 (ct2.map rowsD) ∧ ContOk 10 ts ct2 := by
  refine ⟨us.set j (.ref D7), ct.set j rs, upd_same, ?_, okc.set hj ok few⟩
  rw [List.map_set]
  exact dpAll_same (msk_same (Kept.upd_in (List.mem_cons_self ..))) (dpAll_set (g.done n) j hA)
def outOf (zs : List Str) (c : Str) (ws : List (Option Int)) (r : Rw) : Bool := !inV (wV (cellAt zs c r)) (ws.map wV)
def spotV (zs : List Str) (c : Str) (ws : List (Option Int)) (r : Rw) : V := .int (((zs.idxOf c : Nat) : Int) * (if outOf zs c ws r = true then 1 else 0))
def TiedAt (K : PySem.W.Frag) (H : Hp) (ts : List Tab) (pl cp b D : Addr) (σ : L2.St) (H' : Hp) : Prop := (∃ y3 y4 y5 y6 y7 y8 y9, σ = [some (.ref pl), some (.ref cp), some (.ref D), y3, y4, y5, y6, y7, y8, y9, none, none]) ∧
  (∃ us ct, H' D = some (.lst us) ∧ DpAll K (msk [D, b] H') us (ct.map rowsD) ∧ ContOk 10 ts ct) ∧ Kept [D] H H'
section
variable {P : Program} {w : World} {K : PySem.W.Frag} {mg : Str → Option Value} {base : Heap}
def spTied (K : PySem.W.Frag) : Sp := fun vs H Q _ => ∃ (pl tp ep : Addr) (x : V) (cp b : Addr) (ts : List Tab) (es : List (List Str)) (ct : List (List Rw)), vs = [.ref pl, .ref cp] ∧ H b ≠ none ∧ SqT K H pl [.ref tp, .ref ep, x] ∧ Tabs K H tp ts ∧ Dp K H (.ref ep) (.tuple (es.map tieD)) ∧ (∀ z ∈ es, TieOk ts z) ∧ es.length ≤ 12 ∧ Dp K (msk [b] H) (.ref cp) (contD ct) ∧ ContOk 10 ts ct ∧
  ∀ (F : Addr) (us : List V) (ct' : List (List Rw)) (H' : Hp), Same H H' → H F = none → H' F = some (.lst us) → DpAll K (msk [F, b] H') us (ct'.map rowsD) → ContOk 10 ts ct' → Q (.ref F) H'
abbrev s_law_tied : Stmt := topS 26
abbrev N_law_tied : List Str := ["plan", "content", "found", "turn", "tie", "there", "at", "place", "spots", "rows", "row", "spot"]
theorem sc_law_tied : FnScope N_law_tied ["plan", "content"] (defScope s_law_tied) := ⟨rfl, rfl, rfl, by decide +kernel, rfl, by decide +kernel, by decide +kernel⟩

set_option maxHeartbeats 8000000 in
theorem ok_law_tied {f : Addr} {fd : FuncData} (F : Fun K "_law_tied" "_law_tied" s_law_tied f fd) (nb : NB mg) (D_law_place : Def P w K mg base 1 "_law_place" ["tables", "table"] (spTabPlace K)) (D_law_column : Def P w K mg base 2 "_law_column" ["tables", "table", "column"] (spColPlace K)) : FnOk P w K mg base CX0 3 f fd ["plan", "content"] (spTied K) := by
  refine F.ok sc_law_tied (fun vs H Q E h => ?_) (fun cdv A outer sh H vs Q E hr h => ?_)
  · obtain ⟨pl, tp, ep, x, cp, b, ts, es, ct, rfl, _⟩ := h
    rfl
  obtain ⟨pl, tp, ep, x, cp, b, ts, es, ct, rfl, hb, hPl, hT, hE, hes, fewE, hcp, okc, q⟩ := h
  have nd := sc_law_tied.nd
  refine ⟨_, (pss_cons (ps_setLc (i := 2) (own := [("rows", 9)]) (g := (gName 9)) (tt := tYes) rfl nd rfl rfl (sw_true rfl rfl rfl (by decide +kernel)) (pi_list (pv 1)) (blkOk_by (N := N_law_tied) (sc := defScope s_law_tied) (by decide +kernel)) (fun _ _ _ _ _ => (pg_name (i := 9) nd rfl (Or.inl rfl))) (fun _ _ _ _ _ => pts_nil) (fun _ _ _ _ _ => (pe_callTy (T := "list") (r := rLstQ K) call_list_of (by rfl) nb.b_list (by decide +kernel) (pa_cons (pv 9) pa_nil))))
      (pss_cons (ps_for PassesOwn.never rfl (pi_range1 (by rfl) nb.b_range (pa_cons pe_int pa_nil)) (pg_name (i := 3) nd rfl (Or.inl rfl))
        (pss_one (ps_for PassesOwn.never rfl (pi_tup (pe_ix ix_tup (pv 0) pe_int (fun _ _ => rfl))) (pg_name (i := 4) nd rfl (Or.inl rfl))
          (pss_cons (ps_set (i := 5) nd rfl (Or.inr rfl) (pe_op op_cat (pe_lc (own := [("row", 10)]) (g := (gName 10)) (tt := tYes) rfl nd (pi_list (pe_ix ix_list (pv 2) (pe_own D_law_place hr (pa_cons (pe_ix ix_tup (pv 0) pe_int (fun _ _ => rfl)) (pa_cons (pe_ix ix_tup (pv 4) pe_int (fun _ _ => rfl)) pa_nil))) (fun _ _ => rfl))) (blkOk_by (N := N_law_tied) (sc := defScope s_law_tied) (by decide +kernel)) (fun _ _ _ _ _ => (pg_name (i := 10) nd rfl (Or.inl rfl))) (fun _ _ _ _ _ => pts_nil) (fun _ _ _ _ _ => (pe_ix (r := rIxT K) ix_tup (pv 10) pe_int (fun _ _ => rfl)))) (pe_lst (pa_cons pe_non pa_nil))))
          (pss_cons (ps_asg (pe_tup (pa_cons (pe_own D_law_place hr (pa_cons (pe_ix ix_tup (pv 0) pe_int (fun _ _ => rfl)) (pa_cons (pe_ix ix_tup (pv 4) pe_int (fun _ _ => rfl)) pa_nil))) (pa_cons (pe_own D_law_column hr (pa_cons (pe_ix ix_tup (pv 0) pe_int (fun _ _ => rfl)) (pa_cons (pe_ix ix_tup (pv 4) pe_int (fun _ _ => rfl)) (pa_cons (pe_ix ix_tup (pv 4) pe_int (fun _ _ => rfl)) pa_nil)))) pa_nil))) (pg_tup rfl (pgs_cons (pg_name (i := 6) nd rfl (Or.inl rfl)) (pgs_cons (pg_name (i := 7) nd rfl (Or.inr rfl)) pgs_nil))))
          (pss_one (ps_if (pt_cmpR op_eq (pv 7) pe_int (nomark _))
            (pss_one (ps_asg (pe_lc (own := [("row", 10)]) (g := (gName 10)) rfl nd (pi_list (pe_ix ix_list (pv 2) (pv 6) (fun _ _ => rfl))) (blkOk_by (N := N_law_tied) (sc := defScope s_law_tied) (by decide +kernel)) (fun _ _ _ _ _ => (pg_name (i := 10) nd rfl (Or.inl rfl))) (fun _ _ _ _ _ => (pts_one (pt_cmpR (r := rIn K false) op_in_seq (pe_ix (r := rIxT K) ix_tup (pv 10) pe_int (fun _ _ => rfl)) (pv 5) (by rfl)))) (fun _ _ _ _ _ => (pv 10))) (pg_sub (pv 2) (pv 6) set_list)))
            (pss_cons (ps_setLc (i := 8) (own := [("row", 10)]) (g := (gName 10)) (tt := tYes) rfl nd rfl rfl (sw_true rfl rfl rfl (by decide +kernel)) (pi_list (pe_ix ix_list (pv 2) (pv 6) (fun _ _ => rfl))) (blkOk_by (N := N_law_tied) (sc := defScope s_law_tied) (by decide +kernel)) (fun _ _ _ _ _ => (pg_name (i := 10) nd rfl (Or.inl rfl))) (fun _ _ _ _ _ => pts_nil) (fun _ _ _ _ _ => (pe_op op_mul (pv 7) (pe_callTy call_int1 (by rfl) nb.b_int (by decide +kernel) (pa_cons (pe_cmpR (r := rIn K true) op_notIn_seq (pe_ix (r := rIxT K) ix_tup (pv 10) (pv 7) (fun _ _ => rfl)) (pv 5) (by rfl)) pa_nil)))))
            (pss_cons (ps_set (i := 9) nd rfl (Or.inl rfl) (pe_listZip nb.b_list nb.b_zip (pa_cons (pe_ix ix_list (pv 2) (pv 6) (fun _ _ => rfl)) (pa_cons (pv 8) pa_nil))))
            (pss_one (ps_asg (pe_lc (own := [("row", 10), ("spot", 11)]) (g := (gTup _ 2 (gCons (gName 10) (gCons (gName 11) gNil)))) (tt := tYes) rfl nd (pi_list (pv 9)) (blkOk_by (N := N_law_tied) (sc := defScope s_law_tied) (by decide +kernel)) (fun _ _ _ _ _ => (pg_tup rfl (pgs_cons (pg_name (i := 10) nd rfl (Or.inl rfl)) (pgs_cons (pg_name (i := 11) nd rfl (Or.inl rfl)) pgs_nil)))) (fun _ _ _ _ _ => pts_nil) (fun _ _ _ _ _ => (pe_ifExp (pt_cmpR op_gt (pv 11) pe_int (nomark _)) (pe_op (r := rCatT K) op_catT (pe_op (r := rCatT K) op_catT (pe_slice (r := rSlT K) sl_tup (pv 10) po_none (po_some (pv 11))) (pe_tup (pa_cons pe_non pa_nil))) (pe_slice (r := rSlT K) sl_tup (pv 10) (po_some (pe_op op_add (pv 11) pe_int)) po_none)) (pv 10)))) (pg_sub (pv 2) (pv 6) set_list))))))))))))
      (pss_one (ps_ret (pv 2))))), ?_⟩
  have okt := hT.ok
  obtain ⟨q0, xs, e0, hES, hEA⟩ := seq_dp (b := true) hE
  cases e0
  have lxs : xs.length = es.length := by rw [dpAll_len hEA, List.length_map]
  obtain ⟨p0, cx, e0, hCX, hCA, lcx⟩ := cont_dp hcp
  cases e0
  have lct : ct.length ≤ 8 := by rw [okc.len]; exact hT.l8
  -- a copy
  have ob : ∀ {p : Addr}, H p = none → p ≠ b := fun h e => hb (by rw [← e]; exact h)
  have hCX' := sameL (msk_sub [b] H) hCX
  refine ⟨.ref cp, rfl, cp, rfl, ⟨cx, hCX'⟩, fun D nD => ?_⟩
  have nDb := ob nD
  refine lc_it (walk_list (xs := cx)) (fun j H' => ∃ us, Grow K [b] H' D us ((ct.take j).map rowsD) ∧ Kept [D] H H') ⟨[], .start, Kept.upd_new nD⟩ (fun j H' _ hP => let ⟨_, _, kk⟩ := hP; sameL (kept_same kk nD) hCX') (fun j y H' H'' hj hP2 hY => ?_) (fun H1 hP2 => ?_)
  · obtain ⟨rfl, hy⟩ := hY
    obtain ⟨us, gr, kk⟩ := hP2
    obtain ⟨rs, hrs, hd⟩ := cont_at hCA hy
    have sk := kept_same kk nD
    obtain ⟨rp, yr, rfl, hRP, hRA⟩ : ∃ rp yr, y = .ref rp ∧ SqL K (msk [b] H) rp yr ∧ DpAll K (msk [b] H) yr (rs.map rowD) := by
      cases hd with
      | lst a1 a2 => exact ⟨_, _, rfl, a1, a2⟩
    have et : (ct.take (j + 1)).map rowsD = (ct.take j).map rowsD ++ [rowsD rs] := by
      rw [List.take_add_one, hrs, List.map_append]; rfl
    have lus : us.length ≤ 8 := by
      rw [gr.len, List.length_map, List.length_take]; omega
    refine ⟨rfl, ?_⟩
    unfold tYes
    dsimp only
    refine iteT ⟨.ref rp, rfl, rp, yr, rfl, .inl (sameL ((msk_sub [b] H).trans sk) hRP), fun l nl => ?_⟩
    have nDl : D ≠ l := ne_of_none gr.at' nl
    have g2 := gr.kept (Kept.upd_new (o := .lst yr) nl) (by simpa using nDb)
    have nlb : l ≠ b := ob (Same.free sk nl)
    have k2 := kk.trans (Kept.upd_new (o := .lst yr) nl)
    refine ⟨us, g2.at', small1000 (by omega), us ++ [.ref l], ?_, k2.trans (Kept.upd_in (List.mem_cons_self ..))⟩
    rw [et]
    exact g2.put (.lst (.inl (.inl (msk_at upd_same (by simp [nDl.symm, nlb])))) (dpAll_same (msk_two k2 nD) hRA))
  obtain ⟨us0, gr0, k01⟩ := hP2
  rw [lcx, List.take_length] at gr0
  refine ⟨61, rfl, by decide, by decide, ?_⟩
  refine for_range (lo := 0) (n := (61 : Int).toNat) (fun i2 σ H' => TiedAt K H ts pl cp b D σ H') ⟨⟨_, _, _, _, _, _, _, rfl⟩, ⟨us0, ct, gr0.at', gr0.dp, okc⟩, k01⟩ (fun i2 σ H2 hi hP => ?_) (fun σ H2 hP => ?_)
  rotate_left
  · obtain ⟨⟨y3, y4, y5, y6, y7, y8, y9, rfl⟩, ⟨us, ct', hD, hA, okc'⟩, k2⟩ := hP
    exact ⟨.ref D, rfl, q D us ct' H2 (kept_same k2 nD) nD hD hA okc'⟩
  obtain ⟨⟨y3, y4, y5, y6, y7, y8, y9, rfl⟩, hX, k2⟩ := hP
  have s2 := kept_same k2 nD
  refine ⟨.ref pl, rfl, pl, _, 1, .ref ep, rfl, rfl, sameT s2 hPl, atI_nat (j := 1) rfl, ep, rfl, ⟨xs, sameT s2 hES⟩, ?_⟩
  refine for_it (walk_tup (xs := xs)) (fun j σ H' => TiedAt K H ts pl cp b D σ H') ⟨⟨_, _, _, _, _, _, _, rfl⟩, hX, k2⟩ (fun j σ H' _ hP => sameT (kept_same hP.2.2 nD) hES) (fun j y σ H3 H3' hj hP hY => ?_) (fun σ H3 hP => hP)
  obtain ⟨rfl, hy⟩ := hY
  clear hX k2 s2 y3 y4 y5 y6 y7 y8 y9
  obtain ⟨⟨y3, y4, y5, y6, y7, y8, y9, rfl⟩, ⟨us, ct', hD, hA, okc'⟩, k3⟩ := hP
  obtain ⟨d, hd1, hd2⟩ := dpAll_get j hEA hy
  rw [List.getElem?_map] at hd1
  obtain ⟨zs, hz, rfl⟩ := Option.map_eq_some_iff.mp hd1
  obtain ⟨n, t, c, ot, g, u, l, rfl, okn, ht, hc, hot, _, _, hl⟩ := (hes zs (List.mem_of_getElem? hz)).ex
  have s3 := kept_same k3 nD
  obtain ⟨qt, yz, rfl, hqt0, hyz⟩ := seq_dp (b := true) hd2
  have eyz : yz = [.str n, .str t, .str c, .str ot, .str g, .str u, .str l] := dpAll_strs hyz
  subst eyz
  have hqt := sameT s3 hqt0
  have hpl := sameT s3 hPl
  have htp := hT.same s3
  obtain ⟨tb, rs, rp, ys, htb, ltb, hrs, okrs, fewrs, hur, hRP, hRA, lys⟩ := found_at okt hA okc' ht
  obtain ⟨tb2, rs2, rp2, ys2, htb2, ltb2, hrs2, okrs2, fewrs2, hur2, hRP2, hRA2, lys2⟩ := found_at okt hA okc' hot
  dsimp only [List.set]
  refine ⟨.ref D, rfl, .ref pl, rfl, pl, _, 0, .ref tp, rfl, rfl, hpl, atI_nat (j := 0) rfl, .ref qt, rfl, qt, _, 3, .str ot, rfl, rfl, hqt, atI_nat (j := 3) rfl, tp, ts, ot, rfl, htp, hot, fun H4 s4 => ?_⟩
  have m4 := (msk_sub [D, b] H3').trans s4
  refine ⟨D, us, _, .ref rp2, rfl, rfl, .inl (.inl (s4 _ _ hD)), atI_nat hur2, rp2, rfl, ⟨ys2, sameL m4 hRP2⟩, fun D5 nD5 => ?_⟩
  refine lc_map (walk_list (xs := ys2)) (ys := (keysOf rs2).map V.int) (by unfold keysOf; rw [List.length_map, List.length_map, lys2]) (by omega) nD5 (fun H' k => sameL (m4.trans (kept_same k nD5)) hRP2) (fun j2 y2 H' C N hy2 s9 hC => ?_) (fun H5 eD5 s5 => ?_)
  · obtain ⟨row2, p2, hrow2, rfl, hp2⟩ := row_at' hRA2 hy2
    exact ⟨rfl, iteT ⟨.ref p2, rfl, p2, _, 0, .int (keyW row2), rfl, rfl, sameT (m4.trans s9) hp2, atI_nat (j := 0) (key0 (okrs2.row row2 (List.mem_of_getElem? hrow2))), hC _ (by unfold keysOf; rw [List.getElem?_map, List.getElem?_map, hrow2]; rfl)⟩⟩
  refine ⟨(by show 1 ≤ sizeLine; decide), fun L nL => ?_⟩
  have nD5L : D5 ≠ L := ne_of_none eD5 nL
  refine ⟨D5, L, _, _, rfl, rfl, (by rw [upd_ne nD5L]; exact eD5), upd_same, (by unfold keysOf; rw [List.length_map, List.length_map]; exact Nat.le_of_lt (small1000 (by show _ + 1 ≤ _; omega))), fun M nM => ?_⟩
  have eM : (upd (upd H5 L (.lst [.non])) M (.lst ((keysOf rs2).map V.int ++ [.non]))) M = some (.lst (((keysOf rs2).map some ++ [none]).map wV)) := by
    rw [upd_same, List.map_append, map_ints]; rfl
  have sM := (same_upd (o := .lst [.non]) nL).trans (same_upd (o := .lst ((keysOf rs2).map V.int ++ [.non])) nM)
  generalize upd (upd H5 L (.lst [.non])) M (.lst ((keysOf rs2).map V.int ++ [.non])) = H6 at eM sM ⊢
  generalize (keysOf rs2).map some ++ [none] = ws at eM
  have s36 := s4.trans (s5.trans sM)
  dsimp only [List.set]
  refine ⟨.ref pl, rfl, pl, _, 0, .ref tp, rfl, rfl, sameT s36 hpl, atI_nat (j := 0) rfl, .ref qt, rfl, qt, _, 1, .str t, rfl, rfl, sameT s36 hqt, atI_nat (j := 1) rfl, tp, ts, t, rfl, htp.same s36, ht, fun H7 s7 => ?_⟩
  have s37 := s36.trans s7
  refine ⟨.ref pl, rfl, pl, _, 0, .ref tp, rfl, rfl, sameT s37 hpl, atI_nat (j := 0) rfl, .ref qt, rfl, qt, _, 1, .str t, rfl, rfl, sameT s37 hqt, atI_nat (j := 1) rfl, .ref qt, rfl, qt, _, 2, .str c, rfl, rfl, sameT s37 hqt, atI_nat (j := 2) rfl, tp, ts, t, c, rfl, htp.same s37, ht, hc, fun H8 s8 => ⟨(by show 2 ≤ sizeLine; decide), fun TT nTT => ⟨TT, _, rfl, .inl (.inl upd_same), rfl, _, _, rfl, _, _, rfl, rfl, ?_⟩⟩⟩
  have sT := same_upd (o := .tup [.int ((tns ts).idxOf t : Nat), .int ((cns ts t).idxOf c : Nat)]) nTT
  have s69 : Same H6 (upd H8 TT (.tup [.int ((tns ts).idxOf t : Nat), .int ((cns ts t).idxOf c : Nat)])) := s7.trans (s8.trans sT)
  dsimp only [List.set]
  generalize upd H8 TT (.tup [.int ((tns ts).idxOf t : Nat), .int ((cns ts t).idxOf c : Nat)]) = H9 at s69 ⊢
  have s39 := s36.trans s69
  have eM9 := s69 _ _ eM
  have hD9 := s39 _ _ hD
  have k9 : Kept [D] H H9 := k3.trans (Kept.of_same s39)
  have ms := msk_same (M := [D, b]) (Kept.of_same s39)
  have hA9 := dpAll_same ms hA
  have hRPm := sameL ms hRP
  have hRAm := dpAll_same ms hRA
  have hRP9 := sameL (msk_sub [D, b] H9) hRPm
  have lt1 : (tns ts).idxOf t < us.length := (List.getElem?_eq_some_iff.mp hur).1
  clear hRP hRA hA hRP2 hRA2 hD s4 s5 sM s7 s8 sT m4
  refine ⟨.int (((cns ts t).idxOf c : Nat) : Int), rfl, rfl, _, rfl, ?_⟩
  refine ite2 (fun e0 => ?_) (fun e0 => ?_)
  · refine ⟨.ref D, rfl, .int (((tns ts).idxOf t : Nat) : Int), rfl, D, us, _, .ref rp, rfl, rfl, .inl (.inl hD9), atI_nat hur, rp, rfl, ⟨ys, hRP9⟩, fun D7 nD7 => ?_⟩
    have nDD7 : D ≠ D7 := ne_of_none hD9 nD7
    have nD7b : D7 ≠ b := ob (Same.free (kept_same k9 nD) nD7)
    refine lc_it (walk_list (xs := ys)) (fun j2 H' => ∃ ws2, Grow K [D, b] H' D7 ws2 (((rs.take j2).filter fun r => decide (some (keyW r) ∈ ws)).map rowD) ∧ Kept [D7] H9 H') ⟨[], .start, Kept.upd_new nD7⟩ (fun j2 H' _ hP => let ⟨_, _, kk⟩ := hP; sameL (kept_same kk nD7) hRP9) (fun j2 y2 Hc Hc' hj2 hP2 hY2 => ?_) (fun Hc hP2 => ?_)
    · obtain ⟨rfl, hy2⟩ := hY2
      obtain ⟨ws2, gw, kc⟩ := hP2
      obtain ⟨row, p, hrow, rfl, hp⟩ := row_at' hRAm hy2
      have okr := okrs.row row (List.mem_of_getElem? hrow)
      have sc := kept_same kc nD7
      have et2 : ((rs.take (j2 + 1)).filter fun r => decide (some (keyW r) ∈ ws)) = ((rs.take j2).filter fun r => decide (some (keyW r) ∈ ws)) ++ (if decide (some (keyW row) ∈ ws) = true then [row] else []) := by
        rw [List.take_add_one, hrow, List.filter_append]
        congr 1
        show List.filter _ [row] = _
        rw [List.filter_cons, List.filter_nil]
      have lws : ws2.length ≤ 20 := by
        rw [gw.len, List.length_map]
        have h1 := List.length_filter_le (fun r => decide (some (keyW r) ∈ ws)) (rs.take j2)
        rw [List.length_take] at h1
        omega
      refine ⟨rfl, .ref p, rfl, p, _, 0, .int (keyW row), rfl, rfl, sameT ((msk_sub [D, b] H9).trans sc) hp, atI_nat (j := 0) (key0 okr), .ref M, rfl, M, _, rfl, .inl (.inl (.inl (sc _ _ eM9))), rfl, flat_ws _, _, rfl, ?_⟩
      rw [if_neg Bool.false_ne_true, show V.int (keyW row) = wV (some (keyW row)) from rfl, inV_w]
      refine ite2 (fun e => ?_) (fun e => ?_)
      · refine ⟨.ref p, rfl, ws2, gw.at', small1000 (by omega), ws2 ++ [.ref p], ?_, kc.trans (Kept.upd_in (List.mem_cons_self ..))⟩
        rw [et2, if_pos e, List.map_append]
        exact gw.put (.tup (sameT (msk_two kc nD7) hp) (dps_w row))
      · exact ⟨ws2, by rw [et2, if_neg e, List.append_nil]; exact gw, kc⟩
    · obtain ⟨ws2, gw, kc⟩ := hP2
      rw [lys, List.take_length] at gw
      have sc := kept_same kc nD7
      have X := tied_put (dpAll_same (msk_same (M := [D, b]) (Kept.of_same sc)) hA9) okc' gw (by simp [nDD7.symm, nD7b]) htb (okrs.filter _) (Nat.le_trans (List.length_filter_le _ _) fewrs)
      exact ⟨.ref D, rfl, .int (((tns ts).idxOf t : Nat) : Int), rfl, D, us, _, (tns ts).idxOf t, rfl, rfl, sc _ _ hD9, ixN_nat lt1, ⟨_, _, _, _, _, _, _, rfl⟩, X, k9.trans ((Kept.of_same sc).trans (Kept.upd_in (List.mem_cons_self ..)))⟩
  · have ppos : 0 < (cns ts t).idxOf c := by
      rcases Nat.eq_zero_or_pos ((cns ts t).idxOf c) with z | z
      · exact absurd (by rw [z]; exact decide_eq_true rfl) e0
      · exact z
    refine ⟨.ref D, rfl, .int (((tns ts).idxOf t : Nat) : Int), rfl, D, us, _, .ref rp, rfl, rfl, .inl (.inl hD9), atI_nat hur, rp, rfl, ⟨ys, hRP9⟩, fun D8 nD8 => ?_⟩
    refine lc_map (walk_list (xs := ys)) (ys := rs.map (spotV (cns ts t) c ws)) (by rw [List.length_map, lys]) (by omega) nD8 (fun H' k => sameL (kept_same k nD8) hRP9) (fun j2 y2 H' C N hy2 s hC => ?_) (fun Ha eD8 sa => ?_)
    · obtain ⟨row, p, hrow, rfl, hp⟩ := row_at' hRAm hy2
      have okr := okrs.row row (List.mem_of_getElem? hrow)
      refine ⟨rfl, iteT ⟨.int (((cns ts t).idxOf c : Nat) : Int), rfl, .ref p, rfl, .int (((cns ts t).idxOf c : Nat) : Int), rfl, p, _, _, _, rfl, rfl, sameT ((msk_sub [D, b] H9).trans s) hp, atI_nat (cell_row okr ltb.symm hc), .ref M, rfl, M, _, rfl, .inl (.inl (.inl (s _ _ eM9))), flat_w _, flat_ws _, .inr ⟨_, rfl, _, _, rfl, rfl, .inr ?_, hC _ ?_⟩⟩⟩
      · generalize (if true = true then _ else _ : Bool) = qq
        cases qq <;> exact ⟨by decide, by decide⟩
      · rw [List.getElem?_map, hrow]; rfl
    dsimp only [List.set]
    have hDa := sa _ _ hD9
    refine ⟨.ref D, rfl, .int (((tns ts).idxOf t : Nat) : Int), rfl, D, us, _, .ref rp, rfl, rfl, .inl (.inl hDa), atI_nat hur, .ref D8, rfl, false, false, rp, D8, ys, rs.map (spotV (cns ts t) c ws), rfl, sameL sa hRP9, .inl (.inl eD8), (by rw [List.length_map, lys]), (by omega), fun S Hb Ts nS MK => ?_⟩
    have sb := kept_same MK.kept nS
    have s9b := sa.trans sb
    dsimp only [List.set]
    refine ⟨.ref S, rfl, S, rfl, ⟨_, .inl (.inl MK.at')⟩, fun D9 nD9 => ?_⟩
    have hDb := sb _ _ hDa
    have nDD9 : D ≠ D9 := ne_of_none hDb nD9
    have nD9b : D9 ≠ b := ob (Same.free ((kept_same k9 nD).trans s9b) nD9)
    have mb := msk_same (M := [D, b]) (Kept.of_same s9b)
    have hRAb := dpAll_same mb hRAm
    refine lc_it (walk_list (xs := Ts.map V.ref)) (fun j2 H' => ∃ ws2, Grow K [D, b] H' D9 ws2 (((rs.take j2).map fun r => if outOf (cns ts t) c ws r = true then r.set ((cns ts t).idxOf c) none else r).map rowD) ∧ Kept [D9] Hb H') ⟨[], .start, Kept.upd_new nD9⟩ (fun j2 H' _ hP => let ⟨_, _, kk⟩ := hP; .inl (.inl ((kept_same kk nD9) _ _ MK.at'))) (fun j2 y2 Hc Hc' hj2 hP2 hY2 => ?_) (fun Hc hP2 => ?_)
    · obtain ⟨rfl, hy2⟩ := hY2
      obtain ⟨ws2, gw, kc⟩ := hP2
      rw [List.getElem?_map] at hy2
      obtain ⟨T, hT2, rfl⟩ := Option.map_eq_some_iff.mp hy2
      obtain ⟨x2, v2, hx2, hv2, hTT, _, _⟩ := MK.it j2 T hT2
      obtain ⟨row, p, hrow, rfl, hp⟩ := row_at' hRAb hx2
      have okr := okrs.row row (List.mem_of_getElem? hrow)
      have sc := kept_same kc nD9
      have lrow : (cns ts t).idxOf c < row.length := by rw [okr.len, ← ltb]; exact List.idxOf_lt_length_of_mem hc
      rw [List.getElem?_map, hrow] at hv2
      have hv2 : v2 = spotV (cns ts t) c ws row := (Option.some.inj hv2).symm
      have lws : ws2.length ≤ 20 := by
        rw [gw.len, List.length_map, List.length_map, List.length_take]
        omega
      have fin : ∀ (a : Addr) (Hq : Hp), Same Hc' Hq → SqT K (msk [D9, D, b] Hq) a ((if outOf (cns ts t) c ws row = true then row.set ((cns ts t).idxOf c) none else row).map wV) →
          ∃ acc, Hq D9 = some (.lst acc) ∧ acc.length < sizeLine ∧ ∃ ws2, Grow K [D, b] (upd Hq D9 (.lst (acc ++ [.ref a]))) D9 ws2 (((rs.take (j2 + 1)).map fun r => if outOf (cns ts t) c ws r = true then r.set ((cns ts t).idxOf c) none else r).map rowD) ∧ Kept [D9] Hb (upd Hq D9 (.lst (acc ++ [.ref a]))) := by
        intro a Hq sq hq
        have gq := gw.kept (Kept.of_same sq) (by simp [nDD9.symm, nD9b])
        refine ⟨ws2, gq.at', small1000 (by omega), ws2 ++ [.ref a], ?_, kc.trans ((Kept.of_same sq).trans (Kept.upd_in (List.mem_cons_self ..)))⟩
        rw [List.take_add_one, hrow, List.map_append, List.map_append]
        exact gq.put (.tup hq (dps_w _))
      have hpc := sameT ((msk_sub [D, b] Hb).trans sc) hp
      by_cases e : outOf (cns ts t) c ws row = true
      · rw [if_pos e] at fin
        have hv3 : v2 = .int (((cns ts t).idxOf c : Nat) : Int) := by rw [hv2]; unfold spotV; rw [if_pos e, Int.mul_one]
        subst hv3
        have eRow : cutV (row.map wV) none (some (((cns ts t).idxOf c : Nat) : Int)) ++ [.non] ++ cutV (row.map wV) (some ((((cns ts t).idxOf c : Nat) : Int) + 1)) none = (row.set ((cns ts t).idxOf c) none).map wV := by
          rw [cutV_lo, show cutV (row.map wV) (some ((((cns ts t).idxOf c : Nat) : Int) + 1)) none = (row.map wV).drop ((cns ts t).idxOf c + 1) from cutV_hi _ _, ← set_cut lrow, List.map_append, List.map_append, List.map_take, List.map_drop]
          rfl
        refine ⟨T, _, rfl, .inl (.inl (sc _ _ hTT)), rfl, _, _, rfl, _, _, rfl, rfl, rfl, ?_⟩
        unfold tYes
        dsimp only
        refine iteT ?_
        refine ⟨.int (((cns ts t).idxOf c : Nat) : Int), rfl, _, 0, rfl, rfl, _, rfl, ?_⟩
        refine ite2 (fun _ => ?_) (fun h => absurd (decide_eq_true (by omega : (0 : Int) < (((cns ts t).idxOf c : Nat) : Int))) h)
        refine ⟨.ref p, rfl, .int (((cns ts t).idxOf c : Nat) : Int), rfl, _, rfl, p, _, rfl, hpc, ?_, fun a1 na1 => ?_⟩
        · rw [HT.sIx_nat, List.length_map]; omega
        refine ⟨(by show 1 ≤ sizeLine; decide), fun a2 na2 => ?_⟩
        have n12 : a1 ≠ a2 := ne_of_none upd_same na2
        have sA := (same_upd (o := .tup (cutV (row.map wV) none (some (((cns ts t).idxOf c : Nat) : Int)))) na1).trans (same_upd (o := .tup [.non]) na2)
        have lc1 := cutV_length (row.map wV) none (some (((cns ts t).idxOf c : Nat) : Int))
        have lc2 := cutV_length (row.map wV) (some ((((cns ts t).idxOf c : Nat) : Int) + 1)) none
        rw [List.length_map] at lc1 lc2
        have lr9 : row.length ≤ 9 := by rw [okr.len]; have := (okt.cs _ (List.mem_of_getElem? htb)).1.top; omega
        refine ⟨a1, a2, _, _, rfl, rfl, .inl (.inl (by rw [upd_ne n12]; exact upd_same)), .inl (.inl upd_same), ?_, ?_, fun h => (by cases h), fun _ a3 na3 => ?_⟩
        · rw [cutV_lo]
          intro z
          have := congrArg List.length z
          rw [List.length_take, List.length_map, List.length_nil] at this
          omega
        · exact Nat.le_of_lt (small1000 (by show _ + 1 ≤ _; omega))
        have sB := sA.trans (same_upd (o := .tup (cutV (row.map wV) none (some (((cns ts t).idxOf c : Nat) : Int)) ++ [.non])) na3)
        have e3 : (upd (upd (upd Hc' a1 (.tup (cutV (row.map wV) none (some (((cns ts t).idxOf c : Nat) : Int))))) a2 (.tup [.non])) a3 (.tup (cutV (row.map wV) none (some (((cns ts t).idxOf c : Nat) : Int)) ++ [.non]))) a3 = some (.tup (cutV (row.map wV) none (some (((cns ts t).idxOf c : Nat) : Int)) ++ [.non])) := upd_same
        have f3 : Hc' a3 = none := Same.free sA na3
        generalize upd (upd (upd Hc' a1 (.tup (cutV (row.map wV) none (some (((cns ts t).idxOf c : Nat) : Int))))) a2 (.tup [.non])) a3 (.tup (cutV (row.map wV) none (some (((cns ts t).idxOf c : Nat) : Int)) ++ [.non])) = H10 at sB e3 ⊢
        refine ⟨.ref p, rfl, .int (((cns ts t).idxOf c : Nat) : Int), rfl, _, _, rfl, rfl, _, rfl, p, _, rfl, sameT sB hpc, ?_, fun a4 na4 => ?_⟩
        · rw [show (((cns ts t).idxOf c : Nat) : Int) + 1 = (((cns ts t).idxOf c + 1 : Nat) : Int) from rfl, HT.sIx_nat, List.length_map]; omega
        have n34 : a3 ≠ a4 := ne_of_none e3 na4
        have sC := sB.trans (same_upd (o := .tup (cutV (row.map wV) (some ((((cns ts t).idxOf c : Nat) : Int) + 1)) none)) na4)
        have hD9c : Hc' D9 = some (.lst ws2) := gw.at'
        have hDc' : Hc' D = some (.lst us) := sc _ _ hDb
        have e3' : (upd H10 a4 (.tup (cutV (row.map wV) (some ((((cns ts t).idxOf c : Nat) : Int) + 1)) none))) a3 = some (.tup (cutV (row.map wV) none (some (((cns ts t).idxOf c : Nat) : Int)) ++ [.non])) := by rw [upd_ne n34]; exact e3
        refine ⟨a3, a4, _, _, rfl, rfl, .inl (.inl e3'), .inl (.inl upd_same), by simp, ?_, fun h => ?_, fun h a5 na5 => ?_⟩
        · rw [List.length_append]
          exact Nat.le_of_lt (small1000 (by show _ + 1 + _ ≤ _; omega))
        · refine fin a3 _ sC (.inl (.inl (msk_at ?_ ?_)))
          · rw [e3', ← eRow, h, List.append_nil]
          · have z1 := ne_of_none hD9c f3
            have z2 := ne_of_none hDc' f3
            have z3 := ob (Same.free ((kept_same k9 nD).trans (s9b.trans sc)) f3)
            simp [z1.symm, z2.symm, z3]
        · refine fin a5 _ (sC.trans (same_upd na5)) (.inl (.inl (msk_at ?_ ?_)))
          · rw [upd_same, eRow]
          · have f5 : Hc' a5 = none := Same.free sC na5
            have z1 := ne_of_none hD9c f5
            have z2 := ne_of_none hDc' f5
            have z3 := ob (Same.free ((kept_same k9 nD).trans (s9b.trans sc)) f5)
            simp [z1.symm, z2.symm, z3]
      · rw [if_neg e] at fin
        have hv3 : v2 = .int 0 := by rw [hv2]; unfold spotV; rw [if_neg e, Int.mul_zero]
        subst hv3
        refine ⟨T, _, rfl, .inl (.inl (sc _ _ hTT)), rfl, _, _, rfl, _, _, rfl, rfl, rfl, ?_⟩
        unfold tYes
        dsimp only
        refine iteT ?_
        refine ⟨.int 0, rfl, _, 0, rfl, rfl, _, rfl, ?_⟩
        refine ite2 (fun h => absurd h (by decide)) (fun _ => ?_)
        exact ⟨.ref p, rfl, fin p Hc' (Same.refl _) (sameT (msk_two kc nD9) hp)⟩
    · obtain ⟨ws2, gw, kc⟩ := hP2
      rw [List.length_map, MK.len, lys, List.take_length] at gw
      have sc := kept_same kc nD9
      have s9c := s9b.trans sc
      have X := tied_put (dpAll_same (msk_same (M := [D, b]) (Kept.of_same s9c)) hA9) okc' gw (by simp [nDD9.symm, nD9b]) htb (okrs.clear ppos _) (by rw [List.length_map]; exact fewrs)
      exact ⟨.ref D, rfl, .int (((tns ts).idxOf t : Nat) : Int), rfl, D, us, _, (tns ts).idxOf t, rfl, rfl, sc _ _ hDb, ixN_nat lt1, ⟨_, _, _, _, _, _, _, rfl⟩, X, k9.trans ((Kept.of_same s9c).trans (Kept.upd_in (List.mem_cons_self ..)))⟩
end
end TT

set_option Elab.async false
set_option linter.all false
set_option maxRecDepth 100000
namespace TT
open PySem PySem.Spec PyProof.Rows L2
theorem RwsOk.sub {n : Nat} {rs rs' : List Rw} (h : RwsOk n rs) (s : rs'.Sublist rs) : RwsOk n rs' := ⟨fun r hr => h.row r (s.subset hr), h.up.sublist (s.map _)⟩
theorem cut_sub {α : Type} (l : List α) (e : Nat) : (l.take e ++ l.drop (e + 1)).Sublist l := by
  rw [← List.eraseIdx_eq_take_drop_succ]; exact List.eraseIdx_sublist _ _
section
variable {P : Program} {w : World} {K : PySem.W.Frag} {mg : Str → Option Value} {base : Heap}
def spRight (K : PySem.W.Frag) : Sp := fun vs H Q _ => ∃ b : Addr, vs = [.ref b] ∧ BoxAt H b 0 ∧ ∀ H', Kept [b] H H' → Q (.bl true) H'
abbrev s_law_right : Stmt := topS 28
abbrev N_law_right : List Str := ["box", "tables", "plan", "content", "turn", "handed", "kept", "at", "spot"]
theorem sc_law_right : FnScope N_law_right ["box"] (defScope s_law_right) := ⟨rfl, rfl, rfl, by decide +kernel, rfl, by decide +kernel, by decide +kernel⟩

set_option maxHeartbeats 8000000 in
theorem ok_right {f : Addr} {fd : FuncData} (F : Fun K "_law_right" "_law_right" s_law_right f fd) (nb : NB mg) (D_law_take : Def P w K mg base 1 "_law_take" ["box", "many"] spTakeB) (D_law_tables : Def P w K mg base 3 "_law_tables" ["box", "most"] (spTablesB K))
    (D_law_ties : Def P w K mg base 3 "_law_ties" ["box", "tables", "most"] (spTiesB K)) (D_law_content : Def P w K mg base 2 "_law_content" ["box", "tables", "ties", "most"] (spContentB K)) (D_law_handed : Def P w K mg base 2 "_law_handed" ["box", "content"] (spHanded K))
    (D_law_tied : Def P w K mg base 3 "_law_tied" ["plan", "content"] (spTied K)) (D_law_told_right : Def P w K mg base 8 "_law_told_right" ["plan", "content", "handed"] (spToldRight K)) : FnG P w K mg base CX0 9 f fd ["box"] (spRight K) := by
  refine okG F sc_law_right (fun vs H Q E h => ?_) (fun cdv A outer sh H vs Q E hr hg h => ?_)
  · obtain ⟨b, rfl, _⟩ := h
    rfl
  obtain ⟨b, rfl, S, q⟩ := h
  have nd := sc_law_right.nd
  refine ⟨_, (pss_cons (ps_set (i := 1) nd rfl (Or.inl rfl) (pe_own D_law_tables hr (pa_cons (pv 0) (pa_cons pe_int pa_nil))))
      (pss_cons (ps_set (i := 2) nd rfl (Or.inl rfl) (pe_tup (pa_cons (pv 1) (pa_cons (pe_own D_law_ties hr (pa_cons (pv 0) (pa_cons (pv 1) (pa_cons pe_int pa_nil)))) (pa_cons (pe_tup pa_nil) pa_nil)))))
      (pss_cons (ps_set (i := 3) nd rfl (Or.inl rfl) (pe_own D_law_content hr (pa_cons (pv 0) (pa_cons (pv 1) (pa_cons (pe_ix ix_tup (pv 2) pe_int (fun _ _ => rfl)) (pa_cons pe_int pa_nil))))))
      (pss_cons (ps_if (pt_cmpR op_eq (pe_own D_law_take hr (pa_cons (pv 0) (pa_cons pe_int pa_nil))) pe_int (nomark _))
        (pss_one (ps_set (i := 3) nd rfl (Or.inl rfl) (pe_own D_law_tied hr (pa_cons (pv 2) (pa_cons (pv 3) pa_nil)))))
        pss_nil)
      (pss_cons (ps_for PassesOwn.never rfl (pi_range1 (by rfl) nb.b_range (pa_cons pe_int pa_nil)) (pg_name (i := 4) nd rfl (Or.inl rfl))
        (pss_cons (ps_set (i := 5) nd rfl (Or.inl rfl) (pe_own D_law_handed hr (pa_cons (pv 0) (pa_cons (pv 3) pa_nil))))
        (pss_cons (ps_set (i := 6) nd rfl (Or.inl rfl) (pe_callB (call_repr_d hg hr) (by rfl) nb.b_repr (by decide +kernel) (pa_cons (pe_lst (pa_cons (pv 2) (pa_cons (pv 5) pa_nil))) pa_nil)))
        (pss_cons (ps_if (PW.pt (pw_or (pt_not (pt_val (pe_own D_law_told_right hr (pa_cons (pv 2) (pa_cons (pv 3) (pa_cons (pv 5) pa_nil)))))) (pw_or1 (pt_cmpR op_ne (pe_callB (call_repr_d hg hr) (by rfl) nb.b_repr (by decide +kernel) (pa_cons (pe_lst (pa_cons (pv 2) (pa_cons (pv 5) pa_nil))) pa_nil)) (pv 6) (nomark _)))))
          (pss_one (ps_ret pe_bl))
          pss_nil)
        (pss_cons (ps_set (i := 7) nd rfl (Or.inl rfl) (pe_own D_law_take hr (pa_cons (pv 0) (pa_cons (pe_callB call_len_seq (by rfl) nb.b_len (by decide +kernel) (pa_cons (pv 3) pa_nil)) pa_nil))))
        (pss_cons (ps_set (i := 8) nd rfl (Or.inl rfl) (pe_own D_law_take hr (pa_cons (pv 0) (pa_cons (pe_op op_add (pe_callB call_len_seq (by rfl) nb.b_len (by decide +kernel) (pa_cons (pe_ix ix_list (pv 3) (pv 7) (fun _ _ => rfl)) pa_nil)) pe_int) pa_nil))))
        (pss_one (ps_asg (pe_op op_cat (pe_slice sl_list (pe_ix ix_list (pv 3) (pv 7) (fun _ _ => rfl)) po_none (po_some (pv 8))) (pe_slice sl_list (pe_ix ix_list (pv 3) (pv 7) (fun _ _ => rfl)) (po_some (pe_op op_add (pv 8) pe_int)) po_none)) (pg_sub (pv 3) (pv 7) set_list)))))))))
      (pss_one (ps_ret pe_bl))))))), ?_⟩
  -- what is drawn
  refine ⟨.ref b, rfl, b, 0, 5, rfl, S, by decide, by decide, by decide, fun tp ts H1 l0 l4 okts ftp dts S1 K1 => ?_⟩
  have T1 : Tabs K (msk [b] H1) tp ts := ⟨dts, okts, l0, by omega⟩
  refine ⟨.ref tp, rfl, .ref b, rfl, .ref tp, rfl, b, tp, _, 10, ts, rfl, S1, by omega, by decide, T1, fun ep es H2 les hes nde fep dep S2 K2 => ⟨Nat.zero_le _, fun pe npe => ⟨(by show 3 ≤ sizeLine; decide), fun p np => ?_⟩⟩⟩
  have T2 := T1.same (msk_same K2)
  have spp := (same_upd (o := .tup []) npe).trans (same_upd (o := .tup [.ref tp, .ref ep, .ref pe]) np)
  have ope := S2.out npe
  have S2' := S2.same (same_upd (o := .tup []) npe)
  have opp := S2'.out np
  have npp : pe ≠ p := ne_of_none upd_same np
  have ePE : (upd (upd H2 pe (.tup [])) p (.tup [.ref tp, .ref ep, .ref pe])) pe = some (.tup []) := by rw [upd_ne npp]; exact upd_same
  have eP : (upd (upd H2 pe (.tup [])) p (.tup [.ref tp, .ref ep, .ref pe])) p = some (.tup [.ref tp, .ref ep, .ref pe]) := upd_same
  have S3 := S2.same spp
  have K23 : Kept [b] H2 (upd (upd H2 pe (.tup [])) p (.tup [.ref tp, .ref ep, .ref pe])) := Kept.of_same spp
  dsimp only [List.set]
  generalize upd (upd H2 pe (.tup [])) p (.tup [.ref tp, .ref ep, .ref pe]) = H3 at ePE eP S3 K23 ⊢
  have T3 := T2.same (msk_same K23)
  have dep3 := dp_same (msk_same K23) dep
  have hPE : SqT K (msk [b] H3) pe [] := .inl (.inl (msk_at ePE ope))
  have hP : SqT K (msk [b] H3) p [.ref tp, .ref ep, .ref pe] := .inl (.inl (msk_at eP opp))
  have K03 : Kept [b] H H3 := K1.trans (K2.trans K23)
  have m3 : ∀ {H' : Hp}, Kept [b] H3 H' → Same (msk [b] H3) H' := fun {H'} k => (msk_same k).trans (msk_sub [b] H')
  have dpP : ∀ {H' : Hp}, Kept [b] H3 H' → Dp K H' (.ref p) (planD ts es) := fun {H'} k =>
    .tup (sameT (m3 k) hP) (.cons (T3.same (m3 k)).dp (.cons (dp_same (m3 k) dep3) (.cons (.tup (sameT (m3 k) hPE) .nil) .nil)))
  refine ⟨.ref b, rfl, .ref tp, rfl, .ref p, rfl, p, _, 1, .ref ep, rfl, rfl, .inl (.inl eP), atI_nat (j := 1) rfl, b, tp, ep, _, 9, ts, es, rfl, S3, by omega, by decide, by omega, T3, dep3, hes, by omega, fun cp0 ct0 H4 okc0 fcp0 ex0 S4 K4 => ?_⟩
  obtain ⟨us0, gr0⟩ := ex0
  have ocp0 : cp0 ∉ [b] := S3.out fcp0
  dsimp only [List.set]
  refine splitR1 (fun v u H' => ∃ cp us ct, v = .ref cp ∧ u = .non ∧ Grow K [b] H' cp us (ct.map rowsD) ∧ ContOk 10 ts ct ∧ H3 cp = none ∧ BoxAt H' b 2000 ∧ Kept [b] H3 H') (fun v u => [some (.ref b), some (.ref tp), some (.ref p), some v, none, none, none, none, none]) (fun v u HL hP2 => ?_) (fun rest => ?_)
  rotate_left
  · refine ⟨.ref b, rfl, b, _, 2, rfl, S4, by omega, by decide, by decide, fun d Ha d0 d1 Sa Ka => ⟨rfl, _, rfl, ite2 (fun _ => ?_) (fun _ => ?_)⟩⟩
    · have k3a := K4.trans Ka
      have hbn : Ha b ≠ none := by
        obtain ⟨x, y, t, _, _, _, e⟩ := Sa.ex
        rw [e]; exact fun z => by cases z
      have nF3 : ∀ {F : Addr}, Ha F = none → H3 F = none := fun {F} nF => by
        cases e : H3 F with
        | none => rfl
        | some o =>
          have h1 := k3a F o e (Sa.out nF)
          rw [nF] at h1; cases h1
      exact ⟨.ref p, rfl, .ref cp0, rfl, p, tp, ep, .ref pe, cp0, b, ts, es, ct0, rfl, hbn, sameT (m3 k3a) hP, T3.same (m3 k3a), dp_same (m3 k3a) dep3, hes, by omega, (gr0.kept Ka ocp0).done ocp0, okc0, fun F us ct' H' sm nF eF dF okF =>
        rest _ .non _ ⟨F, us, ct', rfl, rfl, ⟨eF, dF⟩, okF, nF3 nF, (Sa.same sm).mono (by omega), k3a.trans (Kept.of_same sm)⟩⟩
    · exact rest (.ref cp0) .non _ ⟨cp0, us0, ct0, rfl, rfl, gr0.kept Ka ocp0, okc0, fcp0, Sa.mono (by omega), K4.trans Ka⟩
  obtain ⟨cp, us0, ct0, rfl, rfl, gr0, okc0, fcp, SL, KL⟩ := hP2
  have ocp : cp ∉ [b] := S3.out fcp
  have nbcp : b ≠ cp := S3.ne fcp
  refine ⟨4, rfl, by decide, by decide, ?_⟩
  refine for_range (lo := 0) (n := (4 : Int).toNat) (fun k σ H' => (∃ y4 y5 y6 y7 y8, σ = [some (.ref b), some (.ref tp), some (.ref p), some (.ref cp), y4, y5, y6, y7, y8]) ∧ (∃ us ct, Grow K [b] H' cp us (ct.map rowsD) ∧ ContOk 10 ts ct) ∧ BoxAt H' b (2000 + 3 * k) ∧ Kept [b] H3 H')
    ⟨⟨_, _, _, _, _, rfl⟩, ⟨us0, ct0, gr0, okc0⟩, SL, KL⟩ (fun k σ Hk hk hP2 => ?_) (fun σ Hk hP2 => ?_)
  rotate_left
  · obtain ⟨⟨y4, y5, y6, y7, y8, rfl⟩, _, _, kk⟩ := hP2
    exact q _ (K03.trans kk)
  clear gr0 okc0 SL KL
  obtain ⟨⟨y4, y5, y6, y7, y8, rfl⟩, ⟨us, ct, gr, okc⟩, Sk, kk⟩ := hP2
  have lct : ct.length ≤ 900 := by rw [okc.len]; omega
  have hk4 : k < 4 := hk
  dsimp only [List.set]
  refine ⟨.ref b, rfl, .ref cp, rfl, b, cp, _, ct, rfl, Sk, by omega, gr.done ocp, lct, (fun rs hrs => Nat.le_trans (okc.few rs hrs) (by decide)), fun v o i r H5 dv S5 K5 => ?_⟩
  have k35 := kk.trans K5
  have gr5 := gr.kept K5 ocp
  have shw := both_shows T3 hes (by omega) okc (by omega) o i r
  have dpV : ∀ {H' : Hp}, Kept [b] H5 H' → Dp K H' v (handD o i r ct) := fun {H'} k => dp_same ((msk_same k).trans (msk_sub [b] H')) dv
  refine ⟨.ref p, rfl, v, rfl, (by show 2 ≤ sizeLine; decide), fun L nL => ?_⟩
  have kL : Kept [b] H5 (upd H5 L (.lst [.ref p, v])) := Kept.upd_new nL
  refine ⟨.ref L, _, rfl, .lst (.inl (.inl upd_same)) (.cons (dpP (k35.trans kL)) (.cons (dpV kL) .nil)), shw.sh, shw.nd, shw.dp, shw.sz, ?_⟩
  have S6 := S5.same (same_upd (o := .lst [.ref p, v]) nL)
  generalize hText : (PyData.list [planD ts es, handD o i r ct]).shown = text
  dsimp only [List.set]
  generalize upd H5 L (.lst [.ref p, v]) = H6 at kL S6 ⊢
  have k36 := k35.trans kL
  have gr6 := gr5.kept kL ocp
  have W6 : World2 K H6 p tp ep (.ref pe) v ts es o i r ct := ⟨sameT (m3 k36) hP, T3.same (m3 k36), dp_same (m3 k36) dep3, hes, dpV kL, (cont_all okts okc).1, (fun rs hrs => Nat.le_trans (okc.few rs hrs) (by decide)), by omega⟩
  refine ⟨.ref p, rfl, .ref cp, rfl, v, rfl, p, tp, ep, .ref pe, v, cp, ts, es, o, i, r, ct, rfl, W6, dp_same (msk_sub [b] H6) (gr6.done ocp), fun H7 s7 => ⟨_, rfl, iteF ?_⟩⟩
  have k57 : Kept [b] H5 H7 := kL.trans (Kept.of_same s7)
  refine ⟨.ref p, rfl, v, rfl, (by show 2 ≤ sizeLine; decide), fun L2 nL2 => ?_⟩
  have kL2 : Kept [b] H5 (upd H7 L2 (.lst [.ref p, v])) := k57.trans (Kept.upd_new nL2)
  have S8 := (S6.same s7).same (same_upd (o := .lst [.ref p, v]) nL2)
  refine ⟨.ref L2, _, rfl, .lst (.inl (.inl upd_same)) (.cons (dpP (k35.trans kL2)) (.cons (dpV kL2) .nil)), shw.sh, shw.nd, shw.dp, shw.sz, .str text, rfl, rfl, _, rfl, ?_⟩
  rw [hText, decide_eq_true rfl]
  refine iteF ?_
  generalize upd H7 L2 (.lst [.ref p, v]) = H8 at kL2 S8 ⊢
  have k38 := k35.trans kL2
  have gr8 := gr5.kept kL2 ocp
  have lus : us.length = ts.length := by rw [gr.len, List.length_map, okc.len]
  refine ⟨.ref b, rfl, .ref cp, rfl, cp, us, rfl, .inl (.inl (.inl gr8.at')), b, _, _, rfl, S8, by omega, by omega, by omega, fun d H9 d0 d1 S9 K9 => ?_⟩
  obtain ⟨n, rfl⟩ := Int.eq_ofNat_of_zero_le d0
  have hn : n < us.length := by omega
  obtain ⟨tb, htb⟩ : ∃ tb, ts[n]? = some tb := ⟨_, List.getElem?_eq_getElem (by omega)⟩
  obtain ⟨x, hx⟩ : ∃ x, us[n]? = some x := ⟨_, List.getElem?_eq_getElem hn⟩
  have gr9 := gr8.kept K9 ocp
  have k39 := k38.trans K9
  obtain ⟨rs, hrs, hd⟩ := cont_at gr9.dp hx
  obtain ⟨rp, ys, rfl, hRP, hRA, lys⟩ := rows_dp hd
  have lrs := okc.few rs (List.mem_of_getElem? hrs)
  have sub9 := msk_sub [cp, b] H9
  dsimp only [List.set]
  refine ⟨.ref b, rfl, .ref cp, rfl, .int (n : Int), rfl, cp, us, _, .ref rp, rfl, rfl, .inl (.inl gr9.at'), atI_nat hx, rp, ys, rfl, .inl (sameL sub9 hRP), _, _, rfl, rfl, b, _, _, rfl, S9, by omega, by omega, by omega, fun e Ha e0 e1 Sa Ka => ?_⟩
  obtain ⟨m, rfl⟩ := Int.eq_ofNat_of_zero_le e0
  have gra := gr9.kept Ka ocp
  have k3a := k39.trans Ka
  have ma := msk_same (M := [cp, b]) (Ka.mono fun p h => List.mem_cons_of_mem _ h)
  have hRPa := sameL ma hRP
  have hRAa := dpAll_same ma hRA
  have suba := msk_sub [cp, b] Ha
  dsimp only [List.set]
  refine ⟨.ref cp, rfl, .int (n : Int), rfl, cp, us, _, .ref rp, rfl, rfl, .inl (.inl gra.at'), atI_nat hx, .int (m : Int), rfl, _, rfl, rp, ys, rfl, sameL suba hRPa, fun L1 nL1 => ?_⟩
  have s1 := same_upd (o := .lst (cutV ys none (some (m : Int)))) nL1
  refine ⟨.ref cp, rfl, .int (n : Int), rfl, cp, us, _, .ref rp, rfl, rfl, .inl (.inl (s1 _ _ gra.at')), atI_nat hx, .int (m : Int), rfl, _, _, rfl, rfl, _, rfl, rp, ys, rfl, sameL (suba.trans s1) hRPa, fun L2 nL2 => ?_⟩
  have n12 : L1 ≠ L2 := ne_of_none upd_same nL2
  have l1 := cutV_length ys none (some (m : Int))
  have l2 := cutV_length ys (some ((m : Int) + 1)) none
  refine ⟨L1, L2, _, _, rfl, rfl, (by rw [upd_ne n12]; exact upd_same), upd_same, Nat.le_of_lt (small1000 (by omega)), fun L3 nL3 => ?_⟩
  have sab := s1.trans ((same_upd (o := .lst (cutV ys (some ((m : Int) + 1)) none)) nL2).trans (same_upd (o := .lst (cutV ys none (some (m : Int)) ++ cutV ys (some ((m : Int) + 1)) none)) nL3))
  have eL3 : (upd (upd (upd Ha L1 (.lst (cutV ys none (some (m : Int))))) L2 (.lst (cutV ys (some ((m : Int) + 1)) none))) L3 (.lst (cutV ys none (some (m : Int)) ++ cutV ys (some ((m : Int) + 1)) none))) L3 = some (.lst (ys.take m ++ ys.drop (m + 1))) := by
    rw [upd_same, cutV_lo, show cutV ys (some ((m : Int) + 1)) none = ys.drop (m + 1) from cutV_hi _ _]
  have fL3 : Ha L3 = none := Same.free (s1.trans (same_upd nL2)) nL3
  generalize upd (upd (upd Ha L1 (.lst (cutV ys none (some (m : Int))))) L2 (.lst (cutV ys (some ((m : Int) + 1)) none))) L3 (.lst (cutV ys none (some (m : Int)) ++ cutV ys (some ((m : Int) + 1)) none)) = Hb at sab eL3 ⊢
  have ncL : cp ≠ L3 := ne_of_none gra.at' fL3
  have nbL : b ≠ L3 := Sa.ne fL3
  have grb := gra.kept (Kept.of_same sab) ocp
  have mb := msk_same (M := [cp, b]) (Kept.of_same sab)
  have dL : Dp K (msk [cp, b] Hb) (.ref L3) (rowsD (rs.take m ++ rs.drop (m + 1))) := by
    refine .lst (.inl (.inl (msk_at eL3 (by simp [ncL.symm, nbL.symm])))) ?_
    rw [List.map_append, List.map_take, List.map_drop]
    exact dpAll_app (dpAll_take m (dpAll_same mb hRAa)) (dpAll_drop (m + 1) (dpAll_same mb hRAa))
  refine ⟨.ref cp, rfl, .int (n : Int), rfl, cp, us, _, n, rfl, rfl, grb.at', ixN_nat hn, ⟨_, _, _, _, _, rfl⟩, ⟨us.set n (.ref L3), ct.set n (rs.take m ++ rs.drop (m + 1)), ⟨upd_same, ?_⟩, okc.set htb ((okc.rows n tb rs htb hrs).sub (cut_sub rs m)) (Nat.le_trans (cut_sub rs m).length_le lrs)⟩, ?_, ?_⟩
  · rw [List.map_set]
    exact dpAll_same (msk_same (Kept.upd_in (List.mem_cons_self ..))) (dpAll_set dL n grb.dp)
  · exact ((Sa.same sab).kept (Kept.upd_in (M := [cp]) (List.mem_cons_self ..)) (by simp [nbcp])).mono (by omega)
  · exact (((k3a.trans (Kept.of_same sab)).mono fun p h => List.mem_cons_of_mem _ h).trans (Kept.upd_in (M := cp :: [b]) (List.mem_cons_self ..))).new fcp
def spLaw (K : PySem.W.Frag) : Sp := fun vs H Q _ => ∃ (a : Addr) (ns : List Int), vs = [.ref a] ∧ SqL K H a (ns.map V.int) ∧ ∀ H', Q (.bl true) H'
abbrev s_law : Stmt := topS 29
abbrev N_law : List Str := ["script", "k"]
theorem sc_law : FnScope N_law ["script"] (defScope s_law) := ⟨rfl, rfl, rfl, by decide +kernel, rfl, by decide +kernel, by decide +kernel⟩

set_option maxHeartbeats 4000000 in
theorem ok_law {f : Addr} {fd : FuncData} (F : Fun K "law" "law" s_law f fd) (nb : NB mg) (D_law_box : Def P w K mg base 1 "_law_box" ["script", "k"] (spBox K)) (D_law_right : DefG P w K mg base 9 "_law_right" ["box"] (spRight K)) :
    FnG P w K mg base CX0 10 f fd ["script"] (spLaw K) := by
  refine okG F sc_law (fun vs H Q E h => ?_) (fun cdv A outer sh H vs Q E hr hg h => ?_)
  · obtain ⟨a, ns, rfl, _⟩ := h
    rfl
  obtain ⟨a, ns, rfl, hS, q⟩ := h
  have nd := sc_law.nd
  refine ⟨_, (pss_one (ps_ret (pe_callB (cr_all rfl) (by rfl) nb.b_all (by decide +kernel) (pa_cons (pe_lc (own := [("k", 1)]) (g := (gName 1)) (tt := tYes) rfl nd (pi_range1 (by rfl) nb.b_range (pa_cons (pe_op op_add pe_int (pe_callB (call_min2 rfl) (by rfl) nb.b_min (by decide +kernel) (pa_cons pe_int (pa_cons (pe_callB call_len_seq (by rfl) nb.b_len (by decide +kernel) (pa_cons (pv 0) pa_nil)) pa_nil)))) pa_nil)) (blkOk_by (N := N_law) (sc := defScope s_law) (by decide +kernel)) (fun _ _ _ _ _ => (pg_name (i := 1) nd rfl (Or.inl rfl))) (fun _ _ _ _ _ => pts_nil) (fun _ _ _ _ _ => (pe_ownG D_law_right hg hr (pa_cons (pe_own D_law_box hr (pa_cons (pv 0) (pa_cons (pv 1) pa_nil))) pa_nil)))) pa_nil)))), ?_⟩
  have hb : 1 ≤ 1 + (if (((ns.map V.int).length : Nat) : Int) < 4 then (((ns.map V.int).length : Nat) : Int) else 4) ∧ 1 + (if (((ns.map V.int).length : Nat) : Int) < 4 then (((ns.map V.int).length : Nat) : Int) else 4) ≤ 5 := by split <;> omega
  refine ⟨.ref a, rfl, a, ns.map V.int, rfl, .inl hS, _, _, rfl, _, _, rfl, rfl, _, rfl, by omega, by omega, fun D nD => ?_⟩
  generalize 1 + (if (((ns.map V.int).length : Nat) : Int) < 4 then (((ns.map V.int).length : Nat) : Int) else 4) = e at hb ⊢
  refine lc_range (lo := 0) (n := e.toNat) (fun j H' => H' D = some (.lst ((List.replicate j true).map V.bl)) ∧ Kept [D] H H') ⟨upd_same, Kept.upd_new nD⟩ (fun j H1 hj hP => ?_) (fun H1 hP => ?_)
  · obtain ⟨eD, k1⟩ := hP
    refine ⟨rfl, ?_⟩
    unfold tYes
    dsimp only
    refine iteT ?_
    refine ⟨.ref a, rfl, .int (0 + (j : Int)), rfl, a, ns, j, (by rw [Int.zero_add]; rfl), sameL (kept_same k1 nD) hS, by omega, fun b H2 nb S2 s2 => ⟨b, rfl, S2, fun H3 k3 => ?_⟩⟩
    have s13 : Same H1 H3 := kept_same ((Kept.of_same s2).trans k3) nb
    have eD3 := s13 _ _ eD
    refine ⟨_, eD3, (by rw [List.length_map, List.length_replicate]; exact small1000 (by omega)), ?_, k1.trans ((Kept.of_same s13).trans (Kept.upd_in (List.mem_cons_self ..)))⟩
    rw [upd_same, List.replicate_succ', List.map_append]; rfl
  · obtain ⟨eD, k1⟩ := hP
    refine ⟨D, List.replicate e.toNat true, rfl, .inl (.inl eD), ?_⟩
    rw [all_true]
    exact q _
end
end TT

set_option Elab.async false
set_option linter.all false
set_option maxRecDepth 100000
namespace TT
open PySem PySem.Spec PyProof.Rows L2
/-! ### what the top has written; the law's own head -/
theorem all_mk {l : PySem.W.OpenLaw} {w : World} {K : PySem.W.Frag} {h : Heap} {mg : Str → Option Value} {fa Dk f1 f2 f3 f4 f5 f6 f7 f8 f9 f10 f11 f12 f13 f14 f15 f16 f17 f18 f19 f20 f21 f22 f23 f24 : Addr} (X : K.In h) (G : h.Ns mainGlobals mg) (hfa : mg "law" = some (.ref fa))
    {od1 an1 od2 an2 od3 an3 od4 an4 od5 an5 od6 an6 od7 an7 od8 an8 od9 an9 od10 an10 od11 an11 od12 an12 od13 an13 od14 an14 od15 an15 od16 an16 od17 an17 od18 an18 od19 an19 od20 an20 od21 an21 od22 an22 od23 an23 od24 an24 : Option Addr} {sl1 sl2 sl3 sl4 sl5 sl6 sl7 sl8 sl9 sl10 sl11 sl12 sl13 sl14 sl15 sl16 sl17 sl18 sl19 sl20 sl21 sl22 sl23 sl24 : Array (Option Value)} {oc1 dc1 pm1 cd1 ct1 kV1 oc2 dc2 pm2 cd2 ct2 kV2 oc3 dc3 pm3 cd3 ct3 kV3 oc4 dc4 pm4 cd4 ct4 kV4 oc5 dc5 pm5 cd5 ct5 kV5 oc6 dc6 pm6 cd6 ct6 kV6 oc7 dc7 pm7 cd7 ct7 kV7 oc8 dc8 pm8 cd8 ct8 kV8 oc9 dc9 pm9 cd9 ct9 kV9 oc10 dc10 pm10 cd10 ct10 kV10 oc11 dc11 pm11 cd11 ct11 kV11 oc12 dc12 pm12 cd12 ct12 kV12 oc13 dc13 pm13 cd13 ct13 kV13 oc14 dc14 pm14 cd14 ct14 kV14 oc15 dc15 pm15 cd15 ct15 kV15 oc16 dc16 pm16 cd16 ct16 kV16 oc17 dc17 pm17 cd17 ct17 oc18 dc18 pm18 cd18 ct18 kV18 oc19 dc19 pm19 cd19 ct19 kV19 oc20 dc20 pm20 cd20 ct20 kV20 oc21 dc21 pm21 cd21 ct21 kV21 oc22 dc22 pm22 cd22 ct22 kV22 oc23 dc23 pm23 cd23 ct23 kV23 oc24 dc24 pm24 cd24 ct24 kV24 : Value}
    (a1 : PySem.W.nsIn K mainGlobals "_law_box" = some (some (.ref f1))) (l1 : K.lookup f1 = some ⟨oc1, od1, .func (PySem.W.fnOf "_law_box" "_law_box" (defArgs s_law_box) (defBody s_law_box) (defScope s_law_box) .none kV1 dc1 pm1 an1 cd1 ct1), sl1⟩) (c1 : PySem.W.codeIn K cd1 "_law_box" = true) (k1 : PySem.W.keepIn K (.ref f1) = true)
    (a2 : PySem.W.nsIn K mainGlobals "_law_take" = some (some (.ref f2))) (l2 : K.lookup f2 = some ⟨oc2, od2, .func (PySem.W.fnOf "_law_take" "_law_take" (defArgs s_law_take) (defBody s_law_take) (defScope s_law_take) .none kV2 dc2 pm2 an2 cd2 ct2), sl2⟩) (c2 : PySem.W.codeIn K cd2 "_law_take" = true) (k2 : PySem.W.keepIn K (.ref f2) = true)
    (a3 : PySem.W.nsIn K mainGlobals "_law_names" = some (some (.ref f3))) (l3 : K.lookup f3 = some ⟨oc3, od3, .func (PySem.W.fnOf "_law_names" "_law_names" (defArgs s_law_names) (defBody s_law_names) (defScope s_law_names) .none kV3 dc3 pm3 an3 cd3 ct3), sl3⟩) (c3 : PySem.W.codeIn K cd3 "_law_names" = true) (k3 : PySem.W.keepIn K (.ref f3) = true)
    (a4 : PySem.W.nsIn K mainGlobals "_law_tables" = some (some (.ref f4))) (l4 : K.lookup f4 = some ⟨oc4, od4, .func (PySem.W.fnOf "_law_tables" "_law_tables" (defArgs s_law_tables) (defBody s_law_tables) (defScope s_law_tables) .none kV4 dc4 pm4 an4 cd4 ct4), sl4⟩) (c4 : PySem.W.codeIn K cd4 "_law_tables" = true) (k4 : PySem.W.keepIn K (.ref f4) = true)
    (a5 : PySem.W.nsIn K mainGlobals "table_names" = some (some (.ref f5))) (l5 : K.lookup f5 = some ⟨oc5, od5, .func (PySem.W.fnOf "table_names" "table_names" (defArgs s_table_names) (defBody s_table_names) (defScope s_table_names) .none kV5 dc5 pm5 an5 cd5 ct5), sl5⟩) (c5 : PySem.W.codeIn K cd5 "table_names" = true) (k5 : PySem.W.keepIn K (.ref f5) = true)
    (a6 : PySem.W.nsIn K mainGlobals "_columns_of" = some (some (.ref f6))) (l6 : K.lookup f6 = some ⟨oc6, od6, .func (PySem.W.fnOf "_columns_of" "_columns_of" (defArgs s_columns_of) (defBody s_columns_of) (defScope s_columns_of) .none kV6 dc6 pm6 an6 cd6 ct6), sl6⟩) (c6 : PySem.W.codeIn K cd6 "_columns_of" = true) (k6 : PySem.W.keepIn K (.ref f6) = true)
    (a7 : PySem.W.nsIn K mainGlobals "column_names" = some (some (.ref f7))) (l7 : K.lookup f7 = some ⟨oc7, od7, .func (PySem.W.fnOf "column_names" "column_names" (defArgs s_column_names) (defBody s_column_names) (defScope s_column_names) .none kV7 dc7 pm7 an7 cd7 ct7), sl7⟩) (c7 : PySem.W.codeIn K cd7 "column_names" = true) (k7 : PySem.W.keepIn K (.ref f7) = true)
    (a8 : PySem.W.nsIn K mainGlobals "column_place" = some (some (.ref f8))) (l8 : K.lookup f8 = some ⟨oc8, od8, .func (PySem.W.fnOf "column_place" "column_place" (defArgs s_column_place) (defBody s_column_place) (defScope s_column_place) .none kV8 dc8 pm8 an8 cd8 ct8), sl8⟩) (c8 : PySem.W.codeIn K cd8 "column_place" = true) (k8 : PySem.W.keepIn K (.ref f8) = true)
    (a9 : PySem.W.nsIn K mainGlobals "table_place" = some (some (.ref f9))) (l9 : K.lookup f9 = some ⟨oc9, od9, .func (PySem.W.fnOf "table_place" "table_place" (defArgs s_table_place) (defBody s_table_place) (defScope s_table_place) .none kV9 dc9 pm9 an9 cd9 ct9), sl9⟩) (c9 : PySem.W.codeIn K cd9 "table_place" = true) (k9 : PySem.W.keepIn K (.ref f9) = true)
    (a10 : PySem.W.nsIn K mainGlobals "rows_of" = some (some (.ref f10))) (l10 : K.lookup f10 = some ⟨oc10, od10, .func (PySem.W.fnOf "rows_of" "rows_of" (defArgs s_rows_of) (defBody s_rows_of) (defScope s_rows_of) .none kV10 dc10 pm10 an10 cd10 ct10), sl10⟩) (c10 : PySem.W.codeIn K cd10 "rows_of" = true) (k10 : PySem.W.keepIn K (.ref f10) = true)
    (a11 : PySem.W.nsIn K mainGlobals "_law_ties" = some (some (.ref f11))) (l11 : K.lookup f11 = some ⟨oc11, od11, .func (PySem.W.fnOf "_law_ties" "_law_ties" (defArgs s_law_ties) (defBody s_law_ties) (defScope s_law_ties) .none kV11 dc11 pm11 an11 cd11 ct11), sl11⟩) (c11 : PySem.W.codeIn K cd11 "_law_ties" = true) (k11 : PySem.W.keepIn K (.ref f11) = true)
    (a12 : PySem.W.nsIn K mainGlobals "_law_place" = some (some (.ref f12))) (l12 : K.lookup f12 = some ⟨oc12, od12, .func (PySem.W.fnOf "_law_place" "_law_place" (defArgs s_law_place) (defBody s_law_place) (defScope s_law_place) .none kV12 dc12 pm12 an12 cd12 ct12), sl12⟩) (c12 : PySem.W.codeIn K cd12 "_law_place" = true) (k12 : PySem.W.keepIn K (.ref f12) = true)
    (a13 : PySem.W.nsIn K mainGlobals "_law_column" = some (some (.ref f13))) (l13 : K.lookup f13 = some ⟨oc13, od13, .func (PySem.W.fnOf "_law_column" "_law_column" (defArgs s_law_column) (defBody s_law_column) (defScope s_law_column) .none kV13 dc13 pm13 an13 cd13 ct13), sl13⟩) (c13 : PySem.W.codeIn K cd13 "_law_column" = true) (k13 : PySem.W.keepIn K (.ref f13) = true)
    (a14 : PySem.W.nsIn K mainGlobals "leans_by" = some (some (.ref f14))) (l14 : K.lookup f14 = some ⟨oc14, od14, .func (PySem.W.fnOf "leans_by" "leans_by" (defArgs s_leans_by) (defBody s_leans_by) (defScope s_leans_by) .none kV14 dc14 pm14 an14 cd14 ct14), sl14⟩) (c14 : PySem.W.codeIn K cd14 "leans_by" = true) (k14 : PySem.W.keepIn K (.ref f14) = true)
    (a15 : PySem.W.nsIn K mainGlobals "_law_handed" = some (some (.ref f15))) (l15 : K.lookup f15 = some ⟨oc15, od15, .func (PySem.W.fnOf "_law_handed" "_law_handed" (defArgs s_law_handed) (defBody s_law_handed) (defScope s_law_handed) .none kV15 dc15 pm15 an15 cd15 ct15), sl15⟩) (c15 : PySem.W.codeIn K cd15 "_law_handed" = true) (k15 : PySem.W.keepIn K (.ref f15) = true)
    (a16 : PySem.W.nsIn K mainGlobals "_law_content" = some (some (.ref f16))) (l16 : K.lookup f16 = some ⟨oc16, od16, .func (PySem.W.fnOf "_law_content" "_law_content" (defArgs s_law_content) (defBody s_law_content) (defScope s_law_content) .none kV16 dc16 pm16 an16 cd16 ct16), sl16⟩) (c16 : PySem.W.codeIn K cd16 "_law_content" = true) (k16 : PySem.W.keepIn K (.ref f16) = true)
    (a17 : PySem.W.nsIn K mainGlobals "loose" = some (some (.ref f17))) (l17 : K.lookup f17 = some ⟨oc17, od17, .func (PySem.W.fnOf "loose" "loose" (defArgs s_loose) (defBody s_loose) (defScope s_loose) .none (.ref Dk) dc17 pm17 an17 cd17 ct17), sl17⟩) (c17 : PySem.W.codeIn K cd17 "loose" = true) (k17 : PySem.W.keepIn K (.ref f17) = true)
    (gw : PySem.W.nsIn K Dk "when" = some (some .none))
    (a18 : PySem.W.nsIn K mainGlobals "holds" = some (some (.ref f18))) (l18 : K.lookup f18 = some ⟨oc18, od18, .func (PySem.W.fnOf "holds" "holds" (defArgs s_holds) (defBody s_holds) (defScope s_holds) .none kV18 dc18 pm18 an18 cd18 ct18), sl18⟩) (c18 : PySem.W.codeIn K cd18 "holds" = true) (k18 : PySem.W.keepIn K (.ref f18) = true)
    (a19 : PySem.W.nsIn K mainGlobals "_law_loose" = some (some (.ref f19))) (l19 : K.lookup f19 = some ⟨oc19, od19, .func (PySem.W.fnOf "_law_loose" "_law_loose" (defArgs s_law_loose) (defBody s_law_loose) (defScope s_law_loose) .none kV19 dc19 pm19 an19 cd19 ct19), sl19⟩) (c19 : PySem.W.codeIn K cd19 "_law_loose" = true) (k19 : PySem.W.keepIn K (.ref f19) = true)
    (a20 : PySem.W.nsIn K mainGlobals "_law_same" = some (some (.ref f20))) (l20 : K.lookup f20 = some ⟨oc20, od20, .func (PySem.W.fnOf "_law_same" "_law_same" (defArgs s_law_same) (defBody s_law_same) (defScope s_law_same) .none kV20 dc20 pm20 an20 cd20 ct20), sl20⟩) (c20 : PySem.W.codeIn K cd20 "_law_same" = true) (k20 : PySem.W.keepIn K (.ref f20) = true)
    (a21 : PySem.W.nsIn K mainGlobals "_law_told_right" = some (some (.ref f21))) (l21 : K.lookup f21 = some ⟨oc21, od21, .func (PySem.W.fnOf "_law_told_right" "_law_told_right" (defArgs s_law_told_right) (defBody s_law_told_right) (defScope s_law_told_right) .none kV21 dc21 pm21 an21 cd21 ct21), sl21⟩) (c21 : PySem.W.codeIn K cd21 "_law_told_right" = true) (k21 : PySem.W.keepIn K (.ref f21) = true)
    (a22 : PySem.W.nsIn K mainGlobals "_law_tied" = some (some (.ref f22))) (l22 : K.lookup f22 = some ⟨oc22, od22, .func (PySem.W.fnOf "_law_tied" "_law_tied" (defArgs s_law_tied) (defBody s_law_tied) (defScope s_law_tied) .none kV22 dc22 pm22 an22 cd22 ct22), sl22⟩) (c22 : PySem.W.codeIn K cd22 "_law_tied" = true) (k22 : PySem.W.keepIn K (.ref f22) = true)
    (a23 : PySem.W.nsIn K mainGlobals "_law_right" = some (some (.ref f23))) (l23 : K.lookup f23 = some ⟨oc23, od23, .func (PySem.W.fnOf "_law_right" "_law_right" (defArgs s_law_right) (defBody s_law_right) (defScope s_law_right) .none kV23 dc23 pm23 an23 cd23 ct23), sl23⟩) (c23 : PySem.W.codeIn K cd23 "_law_right" = true) (k23 : PySem.W.keepIn K (.ref f23) = true)
    (a24 : PySem.W.nsIn K mainGlobals "law" = some (some (.ref f24))) (l24 : K.lookup f24 = some ⟨oc24, od24, .func (PySem.W.fnOf "law" "law" (defArgs s_law) (defBody s_law) (defScope s_law) .none kV24 dc24 pm24 an24 cd24 ct24), sl24⟩) (c24 : PySem.W.codeIn K cd24 "law" = true) (k24 : PySem.W.keepIn K (.ref f24) = true)
    (z_list : PySem.W.nsIn K mainGlobals "list" = some none)
    (z_len : PySem.W.nsIn K mainGlobals "len" = some none)
    (z_divmod : PySem.W.nsIn K mainGlobals "divmod" = some none)
    (z_range : PySem.W.nsIn K mainGlobals "range" = some none)
    (z_min : PySem.W.nsIn K mainGlobals "min" = some none)
    (z_int : PySem.W.nsIn K mainGlobals "int" = some none)
    (z_bool : PySem.W.nsIn K mainGlobals "bool" = some none)
    (z_str : PySem.W.nsIn K mainGlobals "str" = some none)
    (z_tuple : PySem.W.nsIn K mainGlobals "tuple" = some none)
    (z_all : PySem.W.nsIn K mainGlobals "all" = some none)
    (z_any : PySem.W.nsIn K mainGlobals "any" = some none)
    (z_repr : PySem.W.nsIn K mainGlobals "repr" = some none)
    (z_isinstance : PySem.W.nsIn K mainGlobals "isinstance" = some none)
    (z_zip : PySem.W.nsIn K mainGlobals "zip" = some none)
    (z_enumerate : PySem.W.nsIn K mainGlobals "enumerate" = some none)
    (z_set : PySem.W.nsIn K mainGlobals "set" = some none)
    (z_sum : PySem.W.nsIn K mainGlobals "sum" = some none)
    (z_sorted : PySem.W.nsIn K mainGlobals "sorted" = some none)
    (z_max : PySem.W.nsIn K mainGlobals "max" = some none)
    (z_abs : PySem.W.nsIn K mainGlobals "abs" = some none)
    : ∃ fd : FuncData, (∀ (s : Shared) (v : Value), BindsTo s fd ⟨[v], []⟩ [("script", v)]) ∧ ∀ base : Heap, K.In base → base.Ns mainGlobals mg → FnG l.prog w K mg base CX0 10 fa fd ["script"] (spLaw K) := by
  have e := hfa.symm.trans (PySem.W.mg_of X G a24)
  cases e
  have nb : NB mg := ⟨PySem.W.mg_none_of X G z_list, PySem.W.mg_none_of X G z_len, PySem.W.mg_none_of X G z_divmod, PySem.W.mg_none_of X G z_range, PySem.W.mg_none_of X G z_min, PySem.W.mg_none_of X G z_int, PySem.W.mg_none_of X G z_bool, PySem.W.mg_none_of X G z_str, PySem.W.mg_none_of X G z_tuple, PySem.W.mg_none_of X G z_all, PySem.W.mg_none_of X G z_any, PySem.W.mg_none_of X G z_repr, PySem.W.mg_none_of X G z_isinstance, PySem.W.mg_none_of X G z_zip, PySem.W.mg_none_of X G z_enumerate, PySem.W.mg_none_of X G z_set, PySem.W.mg_none_of X G z_sum, PySem.W.mg_none_of X G z_sorted, PySem.W.mg_none_of X G z_max⟩
  have nx : NX mg := ⟨PySem.W.mg_none_of X G z_abs⟩
  refine ⟨PySem.W.fnOf "law" "law" (defArgs s_law) (defBody s_law) (defScope s_law) .none kV24 dc24 pm24 an24 cd24 ct24, fun s v => .of_eq rfl, fun base _ _ => ?_⟩
  have F1 := fun_mk (st := s_law_box) l1 c1 k1
  have b1 := F1.binds (ps := ["script", "k"]) fun _ _ _ _ _ _ us hl => match us, hl with | [_, _], _ => rfl
  have D_law_box : Def l.prog w K mg base 1 "_law_box" ["script", "k"] (spBox K) := .mk (PySem.W.mg_of X G a1) k1 b1 (ok_box F1 nb nx)
  have F2 := fun_mk (st := s_law_take) l2 c2 k2
  have b2 := F2.binds (ps := ["box", "many"]) fun _ _ _ _ _ _ us hl => match us, hl with | [_, _], _ => rfl
  have D_law_take : Def l.prog w K mg base 1 "_law_take" ["box", "many"] spTakeB := .mk (PySem.W.mg_of X G a2) k2 b2 (ok_take F2)
  have F3 := fun_mk (st := s_law_names) l3 c3 k3
  have b3 := F3.binds (ps := ["box", "many"]) fun _ _ _ _ _ _ us hl => match us, hl with | [_, _], _ => rfl
  have D_law_names : Def l.prog w K mg base 2 "_law_names" ["box", "many"] spNamesB := .mk (PySem.W.mg_of X G a3) k3 b3 (ok_names F3 nb D_law_take)
  have F4 := fun_mk (st := s_law_tables) l4 c4 k4
  have b4 := F4.binds (ps := ["box", "most"]) fun _ _ _ _ _ _ us hl => match us, hl with | [_, _], _ => rfl
  have D_law_tables : Def l.prog w K mg base 3 "_law_tables" ["box", "most"] (spTablesB K) := .mk (PySem.W.mg_of X G a4) k4 b4 (ok_tables F4 nb D_law_take D_law_names)
  have F5 := fun_mk (st := s_table_names) l5 c5 k5
  have b5 := F5.binds (ps := ["tables"]) fun _ _ _ _ _ _ us hl => match us, hl with | [_], _ => rfl
  have D_table_names : Def l.prog w K mg base 1 "table_names" ["tables"] (spNamesOf K) := .mk (PySem.W.mg_of X G a5) k5 b5 (ok_table_names F5)
  have F6 := fun_mk (st := s_columns_of) l6 c6 k6
  have b6 := F6.binds (ps := ["tables", "table"]) fun _ _ _ _ _ _ us hl => match us, hl with | [_, _], _ => rfl
  have D_columns_of : Def l.prog w K mg base 1 "_columns_of" ["tables", "table"] (spColumnsOf K) := .mk (PySem.W.mg_of X G a6) k6 b6 (ok_columns_of F6)
  have F7 := fun_mk (st := s_column_names) l7 c7 k7
  have b7 := F7.binds (ps := ["tables", "table"]) fun _ _ _ _ _ _ us hl => match us, hl with | [_, _], _ => rfl
  have D_column_names : Def l.prog w K mg base 2 "column_names" ["tables", "table"] (spColNames K) := .mk (PySem.W.mg_of X G a7) k7 b7 (ok_column_names F7 D_columns_of)
  have F8 := fun_mk (st := s_column_place) l8 c8 k8
  have b8 := F8.binds (ps := ["tables", "table", "column"]) fun _ _ _ _ _ _ us hl => match us, hl with | [_, _, _], _ => rfl
  have D_column_place : Def l.prog w K mg base 3 "column_place" ["tables", "table", "column"] (spColPlace K) := .mk (PySem.W.mg_of X G a8) k8 b8 (ok_column_place F8 D_column_names)
  have F9 := fun_mk (st := s_table_place) l9 c9 k9
  have b9 := F9.binds (ps := ["tables", "table"]) fun _ _ _ _ _ _ us hl => match us, hl with | [_, _], _ => rfl
  have D_table_place : Def l.prog w K mg base 2 "table_place" ["tables", "table"] (spTabPlace K) := .mk (PySem.W.mg_of X G a9) k9 b9 (ok_table_place F9 D_table_names)
  have F10 := fun_mk (st := s_rows_of) l10 c10 k10
  have b10 := F10.binds (ps := ["tables", "content", "table"]) fun _ _ _ _ _ _ us hl => match us, hl with | [_, _, _], _ => rfl
  have D_rows_of : Def l.prog w K mg base 3 "rows_of" ["tables", "content", "table"] (spRowsOf K) := .mk (PySem.W.mg_of X G a10) k10 b10 (ok_rows_of F10 nb D_table_place)
  have F11 := fun_mk (st := s_law_ties) l11 c11 k11
  have b11 := F11.binds (ps := ["box", "tables", "most"]) fun _ _ _ _ _ _ us hl => match us, hl with | [_, _, _], _ => rfl
  have D_law_ties : Def l.prog w K mg base 3 "_law_ties" ["box", "tables", "most"] (spTiesB K) := .mk (PySem.W.mg_of X G a11) k11 b11 (ok_law_ties F11 nb D_law_take D_law_names)
  have F12 := fun_mk (st := s_law_place) l12 c12 k12
  have b12 := F12.binds (ps := ["tables", "table"]) fun _ _ _ _ _ _ us hl => match us, hl with | [_, _], _ => rfl
  have D_law_place : Def l.prog w K mg base 1 "_law_place" ["tables", "table"] (spTabPlace K) := .mk (PySem.W.mg_of X G a12) k12 b12 (ok_law_place F12)
  have F13 := fun_mk (st := s_law_column) l13 c13 k13
  have b13 := F13.binds (ps := ["tables", "table", "column"]) fun _ _ _ _ _ _ us hl => match us, hl with | [_, _, _], _ => rfl
  have D_law_column : Def l.prog w K mg base 2 "_law_column" ["tables", "table", "column"] (spColPlace K) := .mk (PySem.W.mg_of X G a13) k13 b13 (ok_law_column F13 D_law_place)
  have F14 := fun_mk (st := s_leans_by) l14 c14 k14
  have b14 := F14.binds (ps := ["plan", "content", "tie"]) fun _ _ _ _ _ _ us hl => match us, hl with | [_, _, _], _ => rfl
  have D_leans_by : Def l.prog w K mg base 4 "leans_by" ["plan", "content", "tie"] (spLeansBy K) := .mk (PySem.W.mg_of X G a14) k14 b14 (ok_leans_by F14 D_column_place D_rows_of)
  have F15 := fun_mk (st := s_law_handed) l15 c15 k15
  have b15 := F15.binds (ps := ["box", "content"]) fun _ _ _ _ _ _ us hl => match us, hl with | [_, _], _ => rfl
  have D_law_handed : Def l.prog w K mg base 2 "_law_handed" ["box", "content"] (spHanded K) := .mk (PySem.W.mg_of X G a15) k15 b15 (ok_handed F15 nb D_law_take)
  have F16 := fun_mk (st := s_law_content) l16 c16 k16
  have b16 := F16.binds (ps := ["box", "tables", "ties", "most"]) fun _ _ _ _ _ _ us hl => match us, hl with | [_, _, _, _], _ => rfl
  have D_law_content : Def l.prog w K mg base 2 "_law_content" ["box", "tables", "ties", "most"] (spContentB K) := .mk (PySem.W.mg_of X G a16) k16 b16 (ok_law_content F16 nb D_law_take D_law_place)
  have F17 : FunD K "loose" "loose" (defArgs s_loose) (defBody s_loose) (defScope s_loose) [] [("when", .non)] f17 (PySem.W.fnOf "loose" "loose" (defArgs s_loose) (defBody s_loose) (defScope s_loose) .none (.ref Dk) dc17 pm17 an17 cd17 ct17) := ⟨⟨_, _, _, _, _, _, _, _, _, _, rfl, l17, c17, .inl ⟨rfl, rfl⟩, .inr ⟨Dk, rfl, fun q hq => by rw [List.mem_singleton.mp hq]; exact ⟨.none, gw, rfl⟩⟩⟩, k17⟩
  have O17 : FnOk l.prog w K mg base CX0 5 f17 _ ["plan", "content", "when"] (spLoose K) := (ok_loose F17 D_rows_of D_leans_by)
  have b17 : KBn K (PySem.W.fnOf "loose" "loose" (defArgs s_loose) (defBody s_loose) (defScope s_loose) .none (.ref Dk) dc17 pm17 an17 cd17 ct17) ["plan", "content", "when"] 2 ["when"] (fun us ws => us ++ ws) (fun us ws => us ++ ws) := ⟨fun s us ws _ hl hl2 => match us, ws, hl, hl2 with | [_, _], [_], _, _ => .of_eq rfl, vals_app⟩
  have D_loose : DefK l.prog w K mg base 5 "loose" ["plan", "content", "when"] 2 ["when"] (spLoose K) := ⟨f17, _, PySem.W.mg_of X G a17, k17, b17, O17⟩
  have D_loose_d : DefD l.prog w K mg base 5 "loose" ["plan", "content", "when"] .non (spLoose K) := by
    obtain ⟨ds, hd, hb⟩ := F17.binds0 (ps := ["plan", "content", "when"]) 2 (by simp) rfl fun D doc pm an cdv ct us ks h1 h2 => match us, ks, h1, h2 with | [_, _], [_], _, _ => ⟨_, _, _, _, _, _, rfl, rfl, rfl⟩
    exact ⟨f17, _, ds, PySem.W.mg_of X G a17, k17, hd, hb, O17⟩
  have F18 := fun_mk (st := s_holds) l18 c18 k18
  have b18 := F18.binds (ps := ["plan", "content"]) fun _ _ _ _ _ _ us hl => match us, hl with | [_, _], _ => rfl
  have D_holds : Def l.prog w K mg base 6 "holds" ["plan", "content"] (spHolds K) := .mk (PySem.W.mg_of X G a18) k18 b18 (ok_holds F18 D_loose_d)
  have F19 := fun_mk (st := s_law_loose) l19 c19 k19
  have b19 := F19.binds (ps := ["plan", "content", "times"]) fun _ _ _ _ _ _ us hl => match us, hl with | [_, _, _], _ => rfl
  have D_law_loose : Def l.prog w K mg base 3 "_law_loose" ["plan", "content", "times"] (spLawLoose K) := .mk (PySem.W.mg_of X G a19) k19 b19 (ok_law_loose F19 D_law_place D_law_column)
  have F20 := fun_mk (st := s_law_same) l20 c20 k20
  have b20 := F20.binds (ps := ["found", "due"]) fun _ _ _ _ _ _ us hl => match us, hl with | [_, _], _ => rfl
  have D_law_same : Def l.prog w K mg base 7 "_law_same" ["found", "due"] (spSame 6 K) := .mk (PySem.W.mg_of X G a20) k20 b20 (ok_same F20 nb (PySem.W.mg_of X G a20) b20 6)
  have F21 := fun_mk (st := s_law_told_right) l21 c21 k21
  have b21 := F21.binds (ps := ["plan", "content", "handed"]) fun _ _ _ _ _ _ us hl => match us, hl with | [_, _, _], _ => rfl
  have D_law_told_right : Def l.prog w K mg base 8 "_law_told_right" ["plan", "content", "handed"] (spToldRight K) := .mk (PySem.W.mg_of X G a21) k21 b21 (ok_told_right F21 nb D_loose D_loose_d D_holds D_law_loose D_law_same)
  have F22 := fun_mk (st := s_law_tied) l22 c22 k22
  have b22 := F22.binds (ps := ["plan", "content"]) fun _ _ _ _ _ _ us hl => match us, hl with | [_, _], _ => rfl
  have D_law_tied : Def l.prog w K mg base 3 "_law_tied" ["plan", "content"] (spTied K) := .mk (PySem.W.mg_of X G a22) k22 b22 (ok_law_tied F22 nb D_law_place D_law_column)
  have F23 := fun_mk (st := s_law_right) l23 c23 k23
  have b23 := F23.binds (ps := ["box"]) fun _ _ _ _ _ _ us hl => match us, hl with | [_], _ => rfl
  have D_law_right : DefG l.prog w K mg base 9 "_law_right" ["box"] (spRight K) := .mk (PySem.W.mg_of X G a23) k23 b23 (ok_right F23 nb D_law_take D_law_tables D_law_ties D_law_content D_law_handed D_law_tied D_law_told_right)
  have F24 := fun_mk (st := s_law) l24 c24 k24
  exact ok_law F24 nb D_law_box D_law_right
end TT
open PySem PySem.W PyProof.Rows
set_option maxRecDepth 100000 in
set_option maxHeartbeats 0 in
theorem PySem.Challenge.cw_tiedtables_k12_what_is_loose_holds : PySem.Challenge.rw_tiedtables_k12_what_is_loose.Holds := by
  w_on; o_law; k_head; (case hw => w_witness2)
  k_fill
  refine TT.walk_ofG (l := PySem.Challenge.rw_tiedtables_k12_what_is_loose) (n := 63) (k := 10) (x := "script") (sp := TT.spLaw) rfl (by decide) rfl ⟨rfl, by decide, by decide⟩ (fun w h Y => PySem.W.kIn_of Y) ?F (fun K H a ns hl hO hS => ⟨a, ns, rfl, hS, fun _ => rfl⟩)
  case F =>
    intro w mg fa h KX G hmg
    refine' TT.all_mk KX G hmg ?a1 ?l1 ?c1 ?k1 ?a2 ?l2 ?c2 ?k2 ?a3 ?l3 ?c3 ?k3 ?a4 ?l4 ?c4 ?k4 ?a5 ?l5 ?c5 ?k5 ?a6 ?l6 ?c6 ?k6 ?a7 ?l7 ?c7 ?k7 ?a8 ?l8 ?c8 ?k8 ?a9 ?l9 ?c9 ?k9 ?a10 ?l10 ?c10 ?k10 ?a11 ?l11 ?c11 ?k11 ?a12 ?l12 ?c12 ?k12 ?a13 ?l13 ?c13 ?k13 ?a14 ?l14 ?c14 ?k14 ?a15 ?l15 ?c15 ?k15 ?a16 ?l16 ?c16 ?k16 ?a17 ?l17 ?c17 ?k17 ?gw ?a18 ?l18 ?c18 ?k18 ?a19 ?l19 ?c19 ?k19 ?a20 ?l20 ?c20 ?k20 ?a21 ?l21 ?c21 ?k21 ?a22 ?l22 ?c22 ?k22 ?a23 ?l23 ?c23 ?k23 ?a24 ?l24 ?c24 ?k24 ?z_list ?z_len ?z_divmod ?z_range ?z_min ?z_int ?z_bool ?z_str ?z_tuple ?z_all ?z_any ?z_repr ?z_isinstance ?z_zip ?z_enumerate ?z_set ?z_sum ?z_sorted ?z_max ?z_abs
    (case a1 => k_is)
    (case l1 => k_is)
    (case c1 => k_is)
    (case k1 => k_is)
    (case a2 => k_is)
    (case l2 => k_is)
    (case c2 => k_is)
    (case k2 => k_is)
    (case a3 => k_is)
    (case l3 => k_is)
    (case c3 => k_is)
    (case k3 => k_is)
    (case a4 => k_is)
    (case l4 => k_is)
    (case c4 => k_is)
    (case k4 => k_is)
    (case a5 => k_is)
    (case l5 => k_is)
    (case c5 => k_is)
    (case k5 => k_is)
    (case a6 => k_is)
    (case l6 => k_is)
    (case c6 => k_is)
    (case k6 => k_is)
    (case a7 => k_is)
    (case l7 => k_is)
    (case c7 => k_is)
    (case k7 => k_is)
    (case a8 => k_is)
    (case l8 => k_is)
    (case c8 => k_is)
    (case k8 => k_is)
    (case a9 => k_is)
    (case l9 => k_is)
    (case c9 => k_is)
    (case k9 => k_is)
    (case a10 => k_is)
    (case l10 => k_is)
    (case c10 => k_is)
    (case k10 => k_is)
    (case a11 => k_is)
    (case l11 => k_is)
    (case c11 => k_is)
    (case k11 => k_is)
    (case a12 => k_is)
    (case l12 => k_is)
    (case c12 => k_is)
    (case k12 => k_is)
    (case a13 => k_is)
    (case l13 => k_is)
    (case c13 => k_is)
    (case k13 => k_is)
    (case a14 => k_is)
    (case l14 => k_is)
    (case c14 => k_is)
    (case k14 => k_is)
    (case a15 => k_is)
    (case l15 => k_is)
    (case c15 => k_is)
    (case k15 => k_is)
    (case a16 => k_is)
    (case l16 => k_is)
    (case c16 => k_is)
    (case k16 => k_is)
    (case a17 => k_is)
    (case l17 => k_is)
    (case c17 => k_is)
    (case k17 => k_is)
    (case gw => k_is)
    (case a18 => k_is)
    (case l18 => k_is)
    (case c18 => k_is)
    (case k18 => k_is)
    (case a19 => k_is)
    (case l19 => k_is)
    (case c19 => k_is)
    (case k19 => k_is)
    (case a20 => k_is)
    (case l20 => k_is)
    (case c20 => k_is)
    (case k20 => k_is)
    (case a21 => k_is)
    (case l21 => k_is)
    (case c21 => k_is)
    (case k21 => k_is)
    (case a22 => k_is)
    (case l22 => k_is)
    (case c22 => k_is)
    (case k22 => k_is)
    (case a23 => k_is)
    (case l23 => k_is)
    (case c23 => k_is)
    (case k23 => k_is)
    (case a24 => k_is)
    (case l24 => k_is)
    (case c24 => k_is)
    (case k24 => k_is)
    (case z_list => k_is)
    (case z_len => k_is)
    (case z_divmod => k_is)
    (case z_range => k_is)
    (case z_min => k_is)
    (case z_int => k_is)
    (case z_bool => k_is)
    (case z_str => k_is)
    (case z_tuple => k_is)
    (case z_all => k_is)
    (case z_any => k_is)
    (case z_repr => k_is)
    (case z_isinstance => k_is)
    (case z_zip => k_is)
    (case z_enumerate => k_is)
    (case z_set => k_is)
    (case z_sum => k_is)
    (case z_sorted => k_is)
    (case z_max => k_is)
    (case z_abs => k_is)
