import PyProof.Rows.All
import Wide.All
import OpenK.AllK
import Wide.FinOn
import HandS.ForMost
import HandS.Wide
import HandS.WideBits
import PyProof.ReprRoads
import PyProof.CallFns
import HandS.Walk
import HandS.Iter
import KE.GoesEnum
import PyProof.StrOps2
import HandS.TryOnly
import HandS.Exc
import HandS.ExcField
import HandS.IsInst
import KE.KExcIs
import HandS.ExcInit
import KE.KExcInit
import HandS.CallSlots
import HandS.WordsExc
import HandS.Style
import PySem.Challenge.RW_tiedtables_k07_what_deeds_do_by_themselv
import HandS.StrMore
import PyProof.Rows.IntBool
import PyProof.Rows.StrDigitsNeg
import PyProof.Rows.StrJoinMade
import PyProof.Rows.StrCase
import HandS.ExcIs
set_option Elab.async false
set_option linter.all false
set_option maxRecDepth 100000
namespace TT
open PySem PySem.Spec PyProof.Rows L2

/-! ### an own def of the module, by its name -/
def Def (P : Program) (w : World) (K : PySem.W.Frag) (mg : Str → Option Value) (base : Heap) (k : Nat) (x : Str) (ps : List Str) (sp : Sp) : Prop :=
  ∃ f fd, mg x = some (.ref f) ∧ PySem.W.keepIn K (.ref f) = true ∧ Binds K fd ps [] ∧ FnOk P w K mg base CX0 k f fd ps sp
section
variable {X : Cx} {k j : Nat} {x : Str} {ps : List Str} {sp : Sp} {p pos : Pos} {e : Expr} {es : List Expr} {t : TA}
theorem pe_own (D : Def X.prog X.w X.K X.mg X.base k x ps sp) (hr : Room j X.A) (ha : PA X (e :: es) t) (hkj : k ≤ j := by decide) (hg : Gl X x := by rfl) (hdb : (x == ("__debug__" : Str)) = false := by decide)
    (he : starEach (e :: es) X.env = (false, eval e X.env) :: starEach es X.env := by rfl) (hpl : (backTo pos (starEach es X.env)).any (·.1) = false := by rfl) :
    PE X (.Call (.Name x p) (e :: es) [] pos) (tCall sp [] E0 t) := by
  obtain ⟨f, fd, hm, hk, hb, F⟩ := D
  exact pe_call F (hr.mono hkj) hg hm hk hb .nil pass0 ha hdb he hpl
theorem pe_gint {i : Int} (h : ∃ u, X.mg x = some (.int i u)) (hg : Gl X x := by rfl) (hdb : (x == ("__debug__" : Str)) = false := by decide) : PE X (.Name x p) (tC (.int i)) := by
  obtain ⟨u, hm⟩ := h
  exact pe_glob hg hm ⟨u, rfl⟩ hdb
end
theorem Def.mk {P : Program} {w : World} {K : PySem.W.Frag} {mg : Str → Option Value} {base : Heap} {k : Nat} {x : Str} {ps : List Str} {sp : Sp} {f : Addr} {fd : FuncData} (h1 : mg x = some (.ref f)) (h2 : PySem.W.keepIn K (.ref f) = true) (h3 : Binds K fd ps []) (h4 : FnOk P w K mg base CX0 k f fd ps sp) : Def P w K mg base k x ps sp := ⟨f, fd, h1, h2, h3, h4⟩

/-- the built-in names stand as they are -/
structure NB (mg : Str → Option Value) : Prop where
  b_list : mg "list" = none
  b_len : mg "len" = none
  b_divmod : mg "divmod" = none
  b_range : mg "range" = none
  b_min : mg "min" = none
  b_int : mg "int" = none
  b_bool : mg "bool" = none
  b_str : mg "str" = none
  b_tuple : mg "tuple" = none
  b_all : mg "all" = none
  b_any : mg "any" = none
  b_repr : mg "repr" = none
  b_isinstance : mg "isinstance" = none
  b_zip : mg "zip" = none
  b_enumerate : mg "enumerate" = none
  b_set : mg "set" = none
  b_sum : mg "sum" = none
  b_sorted : mg "sorted" = none
  b_max : mg "max" = none

/-! ### masks: what is not to be leant on -/
def msk (M : List Addr) (H : Hp) : Hp := fun p => if p ∈ M then none else H p
/-- all but what stands at M is as it was -/
def Kept (M : List Addr) (H H' : Hp) : Prop := ∀ p o, H p = some o → p ∉ M → H' p = some o
theorem Kept.refl (M : List Addr) (H : Hp) : Kept M H H := fun _ _ h _ => h
theorem Kept.trans {M : List Addr} {H H1 H2 : Hp} (a : Kept M H H1) (b : Kept M H1 H2) : Kept M H H2 := fun p o h n => b p o (a p o h n) n
theorem Kept.of_same {M : List Addr} {H H' : Hp} (h : Same H H') : Kept M H H' := fun p o e _ => h p o e
theorem Kept.upd_new {M : List Addr} {H : Hp} {p : Addr} {o : HO} (h : H p = none) : Kept M H (upd H p o) := fun b u e _ => by
  rw [upd_ne (ne_of_none e h)]; exact e
theorem Kept.upd_in {M : List Addr} {H : Hp} {p : Addr} {o : HO} (h : p ∈ M) : Kept M H (upd H p o) := fun b u e n => by
  rw [upd_ne (fun (z : b = p) => n (by rw [z]; exact h))]; exact e
theorem Kept.mono {M M' : List Addr} {H H' : Hp} (h : Kept M H H') (s : ∀ p ∈ M, p ∈ M') : Kept M' H H' := fun p o e n => h p o e fun z => n (s p z)
/-- less is masked: what is masked no more was not there -/
theorem Kept.new {M : List Addr} {p : Addr} {H H' : Hp} (h : Kept (p :: M) H H') (n : H p = none) : Kept M H H' := fun b o e nb => h b o e fun z => by
  rcases List.mem_cons.mp z with rfl | z
  · rw [n] at e; cases e
  · exact nb z
theorem Kept.at {M : List Addr} {H H' : Hp} (h : Kept M H H') {p : Addr} {o : HO} (e : H p = some o) (n : p ∉ M) : H' p = some o := h p o e n
theorem msk_same {M : List Addr} {H H' : Hp} (h : Kept M H H') : Same (msk M H) (msk M H') := fun p o e => by
  unfold msk at e ⊢
  by_cases hp : p ∈ M
  · rw [if_pos hp] at e; cases e
  · rw [if_neg hp] at e ⊢; exact h p o e hp
theorem msk_sub (M : List Addr) (H : Hp) : Same (msk M H) H := fun p o e => by
  unfold msk at e
  by_cases hp : p ∈ M
  · rw [if_pos hp] at e; cases e
  · rw [if_neg hp] at e; exact e
/-- a new address may be masked, too -/
theorem msk_new {M : List Addr} {H : Hp} {p : Addr} (n : H p = none) : Same (msk M H) (msk (p :: M) H) := fun b o e => by
  have e' := msk_sub M H b o e
  unfold msk at e ⊢
  by_cases hp : b ∈ M
  · rw [if_pos hp] at e; cases e
  · rw [if_neg hp] at e
    rw [if_neg (fun z => by
      rcases List.mem_cons.mp z with rfl | z
      · rw [n] at e; cases e
      · exact hp z)]
    exact e
theorem msk_less {M M' : List Addr} {H : Hp} (s : ∀ p ∈ M', p ∈ M) : Same (msk M H) (msk M' H) := fun p o e => by
  unfold msk at e ⊢
  by_cases hp : p ∈ M
  · rw [if_pos hp] at e; cases e
  · rw [if_neg hp] at e
    rw [if_neg (fun z => hp (s p z))]; exact e

/-! ### data -/
theorem sameT {K : PySem.W.Frag} {H H' : Hp} {a : Addr} {xs : List V} (e : Same H H') (h : SqT K H a xs) : SqT K H' a xs := by
  rcases h with (h | ⟨o, h⟩) | h
  · exact .inl (.inl (e _ _ h))
  · exact .inl (.inr ⟨o, e _ _ h⟩)
  · exact .inr h
mutual
theorem dp_same {K : PySem.W.Frag} {H H' : Hp} (e : Same H H') : ∀ {d : PyData} {v : V}, Dp K H v d → Dp K H' v d
  | _, _, .non => .non
  | _, _, .bl b => .bl b
  | _, _, .int i => .int i
  | _, _, .str x => .str x
  | _, _, .lst h a => .lst (e.seq h) (dpAll_same e a)
  | _, _, .tup h a => .tup (sameT e h) (dpAll_same e a)
theorem dpAll_same {K : PySem.W.Frag} {H H' : Hp} (e : Same H H') : ∀ {ds : List PyData} {vs : List V}, DpAll K H vs ds → DpAll K H' vs ds
  | _, _, .nil => .nil
  | _, _, .cons h t => .cons (dp_same e h) (dpAll_same e t)
end
theorem dpAll_len {K : PySem.W.Frag} {H : Hp} : ∀ {ds : List PyData} {vs : List V}, DpAll K H vs ds → vs.length = ds.length
  | _, _, .nil => rfl
  | _, _, .cons _ t => congrArg (· + 1) (dpAll_len t)
theorem dpAll_get {K : PySem.W.Frag} {H : Hp} : ∀ {ds : List PyData} {vs : List V} (i : Nat) {v : V}, DpAll K H vs ds → vs[i]? = some v → ∃ d, ds[i]? = some d ∧ Dp K H v d
  | _, _, _, _, .nil, e => by simp at e
  | _, _, 0, _, .cons h _, e => by simp at e; subst e; exact ⟨_, rfl, h⟩
  | _, _, i + 1, v, .cons _ t, e => by
    obtain ⟨d, h1, h2⟩ := dpAll_get i (v := v) t (by simpa using e)
    exact ⟨d, by simpa using h1, h2⟩
theorem dpAll_app {K : PySem.W.Frag} {H : Hp} : ∀ {ds es : List PyData} {vs us : List V}, DpAll K H vs ds → DpAll K H us es → DpAll K H (vs ++ us) (ds ++ es)
  | _, _, _, _, .nil, s => s
  | _, _, _, _, .cons h t, s => .cons h (dpAll_app t s)
theorem dpAll_snoc {K : PySem.W.Frag} {H : Hp} {ds : List PyData} {d : PyData} {vs : List V} {v : V} (a : DpAll K H vs ds) (h : Dp K H v d) : DpAll K H (vs ++ [v]) (ds ++ [d]) := dpAll_app a (.cons h .nil)

/-! ### the state of the draws -/
def kCells : Key := Sum.inr "cells"
def kTurn : Key := Sum.inr "turn"
theorem kne : ¬ (kCells = kTurn) := by decide +kernel
def stD (c : Addr) (t : Int) : List (Key × V) := [(kCells, .ref c), (kTurn, .int t)]
theorem stD_cells (c : Addr) (t : Int) : valV (stD c t) kCells = some (.ref c) := valV_pos rfl
theorem stD_turn (c : Addr) (t : Int) : valV (stD c t) kTurn = some (.int t) := by
  unfold stD
  rw [valV_neg kne, valV_pos rfl]
theorem stD_put (c : Addr) (t i : Int) : putK (stD c t) kTurn (.int i) = stD c i := by
  have h1 : (decide (kCells = kTurn)) = false := decide_eq_false kne
  have h2 : (decide (kTurn = kTurn)) = true := decide_eq_true rfl
  simp [stD, putK, h1, h2, kne]
/-- a state of draws at s, its cells at c, at most T turns -/
structure StAt (H : Hp) (s c : Addr) (T : Nat) : Prop where
  ex : ∃ t : Int, (0 ≤ t ∧ t ≤ (T : Int)) ∧ H s = some (.dK (stD c t))
  cs : ∃ ns : List Int, 0 < ns.length ∧ ns.length ≤ 63 ∧ H c = some (.lst (ns.map V.int))
theorem StAt.mono {H : Hp} {s c : Addr} {T T' : Nat} (h : StAt H s c T) (l : T ≤ T') : StAt H s c T' := ⟨let ⟨t, a, b⟩ := h.ex; ⟨t, ⟨a.1, by omega⟩, b⟩, h.cs⟩
theorem StAt.ne {H : Hp} {s c : Addr} {T : Nat} (h : StAt H s c T) : s ≠ c := by
  obtain ⟨t, _, e⟩ := h.ex
  obtain ⟨ns, _, _, e2⟩ := h.cs
  exact ne_of e e2 (by intro z; cases z)
theorem StAt.same {H H' : Hp} {s c : Addr} {T : Nat} (h : StAt H s c T) (e : Same H H') : StAt H' s c T :=
  ⟨let ⟨t, a, b⟩ := h.ex; ⟨t, a, e _ _ b⟩, let ⟨ns, a, b, q⟩ := h.cs; ⟨ns, a, b, e _ _ q⟩⟩
theorem StAt.nes {H : Hp} {s c p : Addr} {T : Nat} (h : StAt H s c T) (n : H p = none) : s ≠ p := let ⟨_, _, b⟩ := h.ex; ne_of_none b n
theorem StAt.nec {H : Hp} {s c p : Addr} {T : Nat} (h : StAt H s c T) (n : H p = none) : c ≠ p := let ⟨_, _, _, b⟩ := h.cs; ne_of_none b n
theorem StAt.upd {H : Hp} {s c p : Addr} {T : Nat} {o : HO} (h : StAt H s c T) (h1 : s ≠ p) (h2 : c ≠ p) : StAt (upd H p o) s c T :=
  ⟨let ⟨t, a, b⟩ := h.ex; ⟨t, a, by rw [upd_ne h1]; exact b⟩, let ⟨ns, a, b, q⟩ := h.cs; ⟨ns, a, b, by rw [upd_ne h2]; exact q⟩⟩
theorem StAt.upd_new {H : Hp} {s c p : Addr} {T : Nat} {o : HO} (h : StAt H s c T) (n : H p = none) : StAt (L2.upd H p o) s c T := h.upd (h.nes n) (h.nec n)

theorem Kept.seqL {M : List Addr} {H H' : Hp} (h : Kept M H H') {K : PySem.W.Frag} {p : Addr} {xs : List V} (n : p ∉ M) (q : SqL K H p xs) : SqL K H' p xs := by
  rcases q with (q | ⟨o, q⟩) | q
  · exact .inl (.inl (h _ _ q n))
  · exact .inl (.inr ⟨o, h _ _ q n⟩)
  · exact .inr q
theorem Kept.seqT {M : List Addr} {H H' : Hp} (h : Kept M H H') {K : PySem.W.Frag} {p : Addr} {xs : List V} (n : p ∉ M) (q : SqT K H p xs) : SqT K H' p xs := by
  rcases q with (q | ⟨o, q⟩) | q
  · exact .inl (.inl (h _ _ q n))
  · exact .inl (.inr ⟨o, h _ _ q n⟩)
  · exact .inr q
theorem same_upd {H : Hp} {p : Addr} {o : HO} (h : H p = none) : Same H (upd H p o) := fun b x e => by
  rw [upd_ne (ne_of_none e h)]
  exact e

/-! ### what the draws promise -/
def spBegin (K : PySem.W.Frag) : Sp := fun vs H Q _ => ∃ (a : Addr) (ns : List Int), vs = [.ref a] ∧ SqL K H a (ns.map V.int) ∧
  ∀ (s c : Addr) (H' : Hp), StAt H' s c 0 → H s = none → H c = none → Same H H' → Q (.ref s) H'
def spTake : Sp := fun vs H Q _ => ∃ (s c : Addr) (T : Nat) (m : Int), vs = [.ref s, .int m] ∧ StAt H s c T ∧ T ≤ 1000000 ∧ 0 < m ∧ m < 2 ^ 62 ∧
  ∀ (d : Int) (H' : Hp), 0 ≤ d → d < m → StAt H' s c (T + 1) → Kept [s, c] H H' → Q (.int d) H'
end TT

set_option Elab.async false
set_option linter.all false
set_option maxRecDepth 100000
namespace TT
open PySem PySem.Spec PyProof.Rows L2
/-! ### repr of data -/
def rRepr (K : PySem.W.Frag) : List V → Hp → VK → Prop := fun xs H Q => ∃ (v : V) (d : PyData), xs = [v] ∧ Dp K H v d ∧ d.showable = true ∧ d.hasDict = false ∧ d.depth ≤ 60 ∧ d.shown.length ≤ sizeLine ∧ Q (.str d.shown) H
section
variable {X : Cx} {k : Nat}
theorem call_repr_d (hg : X.A.guards = some []) (hr : Room k X.A) : CallR X (.builtin "repr") (rRepr X.K) := by
  intro pins s σ H xs us Q I r h
  obtain ⟨v, d, rfl, hd, h1, h2, h3, h4, q⟩ := h
  obtain ⟨u, rfl, rv⟩ := vals1 r
  obtain ⟨as, rd⟩ := Dp.reads I d v u hd rv
  have hu := hr.units
  have big : ∀ a, u = .ref a → wpAny (model X.prog X.w) X.A (call (.builtin "repr") [u]) (EP X pins σ Q) X.xe s := by
    intro a e
    subst e
    refine repr_of_reads' rd h1 (PyData.noDict_hsm h2) hg (by omega) (fun _ _ e => e) (fun h' t tk hk => ?_) h4
    exact ⟨.str d.shown, H, I.kept (t' := tk) hk, ⟨t, rfl⟩, q⟩
  cases hd with
  | non => cases rv; exact P.repr_of_none ⟨.str _, H, I.tok _, ⟨_, rfl⟩, q⟩
  | bl b => cases rv; exact P.repr_of_bool ⟨.str _, H, I.tok _, ⟨_, by cases b <;> rfl⟩, q⟩
  | int i => obtain ⟨t, rfl⟩ := rv; exact P.repr_of_int (of_decide_eq_true h1) ⟨.str _, H, I.tok _, ⟨_, rfl⟩, q⟩
  | str x => obtain ⟨t, rfl⟩ := rv; exact P.repr_of_str ⟨.str _, H, I.tok _, ⟨_, rfl⟩, q⟩ h4
  | lst _ _ => cases rv; exact big _ rfl
  | tup _ _ => cases rv; exact big _ rfl
end
/-! ### a def's promise where nothing is being shown -/
structure FnG (P : Program) (w : World) (K : PySem.W.Frag) (mg : Str → Option Value) (base : Heap) (CX : CXT) (k : Nat) (f : Addr) (fd : FuncData) (ps : List Str) (sp : Sp) : Prop where
  len : ∀ vs H Q E, sp vs H Q E → vs.length = ps.length
  run : ∀ (A : Around) (outer : List Env) (s : Shared) (H : Hp) (args : Args) (us : List Value) (vs : List V) (Q : VK) (E : XK), Room k A → A.guards = some [] → Env0 P w K mg base A outer s H → BindsTo s fd args (ps.zip us) → Vals vs us → sp vs H Q E →
    codeAny (model P w) A (.call (.ref f) args) (CR CX outer P w H s Q E) s
section
variable {P : Program} {w : World} {K : PySem.W.Frag} {mg : Str → Option Value} {base : Heap} {CX : CXT} {k : Nat}
theorem FnG.of {f : Addr} {fd : FuncData} {ps : List Str} {sp : Sp} (F : FnOk P w K mg base CX k f fd ps sp) : FnG P w K mg base CX k f fd ps sp :=
  ⟨F.len, fun A outer s H args us vs Q E hr _ e0 hb r h => F.run A outer s H args us vs Q E hr e0 hb r h⟩
/-- a def by its body, where nothing is being shown -/
theorem okG {x qual : Str} {st : Stmt} {f : Addr} {fd : FuncData} {N ps : List Str} {sp : Sp} (F : Fun K x qual st f fd) (S : FnScope N ps (defScope st)) (len : ∀ vs H Q E, sp vs H Q E → vs.length = ps.length)
    (body : ∀ (cdv : Value) (A : Around) (outer : List Env) (s : Shared) (H : Hp) (vs : List V) (Q : VK) (E : XK), Room k (A.deeper (envOfC qual (defScope st) s.heap.objs.size f cdv)) → (A.deeper (envOfC qual (defScope st) s.heap.objs.size f cdv)).guards = some [] → sp vs H Q E →
      ∃ t, PSs (cxOf CX0 P w K mg base N qual (defScope st) f cdv A outer s H E).nox (defBody st) t ∧ t { nx := fun _ H' => Q .non H', rt := Q } (L2.start N vs) H) : FnG P w K mg base CX0 (k + 1) f fd ps sp := by
  obtain ⟨oc, od, kV, doc, pm, an, cdv, ct, osl, rfl, lk, hcd⟩ := F.ex
  refine ⟨len, fun A outer s H args us vs Q E hr hg e0 hb r hsp => ?_⟩
  have same : ∀ b o, base.get? b = some o → s.heap.get? b = some o := fun b o e => (e0.bs b o e).1
  have KX : K.In s.heap := e0.mod.kin.keeps same
  have lim : s.heap.NoLimit := e0.mod.nolimit.keeps same
  refine codeAny_call_function hr.depth (KX _ _ lk) rfl S.co S.gen rfl (PySem.W.codeRec_of KX hcd) (hb _ _ _ _ ?_)
  refine wpAny_newFunctionEnv_cells S.kind (fun y hy => ?_) fun env he s1 x => ?_
  · rcases S.par y.1 (List.of_mem_zip (show (y.1, y.2) ∈ ps.zip us from hy)).1 with q | q
    · exact .inl q
    · exact .inr ⟨q, PySem.W.cellsFrom_some _ _ _ (.inl q)⟩
  · subst he
    refine ⟨lim.keeps x.toInCall.keep, codeAny_func ?_⟩
    obtain ⟨t, ht, hq⟩ := body cdv A outer s H vs Q E (hr.deeper _) hg hsp
    have I := inv_start (CX := CX0) (E := E) S hr.hd e0 (len _ _ _ _ hsp) r x
    refine wpAny_mono (ht.nox.run [] s1 (L2.start N vs) H _ I hq) (fun fl s' hs => ?_) fun e s' hs => hs
    cases fl with
    | next => exact let ⟨_, H', J, q⟩ := hs; ⟨V.non, H', J.os, J.bare, J.base, J.hok, rfl, q⟩
    | ret u => exact let ⟨v, _, H', J, rv, q⟩ := hs; ⟨v, H', J.os, J.bare, J.base, J.hok, rv, q⟩
    | brk => exact let ⟨_, _, _, q⟩ := hs; False.elim q
    | cont => exact let ⟨_, _, _, q⟩ := hs; False.elim q
end
/-! ### its call -/
def DefG (P : Program) (w : World) (K : PySem.W.Frag) (mg : Str → Option Value) (base : Heap) (k : Nat) (x : Str) (ps : List Str) (sp : Sp) : Prop :=
  ∃ f fd, mg x = some (.ref f) ∧ PySem.W.keepIn K (.ref f) = true ∧ Binds K fd ps [] ∧ FnG P w K mg base CX0 k f fd ps sp
theorem DefG.mk {P : Program} {w : World} {K : PySem.W.Frag} {mg : Str → Option Value} {base : Heap} {k : Nat} {x : Str} {ps : List Str} {sp : Sp} {f : Addr} {fd : FuncData} (h1 : mg x = some (.ref f)) (h2 : PySem.W.keepIn K (.ref f) = true) (h3 : Binds K fd ps []) (h4 : FnG P w K mg base CX0 k f fd ps sp) : DefG P w K mg base k x ps sp := ⟨f, fd, h1, h2, h3, h4⟩
section
variable {X : Cx} {k j : Nat} {x : Str} {ps : List Str} {sp : Sp} {p pos : Pos} {e : Expr} {es : List Expr} {t : TA}
theorem pe_ownG (D : DefG X.prog X.w X.K X.mg X.base k x ps sp) (hA : X.A.guards = some []) (hr : Room j X.A) (ha : PA X (e :: es) t) (hkj : k ≤ j := by decide) (hg : Gl X x := by rfl) (hdb : (x == ("__debug__" : Str)) = false := by decide)
    (he : starEach (e :: es) X.env = (false, eval e X.env) :: starEach es X.env := by rfl) (hpl : (backTo pos (starEach es X.env)).any (·.1) = false := by rfl) :
    PE X (.Call (.Name x p) (e :: es) [] pos) (tCall sp [] E0 t) := by
  obtain ⟨f, fd, hm, hk, hb, F⟩ := D
  refine ⟨fun pins s σ H Q I h => wpAny_Call_Name_kw (ld_glob I hg hm ?_ hdb)⟩
  refine PySem.W.callWith_K (h₀ := X.base) I.ok.mod.kin hk (thn (ha.run pos pins s σ H _ I h) fun us s1 ⟨vs, H1, I1, r, q⟩ => ⟨I1.kIn, ?_⟩) he hpl
  have q' : sp vs H1 Q E0 := by rw [← List.append_nil vs]; exact q
  have hl : us.length = ps.length := by rw [← r.length]; exact F.len _ _ _ _ q'
  have hbd := hb s1 us I1.kIn (by rw [List.append_nil]; exact hl)
  rw [List.append_nil] at hbd
  refine wpAny_call (codeAny_mono (F.run X.A X.stack s1 H1 ⟨us, []⟩ us vs Q E0 (hr.mono hkj) hA I1.env0 hbd r q') fun rs s' hq => ?_)
  rcases rs with err | fl
  · exact False.elim hq
  · cases fl with
    | ret u => exact I1.after hq
    | next => exact False.elim hq
    | brk => exact False.elim hq
    | cont => exact False.elim hq
end
end TT

set_option Elab.async false
set_option linter.all false
set_option maxRecDepth 100000
namespace TT
open PySem PySem.Spec PyProof.Rows L2
/-! ### the law's call from the caller's own frame, where nothing is being shown -/
/-- what is tracked ahead of the call: the script alone, or nothing where it is one of the module's objects -/
def scr (a : Addr) (o : Obj) (xs : List V) (own : Bool) : Hp := fun b => if own = true ∧ b = a then some (.frz o (.lst xs)) else none
theorem scr_only (a : Addr) (o : Obj) (xs : List V) (own : Bool) : Only (scr a o xs own) := fun b => by
  unfold scr
  split
  · exact .inr ⟨_, _, rfl⟩
  · exact .inl rfl
theorem scr_at {a b : Addr} {o : Obj} {xs : List V} {own : Bool} {u : HO} (h : scr a o xs own b = some u) : own = true ∧ b = a ∧ u = .frz o (.lst xs) := by
  unfold scr at h
  split at h
  · rename_i z
    exact ⟨z.1, z.2, (Option.some.inj h).symm⟩
  · cases h
theorem law_callG {P : Program} {w : World} {K : PySem.W.Frag} {mg mb : Str → Option Value} {k : Nat} {fa a : Addr} {fd : FuncData} {x : Str} {sp : Sp} {s1 : Shared} {vs : List Value} {ns : List Int}
    (KX : K.In s1.heap) (hns : s1.heap.Ns mainGlobals mg) (hb : s1.heap.Ns builtinsNs mb) (hbb : ∀ x : Str, x ≠ "__name__" → mb x = bootBuiltins x) (lim : s1.heap.NoLimit) (bare : s1.gens = #[])
    (ha : s1.heap.get? a = some { cls := .type "list", data := .seq vs.toArray }) (hi : IntsAre vs ns) (hl : ns.length ≤ sizeLine) (hr : Room k callerA)
    (F : ∀ base : Heap, K.In base → base.Ns mainGlobals mg → FnG P w K mg base CX0 k fa fd [x] sp) (bind : ∀ (s : Shared) (u : Value), BindsTo s fd ⟨[u], []⟩ [(x, u)])
    (hsp : ∀ H : Hp, Only H → SqL K H a (ns.map V.int) → sp [.ref a] H (fun v _ => v = .bl true) E0) :
    codeAny (model P w) callerA (.call (.ref fa) ⟨[.ref a], []⟩) (fun r s' => r = .ok (.ret (.bool true)) ∧ OldK s1.heap s'.heap ∧ s'.os = s1.os ∧ AllBare s'.gens) s1 := by
  have rv := vals_ints hi
  have lv := hi.length
  obtain ⟨own, hown, hK⟩ : ∃ own : Bool, (own = true → K.lookup a = none) ∧ (own = false → SqL K (scr a { cls := .type "list", data := .seq vs.toArray } (ns.map V.int) false) a (ns.map V.int)) := by
    cases e : K.lookup a with
    | none => exact ⟨true, ⟨fun _ => rfl, fun z => absurd z (by decide)⟩⟩
    | some o =>
      refine ⟨false, ⟨fun z => absurd z (by decide), fun _ => ?_⟩⟩
      have q := KX a o e
      rw [ha] at q
      cases q
      exact .inr ⟨_, vs.toArray, _, e, rfl, rfl, rfl, by rw [List.size_toArray, lv]; exact hl, by simpa using rv⟩
  generalize hH : scr a { cls := .type "list", data := .seq vs.toArray } (ns.map V.int) own = H
  have at' : ∀ {b u}, H b = some u → own = true ∧ b = a ∧ u = .frz { cls := .type "list", data := .seq vs.toArray } (.lst (ns.map V.int)) := fun {b u} e => scr_at (by rw [hH]; exact e)
  have hO : Only H := by rw [← hH]; exact scr_only a _ _ own
  have hS : SqL K H a (ns.map V.int) := by
    cases e : own with
    | false =>
      rw [← hH, e]
      exact hK e
    | true =>
      refine .inl (.inr ⟨{ cls := .type "list", data := .seq vs.toArray }, ?_⟩)
      rw [← hH, e]
      exact if_pos ⟨rfl, rfl⟩
  have hok : HOk P w H s1.heap := fun b u e => by
    obtain ⟨_, rfl, rfl⟩ := at' e
    exact ⟨ha, by rw [List.length_map]; exact hl, vs, _, rv, ha⟩
  -- what is not the script stands in the heap that is leant on
  have bare' : ∀ {b o es ep}, s1.heap.get? b = some o → o.data = .dict es ep → H b = none := fun {b o es ep} e d => by
    cases q : H b with
    | none => rfl
    | some u =>
      obtain ⟨_, rfl, _⟩ := at' q
      rw [ha] at e
      cases e
      cases d
  have ns' : ∀ {b m}, s1.heap.Ns b m → (hidT s1.heap H).Ns b m := fun {b m} ⟨o, es, ep, e, d, r⟩ => ⟨o, es, ep, hidT_get e (bare' e d), d, r⟩
  have kb : K.In (hidT s1.heap H) := fun b o e => hidT_get (KX b o e) (by
    cases q : H b with
    | none => rfl
    | some u =>
      obtain ⟨z, rfl, _⟩ := at' q
      rw [hown z] at e
      cases e)
  have e0 : Env0 P w K mg (hidT s1.heap H) callerA [] s1 H := ⟨rfl, ⟨kb, ns' hns, ⟨mb, ns' hb, hbb⟩, let ⟨mc, h1, h2⟩ := lim; ⟨mc, ns' h1, h2⟩⟩, fun b o e => of_hidT e, Nat.le_of_eq (hidT_size _ _), trivial,
    fun b z => absurd (show b ∈ ([] : List Addr) from z) (by simp), hok, .of_eq bare⟩
  refine codeAny_mono ((F _ kb (ns' hns)).run callerA [] s1 H ⟨[.ref a], []⟩ [.ref a] [.ref a] _ _ hr rfl e0 (bind s1 (.ref a)) (.cons rfl .nil) (hsp H hO hS)) fun r s' h => ?_
  rcases r with err | fl
  · exact False.elim h
  cases fl with
  | next => exact False.elim h
  | brk => exact False.elim h
  | cont => exact False.elim h
  | ret u =>
    obtain ⟨v, H', os, bg, un, ok', r', q⟩ := h
    obtain rfl : v = .bl true := q
    obtain rfl : u = Value.bool true := r'
    refine ⟨rfl, OldK.of_keep fun b o e => ?_, os, bg⟩
    cases q : H b with
    | none => exact un.keep b o e q (fun z => absurd (show b ∈ ([] : List Addr) from z) (by simp)) (by simp)
    | some u =>
      obtain ⟨_, rfl, rfl⟩ := at' q
      rw [ha] at e
      cases e
      exact (ok' _ _ (un.frzs _ _ _ q)).1
/-- a law by its promise: L2.walk_ofK, where nothing is being shown -/
theorem walk_ofG {l : PySem.W.OpenLaw} {n k : Nat} {q : Program} {loose : List Str} {XP : (Str → Option Value) → Heap → Prop} {YP : World → Heap → Prop} {d : DefRec} {K : Params → PySem.W.Frag} {sp : PySem.W.Frag → Sp} {x : Str}
    (hn : l.most = some n) (hn2 : n ≤ sizeLine) (hdf : d.params.defaults = []) (hr : Room k callerA) (hY : ∀ (w : World) (h : Heap), YP w h → (K w.params).In h)
    (F : ∀ (w : World) (mg : Str → Option Value) (fa : Addr) (h : Heap), (K w.params).In h → h.Ns mainGlobals mg → mg d.name = some (.ref fa) →
      ∃ fd : FuncData, (∀ (s : Shared) (u : Value), BindsTo s fd ⟨[u], []⟩ [(x, u)]) ∧
        ∀ base : Heap, (K w.params).In base → base.Ns mainGlobals mg → FnG l.prog w (K w.params) mg base CX0 k fa fd [x] (sp (K w.params)))
    (hsp : ∀ (K : PySem.W.Frag) (H : Hp) (a : Addr) (ns : List Int), ns.length ≤ n → Only H → SqL K H a (ns.map V.int) → sp K [.ref a] H (fun v _ => v = .bl true) E0) :
    PySem.W.WalkO q loose XP YP l.row.toRowW d [] (fun f vs => PySem.call f vs) := by
  refine Att.attach_call hn hdf fun w s0 s1 mg mb fa o pm cd doc a vs ns G Y ho hd hcd hmg hobj hints hlen hg => ?_
  have KX := hY w _ Y
  obtain ⟨fd, hb, hF⟩ := F w mg fa _ KX G.T.g hmg
  exact law_callG KX G.T.g G.T.b G.T.builtins G.T.nolimit hg hobj hints (Nat.le_trans hlen hn2) hr hF hb fun H hO hS => hsp (K w.params) H a ns hlen hO hS
end TT

set_option Elab.async false
set_option linter.all false
set_option maxRecDepth 100000
namespace TT
open PySem PySem.Spec PyProof.Rows L2
/-! ### zip of two, each a list (false) or a tuple (true) -/
def SIt (b : Bool) (h : Heap) (it a : Addr) (i : Nat) : Prop := match b with | true => h.IsTupleIter it a i | false => h.IsListIter it a i
def SAt (b : Bool) (h : Heap) (a : Addr) (its : Array Value) : Prop := match b with | true => h.IsTuple a its | false => h.IsList a its
def SqB (b : Bool) (K : PySem.W.Frag) (H : Hp) (a : Addr) (xs : List V) : Prop := match b with | true => SqT K H a xs | false => SqL K H a xs
def sIt (b : Bool) (a : Addr) : Obj := match b with | true => { cls := .type "tuple_iterator", data := .fields #[.ref a, .int 0 0] } | false => { cls := .type "list_iterator", data := .fields #[.ref a, .int 0 0] }
theorem SIt.start {b : Bool} {h : Heap} {it a : Addr} (e : h.get? it = some (sIt b a)) : SIt b h it a 0 := by cases b <;> exact ⟨_, e, rfl, rfl⟩
theorem SIt.live {b : Bool} {h : Heap} {it a : Addr} {i : Nat} (x : SIt b h it a i) : ∃ o, h.get? it = some o ∧ ∀ v, o.data ≠ .cell v := by
  cases b
  · obtain ⟨o, e, _, d⟩ := x; exact ⟨o, e, fun v q => by rw [d] at q; cases q⟩
  · obtain ⟨o, e, _, d⟩ := x; exact ⟨o, e, fun v q => by rw [d] at q; cases q⟩
theorem SIt.at' {b : Bool} {h h' : Heap} {it a : Addr} {i : Nat} (x : SIt b h it a i) (k : ∀ o, h.get? it = some o → h'.get? it = some o) : SIt b h' it a i := by
  cases b
  · exact Heap.IsListIter.at x k
  · exact Heap.IsTupleIter.at x k
theorem sit_begins (b : Bool) (a : Addr) (its : Array Value) : Begins (.ref a) (sIt b a) (fun h => SAt b h a its) := by
  cases b
  · exact begins_list a its
  · exact begins_tuple a its
theorem sit_draws {prog : Program} {w : World} {A : Around} (hh : A.handled = none) (b : Bool) (it a : Addr) (hne : a ≠ it) (its : Array Value) :
    Draws prog w A it [it, a] its.size (fun i v => its[i]? = some v) (fun i h => SIt b h it a i ∧ SAt b h a its) := by
  cases b
  · exact Draws.list hh it a hne its
  · exact Draws.tuple hh it a hne its
theorem inv_sqB {X : Cx} {pins : List (Addr × Obj)} {s : Shared} {σ : L2.St} {H : Hp} {b : Bool} {a : Addr} {xs : List V} (I : Inv X pins σ H s) (h : SqB b X.K H a xs) : ∃ its : List Value, Vals xs its ∧ SAt b s.heap a its.toArray ∧ a < s.heap.objs.size := by
  cases b
  · obtain ⟨its, rv, p, _⟩ := I.list h
    exact ⟨its, rv, p.isList, p.lt⟩
  · obtain ⟨its, rv, p, _⟩ := I.tuple h
    obtain ⟨o1, ho1, _⟩ := id p
    exact ⟨its, rv, p, Heap.lt_size ho1⟩
theorem sqB_inj {X : Cx} {pins : List (Addr × Obj)} {s : Shared} {σ : L2.St} {H : Hp} {b : Bool} {a : Addr} {xs ys : List V} (I : Inv X pins σ H s) (h : SqB b X.K H a xs) (h' : SqB b X.K H a ys) : xs = ys := by
  cases b
  · exact I.list_inj h h'
  · exact I.tuple_inj h h'
def ItzB (K : PySem.W.Frag) (b1 b2 : Bool) (a b : Addr) : It :=
  ⟨fun i H => ∃ (xs ys : List V) (x y : V), SqB b1 K H a xs ∧ SqB b2 K H b ys ∧ xs[i]? = some x ∧ ys[i]? = some y,
    fun i H v H' => ∃ T x y, v = .ref T ∧ H T = none ∧ H' = upd H T (.tup [x, y]) ∧ (∀ xs, SqB b1 K H a xs → xs[i]? = some x) ∧ ∀ ys, SqB b2 K H b ys → ys[i]? = some y,
    fun i H => ∃ xs ys : List V, SqB b1 K H a xs ∧ SqB b2 K H b ys ∧ i = min xs.length ys.length⟩
theorem turn_zipB {P : Program} {w : World} {K : PySem.W.Frag} {elts : List Expr} {kk : Nat} {tpos : Pos} {b1 b2 : Bool} {a b z TI TO i1 i2 : Addr} (S : ZipSep2 z TI TO i1 i2 [i1, a] [i2, b]) (na : a ≠ i1) (nb : b ≠ i2) :
    Turn P w K (.Tuple elts kk tpos) (ItzB K b1 b2 a b) [z, TI, TO, i1, i2] z (fun i h => IsZip h z TI TO .none ∧ IsPair h TI (.ref i1) (.ref i2) ∧ (∃ x y, IsPair h TO x y) ∧ SIt b1 h i1 a i ∧ SIt b2 h i2 b i) where
  mem := by simp
  obj := fun i h st c hc => by
    obtain ⟨hz, hTI, ⟨x, y, hTO⟩, h1, h2⟩ := st
    have e' : c = z ∨ c = TI ∨ c = TO ∨ c = i1 ∨ c = i2 := by simpa using hc
    rcases e' with q | q | q | q | q
    · rw [q]; exact ⟨_, hz, fun v q => nomatch q⟩
    · rw [q]; exact ⟨_, hTI, fun v q => nomatch q⟩
    · rw [q]; exact ⟨_, hTO, fun v q => nomatch q⟩
    · rw [q]; exact h1.live
    · rw [q]; exact h2.live
  keep := fun i h h' st k => by
    obtain ⟨hz, hTI, ⟨x, y, hTO⟩, h1, h2⟩ := st
    exact ⟨k z (by simp) _ hz, k TI (by simp) _ hTI, ⟨x, y, k TO (by simp) _ hTO⟩, h1.at' fun o q => k i1 (by simp) o q, h2.at' fun o q => k i2 (by simp) o q⟩
  item := by
    intro X hP hw hK hc i pins s σ H E I hf st hg
    subst hP hw hK
    obtain ⟨hz, hTI, ⟨x0, y0, hTO⟩, h1, h2⟩ := st
    obtain ⟨xs, ys, x, y, hqx, hqy, hx, hy⟩ := hg
    obtain ⟨its, rv, p, _⟩ := inv_sqB I hqx
    obtain ⟨its2, rv2, p2, _⟩ := inv_sqB I hqy
    obtain ⟨u, hu, ru⟩ := rv.get hx
    obtain ⟨u2, hu2, ru2⟩ := rv2.get hy
    have hzl : z < s.heap.objs.size := Heap.lt_size hz
    have l1 : i < its.toArray.size := by
      have := (List.getElem?_eq_some_iff.mp hu).1
      simpa using this
    have l2 : i < its2.toArray.size := by
      have := (List.getElem?_eq_some_iff.mp hu2).1
      simpa using this
    refine wpAny_pyNext_zipD2_item S (sit_draws (A := X.A.in1) (I.ok.hd hc) b1 i1 a na its.toArray) (sit_draws (A := X.A.in1) (I.ok.hd hc) b2 i2 b nb its2.toArray) hz hTI hTO ⟨h1, p⟩ ⟨h2, p2⟩ l1 l2 fun x1 x2 h' tk hP1 hP2 z' TO' st1 st2 hT hsz hk => ?_
    have hxu : x1 = u := by
      have q : its.toArray[i]? = some u := by simpa using hu
      rw [q] at hP1
      exact (Option.some.inj hP1).symm
    have hxu2 : x2 = u2 := by
      have q : its2.toArray[i]? = some u2 := by simpa using hu2
      rw [q] at hP2
      exact (Option.some.inj hP2).symm
    subst hxu hxu2
    refine ⟨_, rfl, wpAny_letOwnedTupleGo_zip (s := { s with heap := h', toks := tk }) z' fun h'' z'' sb => ?_⟩
    have hT2 : h''.get? s.heap.objs.size = some { cls := .type "tuple", data := .seq #[x1, x2] } := (sb.2 _ (Nat.ne_of_gt hzl)).trans hT
    have new : ObjOk X.prog X.w (upd H s.heap.objs.size (.tup [x, y])) h'' s.heap.objs.size (.tup [x, y]) :=
      ⟨by show 2 ≤ sizeLine; decide, [x1, x2], .cons ru (.cons ru2 .nil), ⟨_, hT2, rfl, _, rfl⟩⟩
    have I1 : Inv X pins σ (upd H s.heap.objs.size (.tup [x, y])) { s with heap := h'', toks := tk } :=
      I.turnedNew (t' := tk) (ch := [z, TI, TO, i1, i2]) (fun c o hb q => (sb.2 c (fun q' => hb (by simp [q']))).trans (hk c o (fun q' => hb (by simp [q'])) (fun q' => hb (by simp [q'])) (fun q' => hb (by simp [q'])) (fun q' => hb (by simp [q'])) q)) hf (Nat.le_refl _) new
    refine ⟨.ref s.heap.objs.size, _, I1, rfl, ⟨_, x, y, rfl, I.hok.fresh (Nat.le_refl _), rfl, fun l hl => by rw [sqB_inj I hl hqx]; exact hx, fun l hl => by rw [sqB_inj I hl hqy]; exact hy⟩, ⟨z'', ?_, ⟨x1, x2, ?_⟩, ?_, ?_⟩, fun c hcm => ?_⟩
    · exact (sb.2 _ S.TIz).trans (hk _ _ S.TIz S.TITO S.TIi1 S.TIi2 hTI)
    · exact (sb.2 _ S.TOz).trans TO'
    · exact st1.1.at' fun o q => (sb.2 _ S.zi1.symm).trans q
    · exact st2.1.at' fun o q => (sb.2 _ S.zi2.symm).trans q
    · have hlt : c < s.heap.objs.size := by
        have e' : c = z ∨ c = TI ∨ c = TO ∨ c = i1 ∨ c = i2 := by simpa using hcm
        rcases e' with q | q | q | q | q
        · rw [q]; exact hzl
        · rw [q]; exact Heap.lt_size hTI
        · rw [q]; exact Heap.lt_size hTO
        · rw [q]; obtain ⟨_, e1, _⟩ := h1.live; exact Heap.lt_size e1
        · rw [q]; obtain ⟨_, e2, _⟩ := h2.live; exact Heap.lt_size e2
      rw [upd_ne (Nat.ne_of_lt hlt)]
      exact (hf c hcm).1
  done := by
    intro X hP hw hK hc i pins s σ H E I hf st hg
    subst hP hw hK
    obtain ⟨hz, hTI, ⟨x0, y0, hTO⟩, h1, h2⟩ := st
    obtain ⟨xs, ys, hqx, hqy, hend⟩ := hg
    obtain ⟨its, rv, p, _⟩ := inv_sqB I hqx
    obtain ⟨its2, rv2, p2, _⟩ := inv_sqB I hqy
    have l1 := rv.length
    have l2 := rv2.length
    refine wpAny_pyNext_zipD2_end S (sit_draws (A := X.A.in1) (I.ok.hd hc) b1 i1 a na its.toArray) (sit_draws (A := X.A.in1) (I.ok.hd hc) b2 i2 b nb its2.toArray) hz hTI hTO ⟨h1, p⟩ ⟨h2, p2⟩ (by simp; omega) (by simp; omega) (by simp; omega) fun h' tk hk => ⟨rfl, I.turnedL (t' := tk) (ch := [z, TI, TO, i1, i2]) (fun c o hb q =>
      hk c o (fun q' => hb (by simp [q'])) (fun q' => hb (by simp [q'])) (fun q' => hb (by simp [q'])) (fun q' => hb (by simp [q'])) q) hf⟩
  self := fun A i s Q E st h => wpAny_pyIter_zip st.1 h
def iZipB (K : PySem.W.Frag) (ta : TA) : TI := fun σ H R => ta σ H fun vs H1 => ∃ b1 b2 a b xs ys, vs = [.ref a, .ref b] ∧ SqB b1 K H1 a xs ∧ SqB b2 K H1 b ys ∧ R (ItzB K b1 b2 a b) H1
theorem pi_zipB {X : Cx} {e e2 : Expr} {ta : TA} {p pos tpos : Pos} {elts : List Expr} {kk : Nat} (hg : Gl X "zip") (hm : X.mg "zip" = none) (ha : PA X [e, e2] ta)
    (hs : starEach [e, e2] X.env = (false, eval e X.env) :: starEach [e2] X.env := by rfl) (hpl : (backTo pos (starEach [e2] X.env)).any (·.1) = false := by rfl) :
    PI X (.Tuple elts kk tpos) (.Call (.Name "zip" p) [e, e2] [] pos) (iZipB X.K ta) := by
  refine ⟨fun pins s σ H R I h => ?_⟩
  refine Call_ (ld_blt I hg hm PyProof.Rows.boot_zip (PyProof.Rows.callWith_type1 (thn (ha.run pos pins s σ H _ I h) fun us s1 ⟨vs, H1, I1, r1, q1⟩ => ?_) hs hpl))
  obtain ⟨b1, b2, a, b, xs, ys, ex, hqx, hqy, q⟩ := q1
  subst ex
  cases r1 with
  | cons r rr =>
    cases rr with
    | cons r' rr =>
      cases rr
      cases r
      cases r'
      have fresh5 : ∀ c, c ∈ [s1.heap.objs.size + 4, s1.heap.objs.size + 2, s1.heap.objs.size + 3, s1.heap.objs.size, s1.heap.objs.size + 1] → FpOk X pins H1 c := fun c hcm => by
        have e' : c = s1.heap.objs.size + 4 ∨ c = s1.heap.objs.size + 2 ∨ c = s1.heap.objs.size + 3 ∨ c = s1.heap.objs.size ∨ c = s1.heap.objs.size + 1 := by simpa using hcm
        have hle : s1.heap.objs.size ≤ c := by
          rcases e' with z | z | z | z | z
          · rw [z]; exact Nat.le_add_right _ _
          · rw [z]; exact Nat.le_add_right _ _
          · rw [z]; exact Nat.le_add_right _ _
          · rw [z]; exact Nat.le_refl _
          · rw [z]; exact Nat.le_add_right _ _
        exact I1.fpOk hle (I1.hok.fresh hle)
      obtain ⟨its, rv, p1, la⟩ := inv_sqB I1 hqx
      obtain ⟨its2, rv2, p2, lb⟩ := inv_sqB I1 hqy
      refine zip_begins2 (sit_begins b1 a its.toArray) (sit_begins b2 b its2.toArray) p1 p2 fun h' hz hTI hTO h1 h2 hsz hk => wpAny_pyIter_zip hz ?_
      have I2 : Inv X pins σ H1 { s1 with heap := h' } := I1.kept (t' := s1.toks) hk
      have S := zip_sep2 (N := s1.heap.objs.size) (fp1 := [a]) (fp2 := [b]) (fun c hc => by rw [List.mem_singleton.mp hc]; exact la) (fun c hc => by rw [List.mem_singleton.mp hc]; exact lb)
      exact ⟨s1.heap.objs.size + 4, [s1.heap.objs.size + 4, s1.heap.objs.size + 2, s1.heap.objs.size + 3, s1.heap.objs.size, s1.heap.objs.size + 1], _, _, H1, rfl, I2, turn_zipB S (Nat.ne_of_lt la) (Nat.ne_of_lt (Nat.lt_succ_of_lt lb)), ⟨hz, hTI, ⟨_, _, hTO⟩, .start h1, .start h2⟩, fresh5, q⟩
theorem walk_zipB {K : PySem.W.Frag} {b1 b2 : Bool} {a b : Addr} {xs ys : List V} {n : Nat} (hn : n = min xs.length ys.length) : Walk (ItzB K b1 b2 a b) n (fun H => SqB b1 K H a xs ∧ SqB b2 K H b ys) (YPair (fun i => xs[i]?) (fun i => ys[i]?)) := by
  refine ⟨fun i _ hi q => ⟨xs, ys, xs[i]'(by omega), ys[i]'(by omega), q.1, q.2, by simp [show i < xs.length by omega], by simp [show i < ys.length by omega]⟩, fun _ q => ⟨xs, ys, q.1, q.2, hn⟩, fun i H v H' _ q y => ?_⟩
  obtain ⟨T, x, y, h1, h2, h3, h4, h5⟩ := y
  exact ⟨T, x, y, h1, h2, h3, h4 xs q.1, h5 ys q.2⟩
end TT

set_option Elab.async false
set_option linter.all false
set_option maxRecDepth 100000
namespace TT
open PySem PySem.Spec PyProof.Rows L2
/-! ### lists (false) and tuples (true) alike -/
theorem SqB.same {b : Bool} {K : PySem.W.Frag} {H H' : Hp} {p : Addr} {xs : List V} (h : SqB b K H p xs) (s : Same H H') : SqB b K H' p xs := by
  cases b
  · exact s.seq h
  · exact sameT s h
def seqD (b : Bool) (ds : List PyData) : PyData := match b with | true => .tuple ds | false => .list ds
theorem seq_dp {b : Bool} {K : PySem.W.Frag} {H : Hp} {v : V} {ds : List PyData} (h : Dp K H v (seqD b ds)) : ∃ p xs, v = .ref p ∧ SqB b K H p xs ∧ DpAll K H xs ds := by
  cases b
  · cases h with
    | lst h1 h2 => exact ⟨_, _, rfl, h1, h2⟩
  · cases h with
    | tup h1 h2 => exact ⟨_, _, rfl, h1, h2⟩
theorem dp_seq {b : Bool} {K : PySem.W.Frag} {H : Hp} {p : Addr} {xs : List V} {ds : List PyData} (h1 : SqB b K H p xs) (h2 : DpAll K H xs ds) : Dp K H (.ref p) (seqD b ds) := by
  cases b
  · exact .lst h1 h2
  · exact .tup h1 h2
theorem ixB {b : Bool} {K : PySem.W.Frag} {H : Hp} {p : Addr} {xs : List V} {i : Nat} {v : V} {Q : VK} (h : SqB b K H p xs) (e : xs[i]? = some v) (q : Q v H) : rIx K (.ref p) (.int (i : Int)) H Q := by
  cases b
  · exact .inl ⟨p, xs, _, v, rfl, rfl, h, atI_nat e, q⟩
  · exact .inr (.inl ⟨p, xs, _, v, rfl, rfl, h, atI_nat e, q⟩)
theorem tupB' {b : Bool} {K : PySem.W.Frag} {H : Hp} {p : Addr} {ys : List V} {Q : VK} (h : SqB b K H p ys) (q : ∀ l H', Same H H' → SqT K H' l ys → Q (.ref l) H') :
    ∃ p' ys', [V.ref p] = [.ref p'] ∧ ((SqL K H p' ys' ∧ ∀ l, H l = none → Q (.ref l) (upd H l (.tup ys'))) ∨ (SqT K H p' ys' ∧ Q (.ref p') H)) := by
  cases b
  · exact ⟨p, ys, rfl, .inl ⟨h, fun l nl => q l _ (same_upd nl) (.inl (.inl upd_same))⟩⟩
  · exact ⟨p, ys, rfl, .inr ⟨h, q p H (Same.refl H) h⟩⟩
def rTupQ (K : PySem.W.Frag) : List V → Hp → VK → Prop := fun xs H Q => ∃ p ys, xs = [.ref p] ∧ ((SqL K H p ys ∧ ∀ l, H l = none → Q (.ref l) (upd H l (.tup ys))) ∨ (SqT K H p ys ∧ Q (.ref p) H))
def rLstQ (K : PySem.W.Frag) : List V → Hp → VK → Prop := fun xs H Q => ∃ p ys, xs = [.ref p] ∧ (SqL K H p ys ∨ SqT K H p ys) ∧ ∀ l, H l = none → Q (.ref l) (upd H l (.lst ys))
def ItB (K : PySem.W.Frag) (b : Bool) (a : Addr) : It := match b with | true => Itt K a | false => Itl K a
def iSeqB (K : PySem.W.Frag) (tl : TE) : TI := fun σ H R => tl σ H fun x H1 => ∃ b a, x = .ref a ∧ (∃ xs, SqB b K H1 a xs) ∧ R (ItB K b a) H1
theorem walk_seqB {K : PySem.W.Frag} {b : Bool} {a : Addr} {xs : List V} : Walk (ItB K b a) xs.length (fun H => SqB b K H a xs) (YAt xs) := by
  cases b
  · exact walk_list
  · exact walk_tup
section
variable {X : Cx} {tg : Expr}
theorem pi_seqB {l : Expr} {tl : TE} (hl : PE X l tl) : PI X tg l (iSeqB X.K tl) := by
  refine ⟨fun pins s σ H R I h => ?_⟩
  refine thn (hl.run pins s σ H _ I h) fun v s1 ⟨x, H1, I1, r1, q1⟩ => ?_
  obtain ⟨b, a, e, ⟨xs, hq⟩, q⟩ := q1
  subst e
  cases r1
  have free : ∀ c, c ∈ [s1.heap.objs.size] → FpOk X pins H1 c := fun c hc => by
    rw [List.mem_singleton.mp hc]
    exact I1.fpOk (Nat.le_refl _) (I1.hok.fresh (Nat.le_refl _))
  cases b
  · obtain ⟨its, rv, p, hz⟩ := I1.list hq
    refine wpAny_pyIter_list p.isList ?_
    exact ⟨s1.heap.objs.size, [s1.heap.objs.size], _, _, H1, rfl, I1.kept (t' := s1.toks) fun b o e => Heap.get?_push_of_some _ e, turn_list a _, ⟨_, Heap.get?_push_size _ rfl, rfl, rfl⟩, free, q⟩
  · obtain ⟨its, rv, p, hz⟩ := I1.tuple hq
    refine wpAny_pyIter_tuple (show s1.heap.IsTuple a its.toArray from p) ?_
    exact ⟨s1.heap.objs.size, [s1.heap.objs.size], _, _, H1, rfl, I1.kept (t' := s1.toks) fun b o e => Heap.get?_push_of_some _ e, turn_tuple a _, ⟨_, Heap.get?_push_size _ rfl, rfl, rfl⟩, free, q⟩
def gSeqB (K : PySem.W.Frag) (n : Nat) (t : TGs) : TG := fun v σ H Q => ∃ b a xs, v = .ref a ∧ SqB b K H a xs ∧ xs.length = n ∧ t xs σ H Q
theorem pg_seqB {es : List Expr} {k : Nat} {t : TGs} {n : Nat} {pos : Pos} (hc : X.calm = true) (h : PGs X es t)
    (hn : (assignEach es X.env).length = n := by rfl) (hst : (assignEach es X.env).findIdx? (·.1) = none := by rfl) : PG X (.Tuple es k pos) (gSeqB X.K n t) := by
  refine ⟨fun pins s σ H v u Q I r hw => ?_⟩
  obtain ⟨b, a, xs, e1, hq, hl, hw⟩ := hw
  cases b
  · exact (pg_lst hc h hn hst).run pins s σ H v u Q I r ⟨a, xs, e1, hq, hl, hw⟩
  · exact (pg_tup hc h hn hst).run pins s σ H v u Q I r ⟨a, xs, e1, hq, hl, hw⟩
end
end TT

set_option Elab.async false
set_option linter.all false
set_option maxRecDepth 100000
namespace TT
open PySem PySem.Spec PyProof.Rows L2
/-! ### an exception that was caught and is kept: tracked behind its suite -/
def exk (a : Addr) (cls : Value) (d : Option Addr) : HO := .ext fun h => ∃ oe vs, h.get? a = some oe ∧ Zc cls d oe ∧ oe.data = .fields vs
theorem exk_ok {P : Program} {w : World} {H : Hp} {h : Heap} {a : Addr} {cls : Value} {d : Option Addr} {oe : Obj} {vs : Array Value} (e : h.get? a = some oe) (z : Zc cls d oe) (f : oe.data = .fields vs) : ObjOk P w H h a (exk a cls d) :=
  ⟨⟨oe, vs, e, z, f⟩, ⟨oe, e⟩, fun h1 h2 ⟨o', v', e', z', f'⟩ k => ⟨o', v', k _ e', z', f'⟩⟩
theorem exk_at {P : Program} {w : World} {H : Hp} {h : Heap} {a : Addr} {cls : Value} {d : Option Addr} (hok : HOk P w H h) (e : H a = some (exk a cls d)) : ∃ oe vs, h.get? a = some oe ∧ Zc cls d oe ∧ oe.data = .fields vs := by
  have x : ObjOk P w H h a (.ext fun h => ∃ oe vs, h.get? a = some oe ∧ Zc cls d oe ∧ oe.data = .fields vs) := hok a _ e
  exact x.1
section
variable {X : Cx} {pins : List (Addr × Obj)} {σ : L2.St} {H : Hp} {s : Shared} {a : Addr} {oe : Obj} {o : HO}
/-- what was pinned is tracked from now on -/
theorem track (I : Inv X ((a, oe) :: pins) σ H s) (h0 : X.s_0.heap.get? a = none) (hp : ∀ p ∈ X.pn ++ pins, p.1 ≠ a) (new : ObjOk X.prog X.w (upd H a o) s.heap a o) : Inv X pins σ (upd H a o) s := by
  obtain ⟨ga, na, nl, nf, nc⟩ := I.pin (a, oe) (List.mem_append_right _ (List.mem_cons_self ..))
  have ga : s.heap.get? a = some oe := ga
  have na : H a = none := na
  have ne0 : ∀ {b : Addr} {u : Obj}, X.s_0.heap.get? b = some u → b ≠ a := fun {b u} e z => by
    rw [z, h0] at e; cases e
  refine ⟨I.ok, I.os, I.bare, ⟨I.base.keep, I.base.slot, fun b u e n hx => ?_, I.base.there, fun b xs e => ?_, fun b u v e => ?_, fun b ps e => ?_⟩, I.loc, I.cell, ?_, fun x c e => ?_, fun p hp' => ?_, fun b u e => ?_, I.len⟩
  · rw [upd_ne (ne0 e)]; exact I.base.free b u e n hx
  · have q := I.base.tups b xs e
    rw [upd_ne (ne_of_none q na)]; exact q
  · have q := I.base.frzs b u v e
    rw [upd_ne (ne_of_none q na)]; exact q
  · obtain ⟨more, q⟩ := I.base.tbls b ps e
    exact ⟨more, by rw [upd_ne (ne_of_none q na)]; exact q⟩
  · rw [upd_ne (Ne.symm nl)]; exact I.free
  · have q : c ≠ a := fun z => by
      obtain ⟨v, hv⟩ := I.cell x c e
      rw [z] at hv
      obtain ⟨oc, e1, e2⟩ := hv
      rw [ga] at e1
      cases e1
      exact nc v e2
    rw [upd_ne q]; exact I.freeC x c e
  · have hm : p ∈ X.pn ++ (a, oe) :: pins := by
      rcases List.mem_append.mp hp' with z | z
      · exact List.mem_append_left _ z
      · exact List.mem_append_right _ (List.mem_cons_of_mem _ z)
    obtain ⟨q1, q2, q3⟩ := I.pin p hm
    exact ⟨q1, by rw [upd_ne (hp p hp')]; exact q2, q3⟩
  · by_cases hb : b = a
    · subst hb
      rw [upd_same] at e
      cases e
      exact new
    · rw [upd_ne hb] at e
      exact (I.hok b u e).stay (fun c v hc q => q) (fun c hc => by rw [upd_ne (ne_of_none hc na)]; exact hc) fun c xs hc => by rw [upd_ne (ne_of_none hc na)]; exact hc
end
/-- what "except x as n: m = n" wishes of an exception of the body: slot i is n's, slot j is m's -/
def wKeep (K : PySem.W.Frag) (c : Value) (i j : Nat) (Wout : WX) (D : Ends) : WX := fun cls d σ H =>
  ∃ b, PySem.W.exmOne K cls c = some b ∧ (b = true → ∀ a, H a = none → D.nx (((σ.set i (some (.ref a))).set j (some (.ref a))).set i none) (upd H a (exk a cls d))) ∧ (b = false → Wout cls d σ H)
section
variable {X : Cx} {x n m : Str} {c : Value} {i j : Nat} {body : List Stmt} {np pos pos' pm pn' ps : Pos} {tb : WX → TS} {Wout : WX}
theorem ps_try_keep (hs : X.stack = X.env :: X.outer) (hf : X.env.frame = some X.env.locals) (hN : X.N.Nodup) (hi : X.N[i]? = some n) (hj : X.N[j]? = some m) (hln : X.env.kindOf n = some .local) (hij : i ≠ j) (hex : X.ex = [])
    (hc : Names X x c) (tk : Takes X Wout)
    (hb : ∀ (W : WX) (pn : List (Addr × Obj)) (xe : Value → Shared → Prop), Takes (X.tr pn xe) W → PassesOwn (model X.prog X.w) X.A X.env xe → PSs (X.tr pn xe) body (tb W))
    (hsu : ∀ (a : Addr) (oe : Obj) (pn : List (Addr × Obj)), PSs (X.suite a ((a, oe) :: pn)) [.Assign [.Name m pm] (.Name n pn') ps] (tAsg (tVar i) (gName j))) :
    PS X (.Try body [.ExceptHandler (some (.Name x np)) (some n) [.Assign [.Name m pm] (.Name n pn') ps] pos'] [] [] pos) (fun D σ H => tb (wKeep X.K c i j Wout D) D σ H) := by
  refine ⟨fun pins s σ H D I h => ?_⟩
  have ok := I.ok
  have frm : X.A.frames = some (X.env :: X.outer) := by rw [ok.frames, hs]
  refine wpAny_Try_except ?_
  let hds : List ExceptHandler := [.ExceptHandler (some (.Name x np)) (some n) [.Assign [.Name m pm] (.Name n pn') ps] pos']
  let XE' : Value → Shared → Prop := fun e s₁ => wpAny (model X.prog X.w) X.A (noteFrame e X.env) (fun _ s₂ => wpAny (model X.prog X.w) X.A (setFlight e none) (fun _ s₃ => wpAny (model X.prog X.w) X.A (handleBy e X.env hds) (SP X pins D) X.xe s₃) X.xe s₂) X.xe s₁
  have hT : Takes (X.tr (X.pn ++ pins) XE') (wKeep X.K c i j Wout D) := by
    intro u s' z
    obtain ⟨a, B, s0, pn0, σ1, H1, cls, d, hu, J0, nb, up, sky, na, os, ag, b, hb1, yes, no⟩ := z
    have hu : u = .ref a := hu
    subst hu
    have J : Inv X pins σ1 H1 s0 := J0.ofTry ok
    have sky : Sky B (X.env :: X.outer) a (Zc cls d) X.env.locals s'.heap := by rw [← hs]; exact sky
    have Ba : B.get? a = none := by
      rcases sky with q | q | q
      · exact q.2.1
      · exact q.2.1
      · exact q.2.1
    show wpAny (model X.prog X.w) X.A (noteFrame (.ref a) X.env) _ _ _
    refine Sky.land Zc.steady frm hf sky fun hA fA uA => ?_
    have JA : Inv X pins σ1 H1 { s' with heap := hA } := J.landed nb fA.1 (up.trans uA) os ag
    obtain ⟨oA, vA, eA, zA, dA⟩ := fA.there
    -- the exception is no frame's record
    have notF : a ∉ frs (X.env :: X.outer) := fun hm => by
      obtain ⟨_, o', e', hnf⟩ := fA.2.2.1.mem hm
      rw [eA] at e'
      cases e'
      exact hnf _ dA
    have nL : a ≠ X.env.locals := fun z => notF (List.mem_filterMap.mpr ⟨X.env, List.mem_cons_self, by rw [hf, z]⟩)
    have nF : a ∉ X.fs := fun hm => by
      obtain ⟨e, he, q⟩ := List.mem_filterMap.mp hm
      exact notF (List.mem_filterMap.mpr ⟨e, List.mem_cons_of_mem _ he, q⟩)
    -- it wasn't there ahead of the body
    have none0 : s0.heap.get? a = none := by
      cases e : s0.heap.get? a with
      | none => rfl
      | some o =>
        have q := nb a o e (by rw [hs]; exact notF)
        rw [Ba] at q
        cases q
    have base0 : X.s_0.heap.get? a = none := by
      cases e : X.s_0.heap.get? a with
      | none => rfl
      | some o =>
        obtain ⟨o', q⟩ := J.base.there a o e (by rw [hex]; exact List.not_mem_nil)
        rw [none0] at q
        cases q
    have pin0 : ∀ p ∈ X.pn ++ pins, p.1 ≠ a := fun p hp z => by
      obtain ⟨q, _⟩ := J.pin p hp
      rw [z, none0] at q
      cases q
    refine wpAny_handleBy_cons (codeAny_handlers_test ?_) (by intro q; cases q)
    have LT : PySem.W.Looks (model X.prog X.w) hA (typeOf (.ref a)) cls := fun A Q E s k q => wpAny_typeOf_ref (k _ _ eA) (by rw [zA.1]; exact q)
    have LM := PySem.W.exm_one (M := model X.prog X.w) (JA.kIn) LT hb1
    have named : ∀ {Q : Value → Shared → Prop} {E : Value → Shared → Prop}, Q c { s' with heap := hA } → wpAny (model X.prog X.w) (X.A.mark (some (.ref a))) (eval (.Name x np) X.env) Q E { s' with heap := hA } := fun {Q E} q => by
      have SA := JA.suite eA dA na nL nF
      obtain ⟨g1, g2, g3 | ⟨g3, g4, g5⟩⟩ := hc
      · exact ld_glob (X := X.suite a ((a, oA) :: (X.pn ++ pins))) SA g1 g3 q g2
      · exact ld_blt (X := X.suite a ((a, oA) :: (X.pn ++ pins))) SA g1 g3 g4 q g5 g2
    refine named (LM.here ?_)
    cases b with
    | true =>
      refine codeAny_handlers_suite_as ?_
      refine HandSPX.lands_againZ fA fun hB fB uB => ?_
      have JB : Inv X pins σ1 H1 { s' with heap := hB } := J.landed nb fB.1 ((up.trans uA).trans uB) os ag
      obtain ⟨oB, vB, eB, zB, dB⟩ := fB.there
      have SB := JB.suite eB dB na nL nF
      refine store_ok (X := X.suite a ((a, oB) :: (X.pn ++ pins))) (v := .ref a) SB hN hi (.inl hln) rfl (fun s5 S5 => ?_) (.inr hln)
      have hil : i < σ1.length := by rw [J.len]; exact (List.getElem?_eq_some_iff.mp hi).1
      refine wpAny_mono ((hsu a oB (X.pn ++ pins)).run [] s5 _ H1 { nx := fun σ' H' => σ' = (σ1.set i (some (.ref a))).set j (some (.ref a)) ∧ H' = H1, rt := fun _ _ => False, bk := fun _ _ => False, ct := fun _ _ => False } S5 ⟨.ref a, by rw [List.getElem?_set_self hil], rfl, rfl⟩) (fun f s6 q => ?_) (fun _ _ z => False.elim z)
      cases f with
      | next =>
        obtain ⟨σ6, H6, S6, e6, e7⟩ := q
        rw [e6, e7] at S6
        obtain ⟨p1, p2, p3, p4, p5⟩ := S6.pin (a, oB) (List.mem_append_left _ List.mem_cons_self)
        have J6 : L2.Inv X ((a, oB) :: pins) ((σ1.set i (some (.ref a))).set j (some (.ref a))) H1 s6 := (S6.unsuite (pins := pins) ok).pins_of fun p hp => by
          rcases List.mem_cons.mp hp with e | hp
          · rw [e]; exact ⟨p1, p2, p3, p4, p5⟩
          · exact (S6.unsuite (pins := pins) ok).pin p (List.mem_append_right _ hp)
        refine gone_ok J6 hN hi hln fun s7 J7 => ?_
        obtain ⟨q1, _⟩ := J7.pin (a, oB) (List.mem_append_right _ List.mem_cons_self)
        exact ⟨_, _, track J7 base0 pin0 (exk_ok q1 zB dB), yes rfl a na⟩
      | brk =>
        obtain ⟨_, _, _, q⟩ := q
        exact q.elim
      | cont =>
        obtain ⟨_, _, _, q⟩ := q
        exact q.elim
      | ret u =>
        obtain ⟨_, _, _, _, _, q⟩ := q
        exact q.elim
    | false =>
      show wpAny _ X.A (handleBy (.ref a) X.env []) _ _ _
      refine wpAny_handleBy_nil ?_
      obtain ⟨_, _, _, oE, vE, T, oT, tE, w1, w2, w3, w4, w5⟩ := id fA
      unfold PySem.passOn
      refine wpAny_bind (wpAny_field w1 w3 w4 ?_)
      rw [if_neg (by simp : ¬ ((Value.ref T == Value.none) = true))]
      have on : wpAny (model X.prog X.w) X.A (setFlight (.ref a) X.env.frame) (fun _ t => wpAny (model X.prog X.w) X.A (throw (.ref a) : Sem Flow) (SP X pins D) X.xe t) X.xe { s' with heap := hA } := by
        rw [hf]
        refine HandSPX.setFlight_upZ fA fun hC fC uC => wpAny_throw (tk _ _ ⟨a, B, s0, pins, σ1, H1, cls, d, rfl, J, nb, (up.trans uA).trans uC, .inr (.inr (by rw [hs]; exact fC)), na, os, ag, no rfl⟩)
      first
        | exact wpAny_bind (wpAny_pure (wpAny_bind on))
        | exact wpAny_bind on
  refine wpAny_mono ((hb _ _ XE' hT PassesOwn.looking).run [] s σ H D (I.toTry _) h) (fun f s1 q => ?_) fun _ _ z => z
  cases f with
  | next =>
    obtain ⟨σ', H', J', q⟩ := q
    exact wpAny_execs_nil ⟨σ', H', J'.ofTry ok, q⟩
  | brk =>
    obtain ⟨σ', H', J', q⟩ := q
    exact ⟨σ', H', J'.ofTry ok, q⟩
  | cont =>
    obtain ⟨σ', H', J', q⟩ := q
    exact ⟨σ', H', J'.ofTry ok, q⟩
  | ret u =>
    obtain ⟨v, σ', H', J', r, q⟩ := q
    exact ⟨v, σ', H', J'.ofTry ok, r, q⟩
end
/-! ### what is asked of a kept one -/
/-- what the class must say -/
structure KxC (K : PySem.W.Frag) (C : Addr) : Prop where
  cl : (PySem.W.clsIn K C).isSome = true
  ga : PySem.W.findIn K (.ref C) "__getattribute__" = some (some (.builtin "BaseException.__getattribute__"))
  gt : PySem.W.findIn K (.ref C) "__getattr__" = some none
  sb : PySem.W.subIn K (.ref C) (.type "BaseException") = some true
  ca : PySem.W.findIn K (.ref C) "__class__" = some (some (.builtin "object.__class__"))
  sp : PySem.W.specialIn K (.builtin "object.__class__") "__get__" = some (some (.builtin "getset_descriptor.__get__"))
  tk : PySem.W.takesIn K (.builtin "object.__class__") = some true
  mo : PySem.W.mroIn K C (.type "object") = some true
  hd : PySem.W.hasDictIn K C = true
section
variable {X : Cx} {pins : List (Addr × Obj)} {σ : L2.St} {H : Hp} {s : Shared} {a C dd : Addr} {fs : List (Str × V)}
theorem kept_inst (I : L2.Inv X pins σ H s) (e : H a = some (exk a (.ref C) (some dd))) (ed : H dd = some (.xd fs)) :
    ∃ (oe od : Obj) (mA : Str → Option Value), PySem.W.InstAt s.heap a oe C (some od) ∧ (∀ f, RelO (fs.lookup f) (mA f)) ∧ ∀ f, PySem.W.lookIn f od = some (mA f) := by
  obtain ⟨oe, vs, e1, e2, e3⟩ := exk_at I.hok e
  obtain ⟨mA, hn, hr⟩ := (show ObjOk X.prog X.w H s.heap dd (.xd fs) from I.hok dd _ ed)
  obtain ⟨od, ho, hl⟩ := lookIn_ns hn
  exact ⟨oe, od, mA, ⟨e1, e2.1, by unfold PySem.W.notCls; rw [e3] <;> rfl, by rw [e2.2]; exact ho⟩, hr, hl⟩
end
/-- isinstance(e, c), e kept -/
def rIsX (K : PySem.W.Frag) : List V → Hp → VK → Prop := fun xs H Q => ∃ (a C dd : Addr) (fs : List (Str × V)) (c : V) (u : Value) (b : Bool), xs = [.ref a, c] ∧ H a = some (exk a (.ref C) (some dd)) ∧ H dd = some (.xd fs) ∧ KxC K C ∧ ClsV c u ∧ PySem.W.kitOne K (.ref C) u = some b ∧ Q (.bl b) H
/-- isinstance(e, (c1, c2, ..)), e kept, the tuple just laid -/
def rIsXT (K : PySem.W.Frag) : List V → Hp → VK → Prop := fun xs H Q => ∃ (a C dd tp : Addr) (fs : List (Str × V)) (cs : List V) (us : List Value) (b : Bool), xs = [.ref a, .ref tp] ∧ H a = some (exk a (.ref C) (some dd)) ∧ H dd = some (.xd fs) ∧ KxC K C ∧ H tp = some (.tup cs) ∧ Paired ClsV cs us ∧
  PySem.W.kitAny K (.ref C) us = some b ∧ Q (.bl b) H
/-- e.f, e kept -/
def tXk (K : PySem.W.Frag) (f : Str) (te : TE) : TE := fun σ H Q => te σ H fun x H1 => ∃ (a C dd : Addr) (fs : List (Str × V)) (v : V), x = .ref a ∧ H1 a = some (exk a (.ref C) (some dd)) ∧ H1 dd = some (.xd fs) ∧ KxC K C ∧ PySem.W.findIn K (.ref C) f = some none ∧ fs.lookup f = some v ∧ Q v H1
section
variable {X : Cx}
theorem call_isX : CallR X (.builtin "isinstance") (rIsX X.K) := by
  intro pins s σ H xs us Q I r h
  obtain ⟨a, C, dd, fs, c, u, b, rfl, ea, ed, T, k, e, q⟩ := h
  obtain ⟨u1, u2, rfl, r1, r2⟩ := vals2 r
  cases (show u1 = Value.ref a from r1)
  have e2 := k.eq r2
  subst e2
  obtain ⟨oe, od, mA, J, _, _⟩ := kept_inst I ea ed
  exact PySem.W.kia_one (PySem.W.kitx_exc T.cl T.ga T.gt T.sb T.ca T.sp T.tk T.mo) I.kIn J e (fun z => nomatch z) fun tk => ⟨.bl b, H, I.tok tk, rfl, q⟩
theorem call_isXT : CallR X (.builtin "isinstance") (rIsXT X.K) := by
  intro pins s σ H xs us Q I r h
  obtain ⟨a, C, dd, tp, fs, cs, ws, b, rfl, ea, ed, T, hT, k, e, q⟩ := h
  obtain ⟨u1, u2, rfl, r1, r2⟩ := vals2 r
  cases (show u1 = Value.ref a from r1)
  cases (show u2 = Value.ref tp from r2)
  obtain ⟨oe, od, mA, J, _, _⟩ := kept_inst I ea ed
  obtain ⟨_, its, rv, o, h1, h2, n, h3⟩ := (show ObjOk X.prog X.w H s.heap tp (.tup cs) from I.hok tp _ hT)
  have e3 := ClsV.all k rv
  subst e3
  obtain ⟨oc, ob, dt, sl⟩ := o
  simp only at h2 h3
  subst h2 h3
  exact PySem.W.kia_tup (PySem.W.kitx_exc T.cl T.ga T.gt T.sb T.ca T.sp T.tk T.mo) I.kIn J h1 e (fun z => nomatch z) fun tk => ⟨.bl b, H, I.tok tk, rfl, q⟩
theorem pe_xk {e : Expr} {te : TE} {pos : Pos} {f : Str} (he : PE X e te) (hb : attributeBase e f X.env (eval e X.env) = eval e X.env := by rfl) : PE X (.Attribute e f pos) (tXk X.K f te) := by
  refine ⟨fun pins s σ H Q I h => attr_of hb (thn (he.run pins s σ H _ I h) fun u s1 z => ?_)⟩
  obtain ⟨x, H1, I1, rx, a, C, dd, fs, v, ex, ea, ed, T, hf, hl, q⟩ := z
  subst ex
  cases (show u = Value.ref a from rx)
  obtain ⟨oe, od, mA, J, hr, lk⟩ := kept_inst I1 ea ed
  obtain ⟨uv, hu, ru⟩ := RelO.some_of (v := v) (o := mA f) (by rw [← hl]; exact hr f)
  exact HandSPX.exc_get I1.kIn J T.ga T.gt T.sb (PySem.W.findObj_own T.hd hf rfl (by rw [lk f, hu])) (handed_of ru) ⟨v, H1, I1.tok _, ru, q⟩
end
end TT

set_option Elab.async false
set_option linter.all false
set_option maxRecDepth 100000
set_option maxHeartbeats 2000000
namespace TT
open PySem PySem.Spec PyProof.Rows L2
/-! ### own classes of error over any built-in one, with an __init__ of their own -/
structure OexG (K : PySem.W.Frag) (C : Addr) : Prop where
  cls : ∃ (B newId initId : String) (bmB : List Value) (nm q : Str) (N : Addr) (bs bm : List Value) (sn : List Str) (sub : List Value) (ab : Bool) (col : Option Bool) (dd : Option Addr) (k0 k1 k2 k3 k5 : Option Value),
    ExcBaseFacts B newId initId bmB ∧ StoreFacts B bmB "object.__setattr__" "object" ∧ K.lookup C = some (excClassObj nm q C N bs bm true sn sub ab col dd k0 k1 k2 k3 k5 newId) ∧ PySem.W.excTail bmB bm = true
  sa : PySem.W.findIn K (.ref C) "__setattr__" = some (some (.builtin "object.__setattr__"))
  exC : PySem.W.subIn K (.ref C) (.type "BaseException") = some true
  tyC : PySem.W.typeIn K (.ref C) = some (.type "type")
  kC : PySem.W.keepIn K (.ref C) = true
section
variable {prog : Program} {w : World} {A : Around} {E : Value → Shared → Prop} {R : Result → Shared → Prop} {hp : Heap} {g : Array GenState} {d : Drawn} {t : Nat} {os : OsState} {K : PySem.W.Frag} {name : Str} {tk : Tok} {v : Value} {x C t1 : Addr}
theorem osg_over (T : OexG K C) : ∃ (B : String) (bmB : List Value), StoreFacts B bmB "object.__setattr__" "object" ∧ PySem.W.excOver K C bmB = true ∧ ∃ cd, PySem.W.clsIn K C = some cd ∧ cd.hasDict = true := by
  obtain ⟨B, newId, initId, bmB, nm, q, N, bs, bm, sn, sub, ab, col, dd, k0, k1, k2, k3, k5, F, SF, hC, hb⟩ := T.cls
  have hcl : PySem.W.clsIn K C = some { name := nm, bases := bs, mro := .ref C :: bm, ns := N, qualname := q, hasDict := true, slotNames := sn, subclasses := sub, abstract := ab, collection := col, hasDel := false } := by unfold PySem.W.clsIn; rw [hC] <;> rfl
  refine ⟨B, bmB, SF, ?_, _, hcl, rfl⟩
  unfold PySem.W.excOver
  rw [hcl]
  show (C == C && PySem.W.excTail bmB bm) = true
  rw [hb, beq_self_eq_true]; rfl
theorem taker_of (h : PySem.W.findIn K (.ref C) name = some none) : PySem.W.takerIn K C name = some none := by
  unfold PySem.W.takerIn
  rw [h]; rfl
/-- the first field of one that is being made -/
theorem osg_new (T : OexG K C) (X : K.In hp) (hx : hp.get? x = some { cls := .ref C, dict := none, data := .fields #[.ref t1, .none, .none, .none, .bool false, .none] }) (hf : PySem.W.findIn K (.ref C) name = some none)
    (hq : ∀ h' tk' dx, (∀ b o, b ≠ x → hp.get? b = some o → h'.get? b = some o) → hp.objs.size ≤ dx → dx ≠ x → h'.get? x = some { cls := .ref C, dict := some dx, data := .fields #[.ref t1, .none, .none, .none, .bool false, .none] } →
      h'.Ns1 dx (fun y => if y = name then some v else none) → R (.ok (.ret .none)) ⟨h', g, d, tk', os⟩) :
    codeAny (model prog w) A (.call (.builtin "object.__setattr__") ⟨[.ref x, .str name tk, v], []⟩) R ⟨hp, g, d, t, os⟩ := by
  obtain ⟨B, bmB, SF, ho, cd, hc, hd⟩ := osg_over T
  refine PySem.W.osa_openX (od := none) SF X ⟨hx, rfl, rfl, trivial⟩ ho (taker_of hf) fun b => ?_
  have nx : x ≠ hp.objs.size := Nat.ne_of_lt (Heap.lt_size hx)
  refine wpAny_bind (wpAny_pure (wpAny_bind (PySem.W.instanceDict_exc hx (PySem.W.looks_clsIn X hc) hd ?_)))
  refine HandSPX.store_in_new ⟨_, #[], _, (Heap.get?_update_ne _ _ _ _ nx.symm).trans (Heap.get?_push_at rfl rfl), rfl, fun e he => absurd he (by simp), fun _ => rfl⟩ fun h' tk' hn sb => ?_
  refine hq h' tk' hp.objs.size (fun b o nb eb => ?_) (Nat.le_refl _) nx.symm ?_ hn
  · exact (sb.2 b (Nat.ne_of_lt (Heap.lt_size eb))).trans ((Heap.get?_update_ne _ _ _ _ nb).trans (Heap.get?_push_of_some _ eb))
  · exact (sb.2 x nx).trans (Heap.get?_update_self _ (Heap.get?_push_of_some _ hx) rfl)
/-- a further field -/
theorem osg_old {dx : Addr} {m0 : Str → Option Value} {nl : List Str} (T : OexG K C) (X : K.In hp) (hx : hp.get? x = some { cls := .ref C, dict := some dx, data := .fields #[.ref t1, .none, .none, .none, .bool false, .none] }) (hf : PySem.W.findIn K (.ref C) name = some none)
    (hns : hp.Ns1 dx m0) (hw : Within m0 nl) (hz : nl.length ≤ 1000)
    (hq : ∀ h' tk', (∀ b o, b ≠ dx → hp.get? b = some o → h'.get? b = some o) → h'.Ns1 dx (fun y => if y = name then some v else m0 y) → R (.ok (.ret .none)) ⟨h', g, d, tk', os⟩) :
    codeAny (model prog w) A (.call (.builtin "object.__setattr__") ⟨[.ref x, .str name tk, v], []⟩) R ⟨hp, g, d, t, os⟩ := by
  obtain ⟨B, bmB, SF, ho, cd, hc, hd⟩ := osg_over T
  obtain ⟨oD, _, _, hoD, _, _⟩ := hns.count hw
  refine PySem.W.osa_openX (od := some oD) SF X ⟨hx, rfl, rfl, hoD⟩ ho (taker_of hf) fun b => ?_
  refine wpAny_bind (wpAny_pure (wpAny_bind (wpAny_bind (wpAny_loadPart hx (wpAny_bind ((PySem.W.looks_clsIn X hc).here ?_))))))
  rw [hd]
  refine wpAny_pure (a := some dx) ?_
  exact PySem.OEX.store_in_old hns hw hz fun h' tk' hn sb => hq h' tk' (fun b o nb eb => (sb.2 b nb).trans eb) hn
end
section
variable {X : Cx} {pins : List (Addr × Obj)} {σ : L2.St} {H : Hp} {s : Shared} {a C dx : Addr} {f : Str} {y : V} {u : Value} {fs : List (Str × V)} {Q : Unit → Shared → Prop} {E : Value → Shared → Prop} {A : Around}
theorem ostg_new (T : OexG X.K C) (I : L2.Inv X pins σ H s) (e : H a = some (exo a C none)) (hno : PySem.W.findIn X.K (.ref C) f = some none) (ry : RelV y u)
    (h : ∀ dx s', H dx = none → dx ≠ a → L2.Inv X pins σ (upd (upd H dx (exd dx [(f, y)])) a (exo a C (some dx))) s' → Q () s') : wpAny (model X.prog X.w) A (setAttr (.ref a) f u) Q E s := by
  obtain ⟨t1, ho⟩ := exo_at I.hok e
  obtain ⟨hp, g, d, t, os⟩ := s
  refine PySem.W.set_plain I.kIn (od := none) ⟨ho, rfl, rfl, trivial⟩ T.sa (osg_new T I.kIn ho hno fun h' tk' dx k dn dne hx hn => ?_)
  have free : H dx = none := I.hok.fresh dn
  have old : ∀ {b : Addr} {o : Obj}, hp.get? b = some o → b ≠ dx := fun q => Nat.ne_of_lt (Nat.lt_of_lt_of_le (Heap.lt_size q) dn)
  have noa : ∀ {b : Addr}, H b = none → b ≠ a := fun n z => by
    rw [z, e] at n; cases n
  have look : ∀ {b : Addr} {v : HO}, H b = some v → exo a C none ≠ v → (upd (upd H dx (exd dx [(f, y)])) a (exo a C (some dx))) b = some v := fun {b v} q ne => by
    rw [upd_ne (at_ne e q ne), upd_ne (ne_of_none q free)]; exact q
  have un : Un X.fs [] H (upd (upd H dx (exd dx [(f, y)])) a (exo a C (some dx))) hp h' := ⟨fun b o q n _ _ => k b o (noa n) q, fun b o q n _ _ => ⟨o.slots, k b o (noa n) q⟩,
    fun b o q n _ => by rw [upd_ne (noa n), upd_ne (old q)]; exact n,
    fun b o q _ => by
      by_cases hb : b = a
      · exact ⟨_, by rw [hb]; exact hx⟩
      · exact ⟨o, k b o hb q⟩,
    fun b xs q => look q exo_tup, fun b o v q => look q exo_frz, fun b ps q => ⟨#[], by rw [look q exo_tbl]; simp⟩⟩
  refine h dx _ free dne (I.un (t' := tk') un fun b o q => ?_)
  by_cases hb : b = a
  · subst hb
    rw [upd_same] at q
    cases q
    exact exo_ok hx
  rw [upd_ne hb] at q
  by_cases hd : b = dx
  · subst hd
    rw [upd_same] at q
    cases q
    exact exd_ok hn (relO_put (fs := []) ry fun g => True.intro)
  rw [upd_ne hd] at q
  refine (I.hok b o q).stay (fun c v hc z => k c v ?_ z) (fun c hc => look hc exo_own) fun c xs hc => look hc exo_tup
  rcases hc with hc | hc
  · rw [hc]; exact hb
  · exact at_ne e hc exo_own
theorem ostg_old (T : OexG X.K C) (I : L2.Inv X pins σ H s) (e : H a = some (exo a C (some dx))) (ed : H dx = some (exd dx fs)) (hl : fs.length ≤ 900) (hno : PySem.W.findIn X.K (.ref C) f = some none) (ry : RelV y u)
    (h : ∀ s', L2.Inv X pins σ (upd H dx (exd dx ((f, y) :: fs))) s' → Q () s') : wpAny (model X.prog X.w) A (setAttr (.ref a) f u) Q E s := by
  obtain ⟨t1, ho⟩ := exo_at I.hok e
  obtain ⟨mA, hns, rel⟩ := exd_at I.hok ed
  have hw := within_of rel
  obtain ⟨hp, g, d, t, os⟩ := s
  obtain ⟨oD, _, _, hoD, _, _⟩ := hns.count hw
  refine PySem.W.set_plain I.kIn (od := some oD) ⟨ho, rfl, rfl, hoD⟩ T.sa (osg_old T I.kIn ho hno hns hw (by rw [List.length_map]; omega) fun h' tk' k hn => ?_)
  obtain ⟨o', es', ep', eo', r'⟩ := id hn
  exact h _ (I.write (t' := tk') (x := dx) (e := dx) (o := exd dx ((f, y) :: fs)) (by rw [ed]; exact True.intro) (.inl rfl) k ⟨o', eo'⟩ (exd_ok hn (relO_put ry rel)))
end
/-- self.f = e, of one that is being made -/
def tOsg (K : PySem.W.Frag) (f : Str) (to te : TE) : TS := fun D σ H => te σ H fun y H1 => to σ H1 fun x H2 => ∃ a C : Addr, x = .ref a ∧ OexG K C ∧ PySem.W.findIn K (.ref C) f = some none ∧
  ((H2 a = some (exo a C none) ∧ ∀ dx, H2 dx = none → dx ≠ a → D.nx σ (upd (upd H2 dx (exd dx [(f, y)])) a (exo a C (some dx)))) ∨
    ∃ (dx : Addr) (fs : List (Str × V)), H2 a = some (exo a C (some dx)) ∧ H2 dx = some (exd dx fs) ∧ fs.length ≤ 900 ∧ D.nx σ (upd H2 dx (exd dx ((f, y) :: fs))))
/-- C(e, ..), C's own __init__ keeping sp -/
def tMkG (C : Addr) (sp : Sp) (ta : TA) : L2.St → Hp → XK → Prop := fun σ H Q => ta σ H fun vs H1 => vs.length ≤ 1000 ∧ ∀ a, H1 a = none → sp (.ref a :: vs) (upd H1 a (exo a C none))
  (fun v H2 => v = .non ∧ ∃ (d : Addr) (fs : List (Str × V)), H2 a = some (exo a C (some d)) ∧ H2 d = some (exd d fs) ∧ H1 d = none ∧ Q (.ref C) (some d) (upd (del H2 a) d (.xd fs))) (fun _ _ _ => False)
section
variable {X : Cx} {o e : Expr} {es : List Expr} {to te : TE} {ta : TA} {f : Str} {p p' pos : Pos}
theorem ps_osg (ho : PE X o to) (he : PE X e te) (hs : swapsWith e (some (.Attribute o f p')) pos.line X.env = pure false := by rfl) : PS X (.Assign [.Attribute o f p'] e pos) (tOsg X.K f to te) := by
  refine ⟨fun pins s σ H D I h => plainObj_wpAny_Assign_Attribute (thn (he.run pins s σ H _ I h) fun v s1 ⟨y, H1, I1, r1, q1⟩ => thn (ho.run pins s1 σ H1 _ I1 q1) fun u s2 ⟨x, H2, I2, r2, a, C, ex, T, hno, q⟩ => ?_) hs⟩
  subst ex
  cases (show u = Value.ref a from r2)
  rcases q with ⟨ea, q⟩ | ⟨dx, fs, ea, ed, hl, q⟩
  · exact ostg_new T I2 ea hno r1 fun dx s' n ne J => ⟨σ, _, J, q dx n ne⟩
  · exact ostg_old T I2 ea ed hl hno r1 fun s' J => ⟨σ, _, J, q⟩
theorem pmk_oxg {CX : CXT} {x : Str} {C fI : Addr} {k : Nat} {fd : FuncData} {ps : List Str} {sp : Sp} (T : OexG X.K C) (iC : PySem.W.findIn X.K (.ref C) "__init__" = some (some (.ref fI))) (tI : PySem.W.typeIn X.K (.ref fI) = some (.type "function"))
    (F1 : FnOk X.prog X.w X.K X.mg X.base CX k fI fd ps sp) (hr : Room (k + 1) X.A) (hb : Binds X.K fd ps []) (hx : Passes CX X (fun _ _ _ => False)) (hg : Gl X x) (hm : X.mg x = some (.ref C)) (ha : PA X (e :: es) ta)
    (hdb : (x == ("__debug__" : Str)) = false := by decide) (he : starEach (e :: es) X.env = (false, eval e X.env) :: starEach es X.env := by rfl) (hpl : (backTo pos (starEach es X.env)).any (·.1) = false := by rfl) :
    PMk X (.Call (.Name x p) (e :: es) [] pos) (tMkG C sp ta) := by
  intro pins s σ H Q I h
  obtain ⟨B, newId, initId, bmB, nm, q, N, bs, bm, sn, sub, ab, col, dd, k0, k1, k2, k3, k5, F, SF, hC, hbm⟩ := T.cls
  refine wpAny_Call_Name_kw (ld_glob I hg hm ?_ hdb)
  refine PySem.W.callWith_K (h₀ := X.base) I.ok.mod.kin T.kC (thn (ha.run pos pins s σ H _ I h) fun us s1 ⟨vs, H1, I1, r1, hz, q1⟩ => ⟨I1.kIn, ?_⟩) he hpl
  show wpAny _ _ (call (.ref C) us) _ _ _
  obtain ⟨hp, g, dr, tk, os⟩ := s1
  generalize hA : hp.objs.size + 1 = A0
  have sz : hp.objs.size ≤ A0 := by omega
  have hn : H1 A0 = none := I1.hok.fresh sz
  have hq := q1 A0 hn
  generalize hG : (hp.push (PySem.W.kdv_tup us)).push (PySem.HandSPX.excO C hp.objs.size) = G
  have kk : ∀ b o, hp.get? b = some o → G.get? b = some o := fun b o e => by
    rw [← hG]; exact Heap.get?_push_of_some _ (Heap.get?_push_of_some _ e)
  have hget : G.get? A0 = some (PySem.HandSPX.excO C hp.objs.size) := by
    rw [← hG, ← hA]; heap_get
  have I2 : L2.Inv X pins σ (upd H1 A0 (exo A0 C none)) ⟨G, g, dr, tk, os⟩ := I1.laid (t' := tk) (a := A0) (o := exo A0 C none) (h' := G) kk sz (exo_ok hget)
  have r2 : Vals (V.ref A0 :: vs) (Value.ref A0 :: us) := .cons rfl r1
  have hl : (Value.ref A0 :: us).length = ps.length := by
    rw [← r2.length]
    exact F1.len _ _ _ _ hq
  have hus : us.length ≤ sizeLine := by
    rw [← Paired.length r1, sizeLine_eq]
    omega
  have bd := hb ⟨G, g, dr, tk, os⟩ (Value.ref A0 :: us) I2.kIn (by rw [List.append_nil]; exact hl)
  rw [List.append_nil] at bd
  refine wpAny_call (PySem.HandSPX.call_own F (fun Y => PySem.W.excTail_contains Y bm hbm) (I1.kIn _ _ hC) (PySem.W.looks_findIn I1.kIn iC) (fun self => PySem.W.bind_fn I1.kIn self tI) hus ?_)
  rw [hA, hG]
  refine codeAny_mono (F1.run _ X.stack _ _ ⟨Value.ref A0 :: us, []⟩ (Value.ref A0 :: us) _ _ (fun _ _ _ => False) (hr.make C us []) (I2.env0.make C us []) bd r2 hq) fun r s' z => ?_
  cases r with
  | error er => exact hx pins σ _ _ er s' I2 z
  | ok fl =>
    cases fl with
    | ret u =>
      obtain ⟨v, H2, os2, bare2, un2, hok2, rv, ev, d, fs, ea, ed, hd1, q2⟩ := z
      subst ev
      obtain ⟨h2, g2, d2, t2, os'⟩ := s'
      exact ⟨rv, mk_end (raises_own T.exC T.tyC) I1 sz kk un2 hok2 os2 bare2 ea ed hd1 q2⟩
    | next => exact z.elim
    | brk => exact z.elim
    | cont => exact z.elim
end
end TT

set_option Elab.async false
set_option linter.all false
set_option maxRecDepth 100000
namespace TT
open PySem PySem.Spec PyProof.Rows L2
/-! ### an error of two fields: its __init__, raised -/
def spInitF (f1 f2 : Str) (K : PySem.W.Frag) (C : Addr) : Sp := fun vs H Q _ => ∃ (a : Addr) (x y : V), vs = [.ref a, x, y] ∧ H a = some (exo a C none) ∧ ∀ dx, H dx = none → dx ≠ a → Q .non (upd (upd (upd H dx (exd dx [(f1, x)])) a (exo a C (some dx))) dx (exd dx [(f2, y), (f1, x)]))
structure Ers (P : Program) (w : World) (K : PySem.W.Frag) (mg : Str → Option Value) (base : Heap) (cn f1 f2 : Str) (C : Addr) : Prop where
  oex : OexG K C
  g : mg cn = some (.ref C)
  init : ∃ fI fd, PySem.W.findIn K (.ref C) "__init__" = some (some (.ref fI)) ∧ PySem.W.typeIn K (.ref fI) = some (.type "function") ∧ Binds K fd ["self", f1, f2] [] ∧ FnOk P w K mg base CX0 1 fI fd ["self", f1, f2] (spInitF f1 f2 K C)
section
variable {X : Cx} {C : Addr} {k : Nat} {W : WX} {e : Expr} {es : List Expr} {ta : TA} {p pos pos2 : Pos} {cn f1 f2 : Str}
theorem ps_ers (N : Ers X.prog X.w X.K X.mg X.base cn f1 f2 C) (hc : X.calm = true) (hr : Room k X.A) (tk : Takes X W) (ha : PA X (e :: es) ta) (hk : 2 ≤ k := by decide) (hg : Gl X cn := by rfl) (hdb : (cn == ("__debug__" : Str)) = false := by decide)
    (he : starEach (e :: es) X.env = (false, eval e X.env) :: starEach es X.env := by rfl) (hpl : (backTo pos (starEach es X.env)).any (·.1) = false := by rfl) :
    PS X (.Raise (some (.Call (.Name cn p) (e :: es) [] pos)) none pos2) (fun _ σ H => tMkG C (spInitF f1 f2 X.K C) ta σ H fun cls d H' => W cls d σ H') := by
  obtain ⟨fI, fd, iC, tI, hb, F1⟩ := N.init
  exact ps_raise hc tk (pmk_oxg N.oex iC tI F1 (hr.mono hk) hb pass0 hg N.g ha hdb he hpl)
end
theorem ers_raise {K : PySem.W.Frag} {C : Addr} {f1 f2 : Str} {x y : V} {H1 : Hp} {Q : XK} (h : ∀ d, H1 d = none → Q (.ref C) (some d) (upd H1 d (.xd [(f2, y), (f1, x)]))) :
    ([x, y] : List V).length ≤ 1000 ∧ ∀ a, H1 a = none → spInitF f1 f2 K C (.ref a :: [x, y]) (upd H1 a (exo a C none))
      (fun v H2 => v = .non ∧ ∃ (d : Addr) (fs : List (Str × V)), H2 a = some (exo a C (some d)) ∧ H2 d = some (exd d fs) ∧ H1 d = none ∧ Q (.ref C) (some d) (upd (del H2 a) d (.xd fs))) (fun _ _ _ => False) := by
  refine ⟨(by show 2 ≤ 1000; decide), fun a na => ⟨a, x, y, rfl, upd_same, fun dx n ne => ⟨rfl, dx, _, ?_, upd_same, ?_, ?_⟩⟩⟩
  · rw [upd_ne (Ne.symm ne), upd_same]
  · rw [upd_ne ne] at n; exact n
  · have n' : H1 dx = none := by rw [upd_ne ne] at n; exact n
    have z := h dx n'
    have e : upd (del (upd (upd (upd (upd H1 a (exo a C none)) dx (exd dx [(f1, x)])) a (exo a C (some dx))) dx (exd dx [(f2, y), (f1, x)])) a) dx (.xd [(f2, y), (f1, x)]) = upd H1 dx (.xd [(f2, y), (f1, x)]) := by
      funext b
      by_cases h1 : b = dx
      · subst h1; rw [upd_same, upd_same]
      · rw [upd_ne h1, upd_ne h1]
        by_cases h2 : b = a
        · subst h2; rw [del_same, na]
        · rw [del_ne h2, upd_ne h1, upd_ne h2, upd_ne h1, upd_ne h2]
    rw [e]
    exact z
/-- an own def that may raise -/
def DefX (P : Program) (w : World) (K : PySem.W.Frag) (mg : Str → Option Value) (base : Heap) (k : Nat) (x : Str) (ps : List Str) (sp : Sp) : Prop :=
  ∃ f fd, mg x = some (.ref f) ∧ PySem.W.keepIn K (.ref f) = true ∧ Binds K fd ps [] ∧ FnOk P w K mg base (L2.CX P w) k f fd ps sp
theorem DefX.mk {P : Program} {w : World} {K : PySem.W.Frag} {mg : Str → Option Value} {base : Heap} {k : Nat} {x : Str} {ps : List Str} {sp : Sp} {f : Addr} {fd : FuncData} (h1 : mg x = some (.ref f)) (h2 : PySem.W.keepIn K (.ref f) = true) (h3 : Binds K fd ps []) (h4 : FnOk P w K mg base (L2.CX P w) k f fd ps sp) : DefX P w K mg base k x ps sp := ⟨f, fd, h1, h2, h3, h4⟩
section
variable {X : Cx} {k j : Nat} {x : Str} {ps : List Str} {sp : Sp} {p pos : Pos} {e : Expr} {es : List Expr} {t : TA} {W : WX}
theorem pe_ownX (D : DefX X.prog X.w X.K X.mg X.base k x ps sp) (hr : Room j X.A) (tk : Takes X W) (ha : PA X (e :: es) t) (hkj : k ≤ j := by decide) (hg : Gl X x := by rfl) (hdb : (x == ("__debug__" : Str)) = false := by decide)
    (he : starEach (e :: es) X.env = (false, eval e X.env) :: starEach es X.env := by rfl) (hpl : (backTo pos (starEach es X.env)).any (·.1) = false := by rfl) :
    PE X (.Call (.Name x p) (e :: es) [] pos) (tCallS sp (WE W) t) := by
  obtain ⟨f, fd, hm, hk, hb, F⟩ := D
  exact pe_callS F (hr.mono hkj) hg hm hk hb (fun σ => passAt tk σ) ha hdb he hpl
end
end TT

set_option Elab.async false
set_option linter.all false
set_option maxRecDepth 100000
namespace TT
open PySem PySem.Spec PyProof.Rows L2
def topS (i : Nat) : Stmt := PySem.Challenge.pw_tiedtables_k07_what_deeds_do_by_themselv.main.body.getD i (.Pass ⟨0, 0, 0, 0⟩)
section
variable {P : Program} {w : World} {K : PySem.W.Frag} {mg : Str → Option Value} {base : Heap}
abbrev s_law_begin : Stmt := topS 24
abbrev N_law_begin : List Str := ["script", "cells"]
theorem sc_law_begin : FnScope N_law_begin ["script"] (defScope s_law_begin) := ⟨rfl, rfl, rfl, by decide +kernel, rfl, by decide +kernel, by decide +kernel⟩

theorem cut63 (ns : List Int) : cutV (ns.map V.int) none (some 63) = (ns.take 63).map V.int := by
  unfold cutV
  rw [show HT.sIx (ns.map V.int).length 0 none = 0 from HT.sIx_none .., show HT.sIx (ns.map V.int).length (ns.map V.int).length (some 63) = min 63 (ns.map V.int).length from HT.sIx_nat _ _ 63]
  rw [List.drop_zero, Nat.sub_zero, List.map_take]
  by_cases h : 63 ≤ (ns.map V.int).length
  · rw [Nat.min_eq_left h]
  · rw [Nat.min_eq_right (by omega), List.take_of_length_le (Nat.le_refl _), List.take_of_length_le (by omega)]
theorem dp_ints {K : PySem.W.Frag} {H : Hp} : ∀ ns : List Int, DpAll K H (ns.map V.int) (ns.map PyData.int)
  | [] => .nil
  | n :: ns => .cons (.int n) (dp_ints ns)
theorem canLay_ints : ∀ ns : List Int, PyData.canLayAll0 (ns.map PyData.int) = true
  | [] => rfl
  | _ :: ns => by
    show (PyData.canLay0 (.int _) && PyData.canLayAll0 (ns.map PyData.int)) = true
    rw [canLay_ints ns]
    rfl
theorem depth_ints : ∀ ns : List Int, PyData.depthAll (ns.map PyData.int) = 0
  | [] => rfl
  | _ :: ns => by
    show max 0 (PyData.depthAll (ns.map PyData.int)) = 0
    rw [depth_ints ns]
    rfl
theorem shaped_ints (ns : List Int) : SeqAt.shaped (.list (ns.map PyData.int)) = true := by
  show (PyData.canLayAll0 (ns.map PyData.int) && decide (PyData.depthAll (ns.map PyData.int) + 1 ≤ 64)) = true
  rw [canLay_ints, depth_ints]
  rfl
theorem mkSt (c : Addr) : mergeK [] [(kCells, V.ref c), (kTurn, V.int 0)] = stD c 0 := by
  have h1 : ¬ (kCells = kTurn) := kne
  unfold stD mergeK
  simp [putK, h1]
theorem ok_begin {f : Addr} {fd : FuncData} (F : Fun K "_law_begin" "_law_begin" s_law_begin f fd) (nb : NB mg) : FnOk P w K mg base CX0 1 f fd ["script"] (spBegin K) := by
  refine F.ok sc_law_begin (fun vs H Q E h => ?_) (fun cdv A outer s H vs Q E hr h => ?_)
  · obtain ⟨a, ns, rfl, _⟩ := h
    rfl
  · obtain ⟨a, ns, rfl, hS, q⟩ := h
    have nd := sc_law_begin.nd
    have hu := hu_of hr
    refine ⟨_, (pss_cons (ps_set (i := 1) nd rfl (Or.inl rfl) (pe_callTy call_list_of (by rfl) nb.b_list (by decide +kernel) (pa_cons (pe_slice sl_list (pv 0) po_none (po_some pe_int)) pa_nil)))
      (pss_cons (ps_if (pt_cmpR (op_eqD hr.units) (pv 1) (pe_lst pa_nil) (nomark _))
        (pss_one (ps_set (i := 1) nd rfl (Or.inl rfl) (pe_lst (pa_cons pe_int pa_nil))))
        pss_nil)
      (pss_one (ps_ret (pe_disp (pps_cons pe_str (pv 1) (pps_cons pe_str pe_int pps_nil)) (by rfl) (by rfl) (fun z => by cases z) (by decide)))))), ?_⟩
    -- cells = list(script[:63])
    refine ⟨.ref a, rfl, 63, rfl, a, _, rfl, hS, fun p np => ?_⟩
    rw [cut63]
    refine ⟨p, _, rfl, .inl (.inl (.inl upd_same)), fun c0 nc0 => ?_⟩
    have s1 : Same H (upd H p (.lst ((ns.take 63).map V.int))) := same_upd np
    have s2 : Same (upd H p (.lst ((ns.take 63).map V.int))) (upd (upd H p (.lst ((ns.take 63).map V.int))) c0 (.lst ((ns.take 63).map V.int))) := same_upd nc0
    -- if cells == []
    refine ⟨.ref c0, rfl, Nat.zero_le _, fun e0 ne0 => ?_⟩
    have s3 := same_upd (o := .lst []) ne0
    refine ⟨.list ((ns.take 63).map PyData.int), .list [], .lst (.inl (.inl (s3 _ _ upd_same))) (dp_ints _), .lst (.inl (.inl upd_same)) .nil, shaped_ints _, rfl, _, rfl, ?_⟩
    have fin : ∀ (c : Addr) (H1 : Hp) (ms : List Int), Same H H1 → H c = none → H1 c = some (.lst (ms.map V.int)) → 0 < ms.length → ms.length ≤ 63 →
        tRet (tDisp [(tC (V.str (Str.ofString "cells")), tVar 1), (tC (V.str (Str.ofString "turn")), tC (V.int 0))]) { nx := fun x H' => Q V.non H', rt := Q } [some (.ref a), some (.ref c)] H1 := by
      intro c H1 ms sm nc ec h1 h2 s ns'
      refine ⟨.ref c, rfl, ?_⟩
      refine ⟨upd_same, [(kCells, .ref c), (kTurn, .int 0)], rfl, (by show 2 ≤ 15; decide), ?_⟩
      rw [mkSt, upd_upd]
      have ncs : c ≠ s := ne_of_none ec ns'
      exact q s c _ ⟨⟨0, ⟨Int.le_refl _, Int.le_refl _⟩, upd_same⟩, ⟨ms, h1, h2, by rw [upd_ne ncs]; exact ec⟩⟩ (Same.free sm ns') nc (sm.trans (same_upd ns'))
    refine ite2 (fun h0 => ?_) (fun h0 => ?_)
    · -- cells = [17]
      refine ⟨by decide, fun c1 nc1 => ?_⟩
      exact fin c1 _ [17] (((s1.trans s2).trans s3).trans (same_upd nc1)) (Same.free ((s1.trans s2).trans s3) nc1) upd_same (by decide) (by decide)
    · refine fin c0 _ (ns.take 63) ((s1.trans s2).trans s3) (Same.free s1 nc0) (s3 _ _ upd_same) ?_ (by rw [List.length_take]; omega)
      cases e : ns.take 63 with
      | nil => rw [e] at h0; exact absurd rfl h0
      | cons x r => exact Nat.succ_pos _
abbrev s_law_take : Stmt := topS 25
abbrev N_law_take : List Str := ["state", "many", "turn", "place", "cell", "digit", "wide", "mixed"]
theorem sc_law_take : FnScope N_law_take ["state", "many"] (defScope s_law_take) := ⟨rfl, rfl, rfl, by decide +kernel, rfl, by decide +kernel, by decide +kernel⟩

theorem cdiv_of {i j : Int} (h : 0 < j) (h2 : j < 2 ^ 62) : CDivP i j := ⟨h, PyProof.noPylong_of_log2 (Nat.lt_of_lt_of_le (PySem.Flt.log2_lt_of (k := 62) (by decide) (by omega)) (by decide))⟩
theorem ixN_nat {n j : Nat} (h : j < n) : ixN n (j : Int) = some j := by
  unfold ixN
  rw [if_pos (Int.natCast_nonneg j), if_pos (by omega)]
  rfl
theorem ok_take {f : Addr} {fd : FuncData} (F : Fun K "_law_take" "_law_take" s_law_take f fd) (nb : NB mg) : FnOk P w K mg base CX0 1 f fd ["state", "many"] spTake := by
  refine F.ok sc_law_take (fun vs H Q E h => ?_) (fun cdv A outer sh H vs Q E hr h => ?_)
  · obtain ⟨s, c, T, m, rfl, _⟩ := h
    rfl
  · obtain ⟨s, c, T, m, rfl, S, hT, hm0, hm, q⟩ := h
    have nd := sc_law_take.nd
    have hu := hu_of hr
    obtain ⟨⟨t, ⟨ht0, ht⟩, es⟩, ⟨ns, l0, l63, ec⟩⟩ := id S
    have nsc : s ≠ c := S.ne
    refine ⟨_, (pss_cons (ps_set (i := 2) nd rfl (Or.inl rfl) (pe_op op_add (pe_dget hu (pv 0) pe_str (fun _ _ => rfl)) pe_int))
      (pss_cons (ps_dput hu (pv 0) pe_str (pv 2) rfl)
      (pss_cons (ps_set (i := 3) nd rfl (Or.inl rfl) (pe_op op_mod (pv 2) (pe_callB call_len_seq (by rfl) nb.b_len (by decide +kernel) (pa_cons (pe_dget hu (pv 0) pe_str (fun _ _ => rfl)) pa_nil))))
      (pss_cons (ps_set (i := 4) nd rfl (Or.inl rfl) (pe_ix ix_list (pe_dget hu (pv 0) pe_str (fun _ _ => rfl)) (pv 3) (fun _ _ => rfl)))
      (pss_cons (ps_if (pt_cmpR op_ge (pv 4) (pe_op op_pow pe_int pe_int) (nomark _))
        (pss_cons (ps_asg (pe_callB call_divmodW (by rfl) nb.b_divmod (by decide +kernel) (pa_cons (pv 4) (pa_cons (pv 1) pa_nil))) (pg_tup rfl (pgs_cons (pg_sub (pe_dget hu (pv 0) pe_str (fun _ _ => rfl)) (pv 3) set_list) (pgs_cons (pg_name (i := 5) nd rfl (Or.inl rfl)) pgs_nil))))
        (pss_one (ps_ret (pv 5))))
        pss_nil)
      (pss_cons (ps_set (i := 6) nd rfl (Or.inl rfl) (pe_op op_add (pe_op op_mod (pv 4) pe_int) (pe_op op_mul (pe_op op_mod (pe_op op_fdivW (pv 4) pe_int) pe_int) pe_int)))
      (pss_cons (ps_set (i := 7) nd rfl (Or.inl rfl) (pe_op op_mod (pe_op op_mul (pe_op op_add (pe_op op_add (pv 6) (pe_op op_mul (pe_op op_mul (pv 2) (pv 2)) pe_int)) pe_int) pe_int) pe_int))
      (pss_cons (ps_set (i := 7) nd rfl (Or.inl rfl) (pe_op op_mod (pe_op op_mul (pv 7) (pv 7)) pe_int))
      (pss_one (ps_ret (pe_op op_mod (pe_op op_fdivW (pe_op op_mod (pe_op op_mul (pe_op op_add (pv 7) (pe_op op_mul (pv 2) pe_int)) pe_int) pe_int) pe_int) (pv 1)))))))))))), ?_⟩
    -- turn = state['turn'] + 1; state['turn'] = turn
    refine ⟨.ref s, rfl, s, _, rfl, stD_turn c t ▸ DGet.k (k := kTurn) es, _, _, rfl, rfl, ?_⟩
    refine ⟨_, rfl, .ref s, rfl, s, _, rfl, DPut.k (k := kTurn) es (by show 2 < sizeLine; decide), ?_⟩
    rw [stD_put]
    have es1 : (upd H s (.dK (stD c (t + 1)))) s = some (.dK (stD c (t + 1))) := upd_same
    have ec1 : (upd H s (.dK (stD c (t + 1)))) c = some (.lst (ns.map V.int)) := by rw [upd_ne nsc.symm]; exact ec
    have S1 : StAt (upd H s (.dK (stD c (t + 1)))) s c (T + 1) := ⟨⟨t + 1, ⟨by omega, by omega⟩, es1⟩, ⟨ns, l0, l63, ec1⟩⟩
    have K1 : Kept [s, c] H (upd H s (.dK (stD c (t + 1)))) := Kept.upd_in (List.mem_cons_self ..)
    generalize hH1 : upd H s (.dK (stD c (t + 1))) = H1 at es1 ec1 S1 K1
    have gc1 : DGet H1 s (.str "cells") (some (.ref c)) := stD_cells c (t + 1) ▸ DGet.k (k := kCells) es1
    have lm : (ns.map V.int).length = ns.length := List.length_map ..
    -- place = turn % len(state['cells'])
    refine ⟨_, rfl, .ref s, rfl, s, _, rfl, gc1, c, _, rfl, .inl (.inl (.inl ec1)), _, _, rfl, rfl, (by rw [lm]; omega), ?_⟩
    rw [lm]
    dsimp only
    generalize hpl : (t + 1) % (ns.length : Int) = pl
    have hp0 : 0 ≤ pl := by rw [← hpl]; exact Int.emod_nonneg _ (by omega)
    have hp1 : pl < ns.length := by rw [← hpl]; exact Int.emod_lt_of_pos _ (by omega)
    -- cell = state['cells'][place]
    obtain ⟨j, rfl⟩ : ∃ j : Nat, pl = (j : Int) := ⟨pl.toNat, by omega⟩
    have hj : j < ns.length := by omega
    have gj : (ns.map V.int)[j]? = some (.int ns[j]) := by rw [List.getElem?_map, List.getElem?_eq_getElem hj]; rfl
    refine ⟨.ref s, rfl, s, _, rfl, gc1, _, rfl, c, _, _, .int ns[j], rfl, rfl, .inl (.inl ec1), atI_nat gj, ?_⟩
    generalize ns[j] = x
    -- if cell >= 10 ** 18
    refine ⟨.int x, rfl, 10, 18, rfl, rfl, ⟨by decide, by decide, by decide⟩, _, _, rfl, rfl, _, rfl, ite2 (fun hc => ?_) (fun _ => ?_)⟩
    · -- state['cells'][place], digit = divmod(cell, many)
      refine ⟨.int x, rfl, .int m, rfl, _, _, rfl, cdiv_of hm0 hm, fun p np => ?_⟩
      have nps : s ≠ p := ne_of_none es1 np
      have npc : c ≠ p := ne_of_none ec1 np
      have es2 : (upd H1 p (.tup [.int (x / m), .int (x % m)])) s = some (.dK (stD c (t + 1))) := by rw [upd_ne nps]; exact es1
      have ec2 : (upd H1 p (.tup [.int (x / m), .int (x % m)])) c = some (.lst (ns.map V.int)) := by rw [upd_ne npc]; exact ec1
      have gc2 : DGet (upd H1 p (.tup [.int (x / m), .int (x % m)])) s (.str "cells") (some (.ref c)) := stD_cells c (t + 1) ▸ DGet.k (k := kCells) es2
      refine ⟨p, _, rfl, .inl (.inl upd_same), rfl, .int (x / m), _, rfl, .ref s, rfl, s, _, rfl, gc2, _, rfl, c, _, _, j, rfl, rfl, ec2, by rw [lm]; exact ixN_nat hj, ?_⟩
      refine ⟨.int (x % m), [], rfl, rfl, .int (x % m), rfl, ?_⟩
      have em : ((ns.map V.int).set j (.int (x / m))) = (ns.set j (x / m)).map V.int := by rw [List.map_set]
      rw [em]
      refine q _ _ (Int.emod_nonneg _ (by omega)) (Int.emod_lt_of_pos _ hm0) ⟨⟨t + 1, ⟨by omega, by omega⟩, by rw [upd_ne nsc]; exact es2⟩, ⟨_, by rw [List.length_set]; exact l0, by rw [List.length_set]; exact l63, upd_same⟩⟩ ?_
      exact (K1.trans (Kept.upd_new np)).trans (Kept.upd_in (List.mem_cons_of_mem _ (List.mem_cons_self ..)))
    · have h1 : (0 : Int) ≤ x % 2147483629 ∧ x % 2147483629 < 2147483629 := ⟨Int.emod_nonneg _ (by decide), Int.emod_lt_of_pos _ (by decide)⟩
      have h2 : (0 : Int) ≤ x / 2147483629 % 40009 ∧ x / 2147483629 % 40009 < 40009 := ⟨Int.emod_nonneg _ (by decide), Int.emod_lt_of_pos _ (by decide)⟩
      have ht1 : t + 1 ≤ 1000001 := by omega
      have htt : (t + 1) * (t + 1) ≤ 1000001 * 1000001 := Int.mul_le_mul ht1 ht1 (by omega) (by omega)
      have htt0 : 0 ≤ (t + 1) * (t + 1) := Int.mul_nonneg (by omega) (by omega)
      -- wide
      refine ⟨.int x, rfl, _, _, rfl, rfl, (by decide : (0 : Int) < 2147483629), .int x, rfl, _, _, rfl, rfl, wide_div (b := 32) (by decide) (by decide) (by decide) (by decide), _, _, rfl, rfl, (by decide : (0 : Int) < 40009), _, _, rfl, rfl, .inr ⟨by decide, by decide⟩, _, _, rfl, rfl, ?_⟩
      dsimp only
      generalize hw : x % 2147483629 + x / 2147483629 % 40009 * 977 = wd
      have hw0 : 0 ≤ wd := by omega
      have hw1 : wd < 2 ^ 32 := by omega
      -- mixed
      refine ⟨.int wd, rfl, .int (t + 1), rfl, .int (t + 1), rfl, _, _, rfl, rfl, .inl ⟨by omega, by omega⟩, _, _, rfl, rfl, .inr ⟨by decide, by decide⟩, _, _, rfl, rfl, _, _, rfl, rfl, _, _, rfl, rfl, .inr ⟨by decide, by decide⟩, _, _, rfl, rfl, (by decide : (0 : Int) < 2147483647), ?_⟩
      dsimp only
      generalize hx1 : (wd + (t + 1) * (t + 1) * 6007 + 29) * 48271 % 2147483647 = x1
      have hx1a : 0 ≤ x1 ∧ x1 < 2147483647 := by rw [← hx1]; exact ⟨Int.emod_nonneg _ (by decide), Int.emod_lt_of_pos _ (by decide)⟩
      refine ⟨.int x1, rfl, .int x1, rfl, _, _, rfl, rfl, .inl ⟨by omega, by omega⟩, _, _, rfl, rfl, (by decide : (0 : Int) < 2147483579), ?_⟩
      dsimp only
      generalize hx2 : x1 * x1 % 2147483579 = x2
      have hx2a : 0 ≤ x2 ∧ x2 < 2147483579 := by rw [← hx2]; exact ⟨Int.emod_nonneg _ (by decide), Int.emod_lt_of_pos _ (by decide)⟩
      refine ⟨.int x2, rfl, .int (t + 1), rfl, _, _, rfl, rfl, .inr ⟨by decide, by decide⟩, _, _, rfl, rfl, _, _, rfl, rfl, .inr ⟨by decide, by decide⟩, _, _, rfl, rfl, (by decide : (0 : Int) < 2147483629), _, _, rfl, rfl, wide_div (b := 8) (by decide) (by decide) (by decide) (by decide), .int m, rfl, _, _, rfl, rfl, hm0, ?_⟩
      exact q _ _ (Int.emod_nonneg _ (by omega)) (Int.emod_lt_of_pos _ hm0) S1 K1
theorem take_at {H : Hp} {s c : Addr} {T : Nat} {m : Int} {Q : VK} {E : XK} (S : StAt H s c T) (hT : T ≤ 1000000) (h0 : 0 < m) (h1 : m < 2 ^ 62)
    (q : ∀ (d : Int) (H' : Hp), 0 ≤ d → d < m → StAt H' s c (T + 1) → Kept [s, c] H H' → Q (.int d) H') : spTake [.ref s, .int m] H Q E := ⟨s, c, T, m, rfl, S, hT, h0, h1, q⟩
def spSome (K : PySem.W.Frag) : Sp := fun vs H Q _ => ∃ (s c p : Addr) (T : Nat) (xs : List V), vs = [.ref s, .ref p] ∧ StAt H s c T ∧ T ≤ 1000000 ∧ p ∉ [s, c] ∧ (SqL K H p xs ∨ SqT K H p xs) ∧ 0 < xs.length ∧ xs.length < 2 ^ 62 ∧
  ∀ (j : Nat) (v : V) (H' : Hp), xs[j]? = some v → StAt H' s c (T + 1) → Kept [s, c] H H' → Q v H'
abbrev s_law_some : Stmt := topS 26
abbrev N_law_some : List Str := ["state", "things"]
theorem sc_law_some : FnScope N_law_some ["state", "things"] (defScope s_law_some) := ⟨rfl, rfl, rfl, by decide +kernel, rfl, by decide +kernel, by decide +kernel⟩

theorem ok_some {f : Addr} {fd : FuncData} (F : Fun K "_law_some" "_law_some" s_law_some f fd) (nb : NB mg) (D_law_take : Def P w K mg base 1 "_law_take" ["state", "many"] spTake) : FnOk P w K mg base CX0 2 f fd ["state", "things"] (spSome K) := by
  refine F.ok sc_law_some (fun vs H Q E h => ?_) (fun cdv A outer sh H vs Q E hr h => ?_)
  · obtain ⟨s, c, p, T, xs, rfl, _⟩ := h
    rfl
  · obtain ⟨s, c, p, T, xs, rfl, S, hT, hp, hx, l0, l1, q⟩ := h
    have nd := sc_law_some.nd
    have hu := hu_of hr
    refine ⟨_, (pss_one (ps_ret (pe_ix ix_seq (pv 1) (pe_own D_law_take hr (pa_cons (pv 0) (pa_cons (pe_callB call_len (by rfl) nb.b_len (by decide +kernel) (pa_cons (pv 1) pa_nil)) pa_nil))) (fun _ _ => rfl)))), ?_⟩
    refine ⟨.ref p, rfl, .ref s, rfl, .ref p, rfl, .ref p, xs.length, rfl, ?_, s, c, T, _, rfl, S, hT, by omega, by omega, fun d H1 h0 h1 S1 K1 => ?_⟩
    · rcases hx with hx | hx
      · exact .inl ⟨xs, hx, rfl⟩
      · exact .inr ⟨xs, hx, rfl⟩
    · obtain ⟨j, rfl⟩ : ∃ j : Nat, d = (j : Int) := ⟨d.toNat, by omega⟩
      have hj : j < xs.length := by omega
      have gj : xs[j]? = some xs[j] := List.getElem?_eq_getElem hj
      rcases hx with hx | hx
      · exact .inl ⟨p, xs, _, _, rfl, rfl, K1.seqL hp hx, atI_nat gj, q j _ H1 gj S1 K1⟩
      · exact .inr (.inl ⟨p, xs, _, _, rfl, rfl, K1.seqT hp hx, atI_nat gj, q j _ H1 gj S1 K1⟩)
end
end TT

set_option Elab.async false
set_option linter.all false
set_option maxRecDepth 100000
namespace TT
open PySem PySem.Spec PyProof.Rows L2
/-! ### names: the mathematics -/
def cl (z : Str) : List Nat := z.cps.toList
def ofL (l : List Nat) : Str := ⟨l.toArray⟩
theorem cl_ofL (l : List Nat) : cl (ofL l) = l := rfl
theorem cl_app (a b : Str) : cl (a ++ b) = cl a ++ cl b := by
  show (a.cps ++ b.cps).toList = _
  exact Array.toList_append
theorem cl_inj {a b : Str} (h : cl a = cl b) : a = b := by
  cases a; cases b
  exact congrArg Str.mk (Array.toList_inj.mp h)
theorem ofL_cl (z : Str) : ofL (cl z) = z := cl_inj rfl
theorem cl_len (z : Str) : z.length = (cl z).length := rfl
def low (c : Nat) : Prop := 97 ≤ c ∧ c ≤ 122
structure NameOk (z : Str) : Prop where
  pos : 0 < (cl z).length
  top : (cl z).length ≤ 8
  low : ∀ c ∈ cl z, low c
def abc : Str := "abcdefghijklmnopqrstuvwxyz"
theorem abc_cl : cl abc = (List.range 26).map (· + 97) := by decide +kernel
theorem abc_at {i : Nat} (h : i < 26) : (cl abc)[i]? = some (i + 97) := by
  rw [abc_cl, List.getElem?_map, List.getElem?_range h]
  rfl
def words13 : List Str := ["table", "row", "many", "store", "old", "new", "put", "none", "tie", "drop", "set", "do", "to"]
theorem words_ok : ∀ z ∈ words13, NameOk z := by
  have h : words13.all (fun z => decide (0 < (cl z).length) && decide ((cl z).length ≤ 8) && (cl z).all fun c => decide (97 ≤ c) && decide (c ≤ 122)) = true := by decide +kernel
  intro z hz
  have h1 := List.all_eq_true.mp h z hz
  simp only [Bool.and_eq_true, decide_eq_true_eq, List.all_eq_true] at h1
  exact ⟨h1.1.1, h1.1.2, h1.2⟩
theorem words_nd : words13.Nodup := by decide +kernel
theorem words_len : words13.length = 13 := rfl
/-- the k-th plain name -/
def letterOf (first step : Int) (k : Nat) : Nat := ((first + step * k) % 26).toNat + 97
def plainN (st : List Nat) (at' : Nat) (first step short : Int) (k : Nat) : Str :=
  ofL (st.take at' ++ [letterOf first step k] ++ (if short = 0 then st.drop at' else (st.drop at').take (k % 3)))
theorem letterOf_low (first step : Int) (k : Nat) : low (letterOf first step k) := by
  have h1 := Int.emod_nonneg (first + step * k) (show (26 : Int) ≠ 0 by decide)
  have h2 := Int.emod_lt_of_pos (first + step * k) (show (0 : Int) < 26 by decide)
  unfold low letterOf
  omega
theorem plain_ok {st : List Nat} {at' : Nat} {first step short : Int} {k : Nat} (hs : ∀ c ∈ st, low c) (hl : st.length ≤ 7) : NameOk (plainN st at' first step short k) := by
  have e : (cl (plainN st at' first step short k)) = st.take at' ++ [letterOf first step k] ++ (if short = 0 then st.drop at' else (st.drop at').take (k % 3)) := rfl
  refine ⟨?_, ?_, ?_⟩
  · rw [e]; simp; omega
  · rw [e, List.length_append, List.length_append, List.length_take, List.length_singleton]
    split
    · rw [List.length_drop]; omega
    · rw [List.length_take, List.length_drop]; omega
  · rw [e]
    intro c hc
    rw [List.mem_append, List.mem_append, List.mem_singleton] at hc
    rcases hc with (h | h) | h
    · exact hs c (List.mem_of_mem_take h)
    · rw [h]; exact letterOf_low ..
    · split at h
      · exact hs c (List.mem_of_mem_drop h)
      · exact hs c (List.mem_of_mem_drop (List.mem_of_mem_take h))
theorem plain_inj {st : List Nat} {at' : Nat} {first step short : Int} {i j : Nat} (ha : at' ≤ st.length) (hs : step = 3 ∨ step = 5 ∨ step = 25) (hi : i < 26) (hj : j < 26) (e : plainN st at' first step short i = plainN st at' first step short j) : i = j := by
  have e1 := congrArg cl e
  have e2 : (cl (plainN st at' first step short i))[at']? = (cl (plainN st at' first step short j))[at']? := by rw [e1]
  have key : ∀ k, (cl (plainN st at' first step short k))[at']? = some (letterOf first step k) := fun k => by
    show (st.take at' ++ [letterOf first step k] ++ (if short = 0 then st.drop at' else (st.drop at').take (k % 3)))[at']? = _
    rw [List.append_assoc, List.getElem?_append_right (by rw [List.length_take]; omega), List.length_take, Nat.min_eq_left ha, Nat.sub_self]
    rfl
  rw [key, key] at e2
  have e3 := Option.some.inj e2
  unfold letterOf at e3
  rcases hs with rfl | rfl | rfl <;> omega
theorem str_len_app (a b : Str) : (a ++ b).length = a.length + b.length := by rw [cl_len, cl_app, List.length_append]; rfl
theorem cut_cl (z : Str) (lo hi : Option Int) : cl (cutS z lo hi) = ((cl z).drop (HT.sIx z.length 0 lo)).take (HT.sIx z.length z.length hi - HT.sIx z.length 0 lo) := rfl
def wordAt (first : Int) (k : Nat) : Str := words13.getD ((first + k) % 13).toNat Str.empty
theorem wordAt_get (first : Int) (k : Nat) : words13[((first + k) % 13).toNat]? = some (wordAt first k) := by
  have g0 := Int.emod_nonneg (first + k) (show (13 : Int) ≠ 0 by decide)
  have g1 := Int.emod_lt_of_pos (first + k) (show (0 : Int) < 13 by decide)
  have h : ((first + k) % 13).toNat < words13.length := by rw [words_len]; omega
  unfold wordAt
  rw [List.getD_eq_getElem?_getD, List.getElem?_eq_getElem h]
  rfl
theorem wordAt_mem (first : Int) (k : Nat) : wordAt first k ∈ words13 := List.mem_of_getElem? (wordAt_get first k)
theorem wordAt_inj {first : Int} {i j : Nat} (hi : i < 13) (hj : j < 13) (e : wordAt first i = wordAt first j) : i = j := by
  have g0 := Int.emod_nonneg (first + i) (show (13 : Int) ≠ 0 by decide)
  have g1 := Int.emod_lt_of_pos (first + i) (show (0 : Int) < 13 by decide)
  have g2 := Int.emod_nonneg (first + j) (show (13 : Int) ≠ 0 by decide)
  have g3 := Int.emod_lt_of_pos (first + j) (show (0 : Int) < 13 by decide)
  have h1 := wordAt_get first i
  have h2 := wordAt_get first j
  rw [e] at h1
  have h3 := (List.getElem?_inj (by rw [words_len]; omega) words_nd).mp (h1.trans h2.symm)
  omega
/-- the names, some of them words: the k first ones have been gone through -/
structure Mixed (first : Int) (ps : List Str) (k : Nat) (fs : List Str) : Prop where
  len : fs.length = ps.length
  it : ∀ (i : Nat) (z : Str), fs[i]? = some z → ps[i]? = some z ∨ (i < k ∧ z = wordAt first i ∧ z ∉ ps)
theorem mixed_start (first : Int) {ps : List Str} (_ : ps.Nodup) (_ : ∀ z ∈ ps, NameOk z) : Mixed first ps 0 ps := ⟨rfl, fun _ _ h => .inl h⟩
theorem Mixed.skip {first : Int} {ps fs : List Str} {k : Nat} (h : Mixed first ps k fs) : Mixed first ps (k + 1) fs :=
  ⟨h.len, fun i z e => (h.it i z e).imp id fun q => ⟨by omega, q.2⟩⟩
theorem Mixed.put {first : Int} {ps fs : List Str} {k : Nat} (h : Mixed first ps k fs) (hn : wordAt first k ∉ ps) (_ : k < 13) : Mixed first ps (k + 1) (fs.set k (wordAt first k)) :=
  ⟨by rw [List.length_set]; exact h.len, fun i z e => by
    rw [List.getElem?_set] at e
    split at e
    · rename_i hk
      split at e
      · cases e; subst hk; exact .inr ⟨by omega, rfl, hn⟩
      · cases e
    · exact (h.it i z e).imp id fun q => ⟨by omega, q.2⟩⟩
theorem Mixed.ok {first : Int} {ps fs : List Str} {k : Nat} (h : Mixed first ps k fs) (ok : ∀ z ∈ ps, NameOk z) : ∀ z ∈ fs, NameOk z := by
  intro z hz
  obtain ⟨i, hi⟩ := List.getElem?_of_mem hz
  rcases h.it i z hi with q | ⟨_, rfl, _⟩
  · exact ok z (List.mem_of_getElem? q)
  · exact words_ok _ (wordAt_mem ..)
theorem Mixed.nodup {first : Int} {ps fs : List Str} {k : Nat} (h : Mixed first ps k fs) (nd : ps.Nodup) (hk : k ≤ 13) : fs.Nodup := by
  rw [List.nodup_iff_pairwise_ne, List.pairwise_iff_getElem]
  intro i j hi hj hij e3
  have e1 := List.getElem?_eq_getElem hi
  have e2 := List.getElem?_eq_getElem hj
  rcases h.it i _ e1 with q1 | ⟨k1, w1, n1⟩ <;> rcases h.it j _ e2 with q2 | ⟨k2, w2, n2⟩
  · rw [e3] at q1
    have := (List.getElem?_inj (by rw [← h.len]; exact hi) nd).mp (q1.trans q2.symm)
    omega
  · rw [← e3] at n2
    exact n2 (List.mem_of_getElem? q1)
  · rw [e3] at n1
    exact n1 (List.mem_of_getElem? q2)
  · have := wordAt_inj (by omega) (by omega) (w1.symm.trans (e3.trans w2))
    omega
theorem flat_strs : ∀ zs : List Str, (zs.map V.str).all flatV = true
  | [] => rfl
  | _ :: zs => flat_strs zs
theorem inV_strs (z : Str) (zs : List Str) : inV (.str z) (zs.map V.str) = decide (z ∈ zs) := by
  induction zs with
  | nil => rfl
  | cons y r ih =>
    show (eqV (.str y) (.str z) || inV (.str z) (r.map V.str)) = _
    rw [ih]
    show ((y == z) || decide (z ∈ r)) = _
    by_cases h : y = z
    · subst h; simp
    · have h' : ¬ z = y := fun e => h e.symm
      simp [h, h']
def one (c : Nat) : Str := ⟨#[c]⟩
theorem cl_one (c : Nat) : cl (one c) = [c] := rfl
theorem sum_ones : ∀ l : List Nat, (l.map ((fun x : Str => x.length) ∘ one)).sum = l.length
  | [] => rfl
  | _ :: l => by
    rw [List.map_cons, List.sum_cons, sum_ones l]
    show 1 + l.length = l.length + 1
    omega
theorem join_ones (l : List Nat) : cl (Txt.join (Str.ofString "") (l.map one)) = l := by
  rw [TL.join_eq]
  induction l with
  | nil => rfl
  | cons x r ih =>
    cases r with
    | nil => rfl
    | cons y r =>
      show cl (one x ++ Str.ofString "" ++ Str.join (Str.ofString "") ((y :: r).map one)) = _
      rw [cl_app, cl_app, ih]
      rfl
section
variable {P : Program} {w : World} {K : PySem.W.Frag} {mg : Str → Option Value} {base : Heap}
def spNames : Sp := fun vs H Q _ => ∃ (s c : Addr) (T m : Nat), vs = [.ref s, .int m] ∧ StAt H s c T ∧ T + 30 ≤ 1000000 ∧ m ≤ 26 ∧
  ∀ (p : Addr) (zs : List Str) (H' : Hp), zs.length = m → zs.Nodup → (∀ z ∈ zs, NameOk z) → H p = none → H' p = some (.lst (zs.map V.str)) → StAt H' s c (T + 30) → Kept [s, c] H H' → Q (.ref p) H'
theorem Kept.fresh {M : List Addr} {H H' : Hp} (h : Kept M H H') {p : Addr} (n : H' p = none) (hm : ∀ q ∈ M, q ≠ p) : H p = none := by
  cases e : H p with
  | none => rfl
  | some o =>
    have := h p o e fun z => hm p z rfl
    rw [n] at this
    cases this
abbrev s_law_names : Stmt := topS 27
abbrev N_law_names : List Str := ["state", "many", "letters", "first", "way", "stem", "at", "step", "short", "plain", "some", "k", "name", "found", "word", "turn"]
theorem sc_law_names : FnScope N_law_names ["state", "many"] (defScope s_law_names) := ⟨rfl, rfl, rfl, by decide +kernel, rfl, by decide +kernel, by decide +kernel⟩

theorem ok_names {f : Addr} {fd : FuncData} (F : Fun K "_law_names" "_law_names" s_law_names f fd) (nb : NB mg) (D_law_take : Def P w K mg base 1 "_law_take" ["state", "many"] spTake) : FnOk P w K mg base CX0 2 f fd ["state", "many"] spNames := by
  refine F.ok sc_law_names (fun vs H Q E h => ?_) (fun cdv A outer sh H vs Q E hr h => ?_)
  · obtain ⟨s, c, T, m, rfl, _⟩ := h
    rfl
  · obtain ⟨s, c, T, m, rfl, S, hT, hm, q⟩ := h
    have nd := sc_law_names.nd
    have hu := hu_of hr
    refine ⟨_, (pss_cons (ps_asg (pe_tup (pa_cons pe_str (pa_cons (pe_own D_law_take hr (pa_cons (pv 0) (pa_cons pe_int pa_nil))) (pa_cons (pe_own D_law_take hr (pa_cons (pv 0) (pa_cons pe_int pa_nil))) pa_nil)))) (pg_tup rfl (pgs_cons (pg_name (i := 2) nd rfl (Or.inr rfl)) (pgs_cons (pg_name (i := 3) nd rfl (Or.inl rfl)) (pgs_cons (pg_name (i := 4) nd rfl (Or.inl rfl)) pgs_nil)))))
      (pss_cons (ps_set (i := 5) nd rfl (Or.inl rfl) (pe_join pe_str (pe_lc (own := [("turn", 15)]) (g := (gName 15)) (tt := tYes) rfl nd (pi_range1 (by rfl) nb.b_range (pa_cons (pe_own D_law_take hr (pa_cons (pv 0) (pa_cons pe_int pa_nil))) pa_nil)) (blkOk_by (N := N_law_names) (sc := defScope s_law_names) (by decide +kernel)) (fun _ _ _ _ _ => (pg_name (i := 15) nd rfl (Or.inl rfl))) (fun _ _ _ _ _ => pts_nil) (fun _ _ _ _ _ => (pe_item_str (pv 2) (pe_own D_law_take hr (pa_cons (pv 0) (pa_cons pe_int pa_nil))) (fun _ _ => rfl))))))
      (pss_cons (ps_par3 (i := 6) (j := 7) (l := 8) (by rfl) nd rfl rfl rfl (by decide) (by decide) (by decide) rfl rfl rfl (pa_cons (pe_own D_law_take hr (pa_cons (pv 0) (pa_cons (pe_op op_add (pe_callB call_len_str (by rfl) nb.b_len (by decide +kernel) (pa_cons (pv 5) pa_nil)) pe_int) pa_nil))) (pa_cons (pe_ix ix_list (pe_lst (pa_cons pe_int (pa_cons pe_int (pa_cons pe_int pa_nil)))) (pe_own D_law_take hr (pa_cons (pv 0) (pa_cons pe_int pa_nil))) (fun _ _ => rfl)) (pa_cons (pe_own D_law_take hr (pa_cons (pv 0) (pa_cons pe_int pa_nil))) pa_nil))) (by rfl))
      (pss_cons (ps_par (i := 9) (j := 10) (by rfl) nd rfl rfl (by decide) rfl rfl (pa_cons (pe_lst pa_nil) (pa_cons (pe_lst (pa_cons pe_str (pa_cons pe_str (pa_cons pe_str (pa_cons pe_str (pa_cons pe_str (pa_cons pe_str (pa_cons pe_str (pa_cons pe_str (pa_cons pe_str (pa_cons pe_str (pa_cons pe_str (pa_cons pe_str (pa_cons pe_str pa_nil)))))))))))))) pa_nil)) (by rfl))
      (pss_cons (ps_for PassesOwn.never rfl (pi_range1 (by rfl) nb.b_range (pa_cons (pv 1) pa_nil)) (pg_name (i := 11) nd rfl (Or.inl rfl))
        (pss_cons (ps_set (i := 12) nd rfl (Or.inl rfl) (pe_op op_add_str (pe_slice sl_str (pv 5) po_none (po_some (pv 6))) (pe_item_str (pv 2) (pe_op op_mod (pe_op op_add (pv 3) (pe_op op_mul (pv 7) (pv 11))) pe_int) (fun _ _ => rfl))))
        (pss_one (ps_expr (pe_bm PySem.F.plainAttrs_list PySem.F.slot_list_append PySem.F.type_list_append mt_append (pv 9) (pa_cons (pe_op op_add_str (pv 12) (pe_ix ix_list (pe_lst (pa_cons (pe_slice sl_str (pv 5) (po_some (pv 6)) po_none) (pa_cons (pe_slice sl_str (pe_slice sl_str (pv 5) (po_some (pv 6)) po_none) po_none (po_some (pe_op op_mod (pv 11) pe_int))) pa_nil))) (pv 8) (fun _ _ => rfl))) pa_nil))))))
      (pss_cons (ps_set (i := 13) nd rfl (Or.inl rfl) (pe_callTy call_list_of (by rfl) nb.b_list (by decide +kernel) (pa_cons (pv 9) pa_nil)))
      (pss_cons (ps_for PassesOwn.never rfl (pi_range1 (by rfl) nb.b_range (pa_cons (pe_op op_mul (pe_callB (call_min2 rfl) (by rfl) nb.b_min (by decide +kernel) (pa_cons (pv 1) (pa_cons pe_int pa_nil))) (pe_callTy call_int1 (by rfl) nb.b_int (by decide +kernel) (pa_cons (pe_cmpR op_eq (pv 4) pe_int (nomark _)) pa_nil))) pa_nil)) (pg_name (i := 11) nd rfl (Or.inl rfl))
        (pss_cons (ps_set (i := 14) nd rfl (Or.inl rfl) (pe_ix ix_list (pv 10) (pe_op op_mod (pe_op op_add (pv 3) (pv 11)) pe_int) (fun _ _ => rfl)))
        (pss_one (ps_if (PW.pt (pw_and (pt_cmpR op_notIn_seq (pv 14) (pv 9) (by rfl)) (pw_and1 (pt_cmpR op_eq (pe_own D_law_take hr (pa_cons (pv 0) (pa_cons pe_int pa_nil))) pe_int (nomark _)))))
          (pss_one (ps_asg (pv 14) (pg_sub (pv 13) (pv 11) set_list)))
          pss_nil))))
      (pss_one (ps_ret (pv 13)))))))))), ?_⟩
    -- letters, first, way
    refine ⟨.ref s, rfl, s, c, T, _, rfl, S, by omega, by decide, by decide, fun first H1 f0 f1 S1 K1 => ?_⟩
    refine ⟨.ref s, rfl, s, c, T + 1, _, rfl, S1, by omega, by decide, by decide, fun way H2 w0 w1 S2 K2 => ?_⟩
    refine ⟨(by show 3 ≤ sizeLine; decide), fun p2 n2 => ?_⟩
    have S2' := S2.upd_new (o := .tup [.str abc, .int first, .int way]) n2
    have K2' : Kept [s, c] H (upd H2 p2 (.tup [.str abc, .int first, .int way])) := (K1.trans K2).trans (Kept.upd_new n2)
    refine ⟨p2, _, rfl, .inl (.inl upd_same), rfl, _, _, rfl, _, _, rfl, _, _, rfl, rfl, ?_⟩
    -- stem
    refine ⟨⟨_, rfl⟩, .ref s, rfl, s, c, T + 2, _, rfl, S2', by omega, by decide, by decide, fun n H4 n0 n1 S4 K4 => ⟨n, rfl, by omega, by omega, fun D nD => ?_⟩⟩
    have nsD : s ≠ D := S4.nes nD
    have ncD : c ≠ D := S4.nec nD
    refine lc_range (lo := 0) (n := n.toNat) (fun i H' => ∃ l : List Nat, l.length = i ∧ (∀ x ∈ l, low x) ∧ H' D = some (.lst ((l.map one).map V.str)) ∧ StAt H' s c (T + 3 + i) ∧ Kept [D, s, c] H4 H') ⟨[], rfl, fun _ h => absurd h List.not_mem_nil, upd_same, S4.upd_new nD, Kept.upd_in (List.mem_cons_self ..)⟩ (fun i H5 hi hP => ?_) (fun H5 hP => ?_)
    · obtain ⟨l, el, hl, eD, S5, K5⟩ := hP
      refine ⟨rfl, ?_⟩
      unfold tYes
      dsimp only
      refine iteT ?_
      refine ⟨.str abc, rfl, .ref s, rfl, s, c, _, _, rfl, S5, by omega, by decide, by decide, fun d H6 d0 d1 S6 K6 => ?_⟩
      obtain ⟨j, rfl⟩ : ∃ j : Nat, d = (j : Int) := ⟨d.toNat, by omega⟩
      have hj : j < 26 := by omega
      have eD6 : H6 D = some (.lst ((l.map one).map V.str)) := K6 D _ eD (by simp [nsD.symm, ncD.symm])
      refine ⟨abc, (j : Int), j + 97, rfl, rfl, by omega, by omega, ?_, ?_, _, eD6, ?_, l ++ [j + 97], ?_, ?_, ?_, ?_, ?_⟩
      · rw [cl_len, abc_cl]; simp; omega
      · show abc.cps[j]? = _
        rw [← Array.getElem?_toList]; exact abc_at hj
      · rw [List.length_map, List.length_map]; exact small1000 (by omega)
      · rw [List.length_append, el]; rfl
      · intro x hx
        rcases List.mem_append.mp hx with h | h
        · exact hl x h
        · rw [List.mem_singleton.mp h]; unfold low; omega
      · rw [upd_same, List.map_append, List.map_append]; rfl
      · exact S6.upd nsD ncD
      · exact (K5.trans (K6.mono (by intro p hp; exact List.mem_cons_of_mem _ hp))).trans (Kept.upd_in (List.mem_cons_self ..))
    obtain ⟨st, el, hlow, eD, S5, K5⟩ := hP
    refine ⟨_, D, st.map one, rfl, rfl, .inl (.inl (.inl eD)), ?_, ?_⟩
    · rw [List.map_map, sum_ones]
      show st.length + (st.map one).length * 0 ≤ _
      omega
    generalize hz5 : Txt.join (Str.ofString "") (st.map one) = z5
    have c5 : cl z5 = st := by rw [← hz5]; exact join_ones st
    have l5 : z5.length = st.length := by rw [cl_len, c5]
    have st7 : st.length ≤ 7 := by omega
    have S5 : StAt H5 s c (T + 10) := S5.mono (by omega)
    have K5 : Kept [s, c] H H5 := K2'.trans (K4.trans (K5.new nD))
    clear eD hz5 nsD ncD K4 S4 nD n1 n0 el
    -- at, step, short
    refine ⟨.ref s, rfl, .str z5, rfl, z5, rfl, (by rw [l5]; exact Nat.le_of_lt (small1000 (by omega))), _, _, rfl, rfl, s, c, _, _, rfl, S5, by omega, ?_, ?_, fun a H6 a0 a1 S6 K6 => ?_⟩
    · show (0 : Int) < z5.length + 1; omega
    · show (z5.length : Int) + 1 < 2 ^ 62; omega
    obtain ⟨a, rfl⟩ : ∃ j : Nat, a = (j : Int) := ⟨a.toNat, by omega⟩
    have ha : a ≤ st.length := by
      have a1' : (a : Int) < z5.length + 1 := a1
      omega
    refine ⟨(by show 3 ≤ sizeLine; decide), fun p7 n7 => ?_⟩
    refine ⟨.ref s, rfl, s, c, _, _, rfl, S6.upd_new n7, by omega, by decide, by decide, fun e7 H7 e0 e1 S7 K7 => ?_⟩
    have h7 : H7 p7 = some (.lst [.int 3, .int 5, .int 25]) := K7 p7 _ upd_same (by simp [(S6.nes n7).symm, (S6.nec n7).symm])
    obtain ⟨step, hst, hat⟩ : ∃ step : Int, (step = 3 ∨ step = 5 ∨ step = 25) ∧ atI [V.int 3, V.int 5, V.int 25] e7 = some (.int step) := by
      have : e7 = 0 ∨ e7 = 1 ∨ e7 = 2 := by omega
      rcases this with rfl | rfl | rfl
      · exact ⟨3, .inl rfl, rfl⟩
      · exact ⟨5, .inr (.inl rfl), rfl⟩
      · exact ⟨25, .inr (.inr rfl), rfl⟩
    refine ⟨p7, _, _, _, rfl, rfl, .inl (.inl h7), hat, .ref s, rfl, s, c, _, _, rfl, S7, by omega, by decide, by decide, fun sh8 H8 s0 s1 S8 K8 => ?_⟩
    have K8 : Kept [s, c] H H8 := K5.trans (K6.trans (((Kept.upd_new n7).trans K7).trans K8))
    refine ⟨_, _, _, rfl, ?_⟩
    clear K7 S7 h7 n7 hat e0 e1 K6 S6 K5 S5 S2' K2'
    -- plain, some
    refine ⟨Nat.zero_le _, fun P9 nP => ?_⟩
    have S9 := S8.upd_new (o := .lst []) nP
    refine ⟨(by show 13 ≤ sizeLine; decide), fun W9 nW => ?_⟩
    have S10 := S9.upd_new (o := .lst (words13.map V.str)) nW
    have nPW : P9 ≠ W9 := ne_of_none upd_same nW
    refine ⟨_, _, rfl, ?_⟩
    have nsP := S8.nes nP
    have ncP := S8.nec nP
    have nsW := S9.nes nW
    have ncW := S9.nec nW
    -- for k in range(many)
    refine ⟨.int m, rfl, (m : Int), rfl, by omega, by omega, ?_⟩
    generalize hN : plainN st a first step sh8 = nm
    refine for_range (lo := 0) (n := (m : Int).toNat) (fun k σ H' => (∃ y11 y12, σ = [some (.ref s), some (.int m), some (.str abc), some (.int first), some (.int way), some (.str z5), some (.int a), some (.int step), some (.int sh8), some (.ref P9), some (.ref W9), y11, y12, none, none, none]) ∧
      H' P9 = some (.lst (((List.range k).map nm).map V.str)) ∧ H' W9 = some (.lst (words13.map V.str)) ∧ StAt H' s c (T + 13) ∧ Kept [P9, W9, s, c] H8 H') ⟨⟨none, none, rfl⟩, by rw [upd_ne nPW]; exact upd_same, upd_same, S10, ?_⟩ (fun k σ H9 hk hP => ?_) (fun σ H9 hP => ?_)
    · exact (Kept.upd_in (List.mem_cons_self ..)).trans (Kept.upd_in (List.mem_cons_of_mem _ (List.mem_cons_self ..)))
    · obtain ⟨⟨y11, y12, rfl⟩, eP, eW, S11, K11⟩ := hP
      have hkm : k < 26 := by omega
      -- name = stem[:at] + letters[..]
      have hz : z5.length ≤ sizeLine := by rw [l5]; exact Nat.le_of_lt (small1000 (by omega))
      have hL := letterOf_low first step k
      have x0 := Int.emod_nonneg (first + step * k) (show (26 : Int) ≠ 0 by decide)
      have x1 := Int.emod_lt_of_pos (first + step * k) (show (0 : Int) < 26 by decide)
      refine ⟨.str z5, rfl, .int a, rfl, _, rfl, z5, rfl, hz, .str abc, rfl, .int first, rfl, .int step, rfl, .int (0 + (k : Int)), rfl, _, _, rfl, rfl, .inl ⟨by omega, by omega⟩, _, _, rfl, rfl, _, _, rfl, rfl, (by decide : (0 : Int) < 26), abc, (first + step * k) % 26, letterOf first step k, rfl, ?_, x0, by omega, ?_, ?_, ?_⟩
      · show V.int ((first + step * (0 + (k : Int))) % 26) = _
        rw [Int.zero_add]
      · rw [cl_len, abc_cl]; simp; omega
      · rw [← Array.getElem?_toList]
        have h := abc_at (i := ((first + step * k) % 26).toNat) (by omega)
        exact h
      have c1 : cl (cutS z5 none (some (a : Int))) = st.take a := by
        rw [cut_cl, c5, HT.sIx_none, HT.sIx_nat, l5, Nat.min_eq_left ha, Nat.sub_zero, List.drop_zero]
      refine ⟨_, _, rfl, rfl, ?_, ?_⟩
      · rw [cl_len, c1, List.length_take]
        exact Nat.le_of_lt (small1000 (by show min a st.length + 1 ≤ 1000; omega))
      generalize hnm : cutS z5 none (some (a : Int)) ++ (⟨#[letterOf first step k]⟩ : Str) = nam
      have cn : cl nam = st.take a ++ [letterOf first step k] := by rw [← hnm, cl_app, c1]; rfl
      -- plain.append(name + [.., ..][short])
      have c2 : cl (cutS z5 (some (a : Int)) none) = st.drop a := by
        rw [cut_cl, c5, HT.sIx_none, HT.sIx_nat, l5, Nat.min_eq_left ha, List.take_of_length_le]
        rw [List.length_drop]
        exact Nat.le_refl _
      have l2 : (cutS z5 (some (a : Int)) none).length = st.length - a := by rw [cl_len, c2, List.length_drop]
      refine ⟨.ref P9, rfl, .inl ⟨rfl, _, .inl (.inl eP)⟩, .str nam, rfl, .str z5, rfl, .int a, rfl, _, rfl, z5, rfl, hz, .str z5, rfl, .int a, rfl, _, rfl, z5, rfl, hz, .int (0 + (k : Int)), rfl, _, _, rfl, rfl, (by decide : (0 : Int) < 3), _, rfl, _, rfl, (by rw [l2]; exact Nat.le_of_lt (small1000 (by omega))), (by show 2 ≤ sizeLine; decide), fun p12 n12 => ?_⟩
      have neP : P9 ≠ p12 := ne_of_none eP n12
      have neW : W9 ≠ p12 := ne_of_none eW n12
      have c3 : cl (cutS (cutS z5 (some (a : Int)) none) none (some ((0 + (k : Int)) % 3))) = (st.drop a).take (k % 3) := by
        have ek : (0 + (k : Int)) % 3 = ((k % 3 : Nat) : Int) := by omega
        rw [ek, cut_cl, c2, HT.sIx_none, HT.sIx_nat, Nat.sub_zero, List.drop_zero, l2, List.take_eq_take_iff, List.length_drop]
        omega
      obtain ⟨tl8, htl, hat8⟩ : ∃ t8 : Str, cl t8 = (if sh8 = 0 then st.drop a else (st.drop a).take (k % 3)) ∧ atI [V.str (cutS z5 (some (a : Int)) none), V.str (cutS (cutS z5 (some (a : Int)) none) none (some ((0 + (k : Int)) % 3)))] sh8 = some (.str t8) := by
        have : sh8 = 0 ∨ sh8 = 1 := by omega
        rcases this with rfl | rfl
        · exact ⟨_, by rw [c2, if_pos rfl], rfl⟩
        · exact ⟨_, by rw [c3, if_neg (by decide)], rfl⟩
      refine ⟨.int sh8, rfl, p12, _, _, _, rfl, rfl, .inl (.inl upd_same), hat8, nam, tl8, rfl, rfl, ?_, P9, _, _, rfl, rfl, (by rw [upd_ne neP]; exact eP), ?_, ?_⟩
      · rw [cl_len, cl_len, cn, htl, List.length_append, List.length_take, List.length_singleton]
        refine Nat.le_of_lt (small1000 ?_)
        split
        · rw [List.length_drop]; omega
        · rw [List.length_take, List.length_drop]; omega
      · rw [List.length_map, List.length_map, List.length_range]; exact small1000 (by omega)
      · have en : nam ++ tl8 = nm k := by
          rw [← hN]
          refine cl_inj ?_
          rw [cl_app, cn, htl]
          rfl
        refine ⟨⟨some (.int (0 + (k : Int))), some (.str nam), rfl⟩, ?_, ?_, ?_, ?_⟩
        · rw [upd_same, List.range_succ, List.map_append, List.map_append, en]; rfl
        · rw [upd_ne nPW.symm, upd_ne neW]; exact eW
        · exact (S11.upd_new n12).upd nsP ncP
        · exact K11.trans ((Kept.upd_new n12).trans (Kept.upd_in (List.mem_cons_self ..)))
    · obtain ⟨⟨y11, y12, rfl⟩, eP, eW, S11, K11⟩ := hP
      have em : ((m : Int).toNat) = m := rfl
      rw [em] at eP
      have nodP : (((List.range m).map nm)).Nodup := by
        rw [List.nodup_iff_pairwise_ne, List.pairwise_map]
        refine List.Pairwise.imp_of_mem (fun {i j} hi hj hij => ?_) List.nodup_range
        intro z
        rw [← hN] at z
        exact hij (plain_inj ha hst (by have := List.mem_range.mp hi; omega) (by have := List.mem_range.mp hj; omega) z)
      have okP : ∀ z ∈ (List.range m).map nm, NameOk z := by
        intro z hz
        obtain ⟨k, _, rfl⟩ := List.mem_map.mp hz
        rw [← hN]
        exact plain_ok hlow st7
      have lenP : ((List.range m).map nm).length = m := by rw [List.length_map, List.length_range]
      generalize (List.range m).map nm = ps at eP nodP okP lenP
      clear hN nm S9 S10
      -- found = list(plain)
      refine ⟨.ref P9, rfl, P9, _, rfl, .inl (.inl (.inl eP)), fun F10 nF => ?_⟩
      have eF : (upd H9 F10 (.lst (ps.map V.str))) F10 = some (.lst (ps.map V.str)) := upd_same
      have nPF : P9 ≠ F10 := ne_of_none eP nF
      have nWF : W9 ≠ F10 := ne_of_none eW nF
      have nsF := S11.nes nF
      have ncF := S11.nec nF
      have eP1 : (upd H9 F10 (.lst (ps.map V.str))) P9 = some (.lst (ps.map V.str)) := by rw [upd_ne nPF]; exact eP
      have eW1 : (upd H9 F10 (.lst (ps.map V.str))) W9 = some (.lst (words13.map V.str)) := by rw [upd_ne nWF]; exact eW
      have S12 := S11.upd_new (o := .lst (ps.map V.str)) nF
      have K12 : Kept [P9, W9, s, c] H8 (upd H9 F10 (.lst (ps.map V.str))) := K11.trans (Kept.upd_new nF)
      have nF8 : H8 F10 = none := K11.fresh nF (by
        intro q hq
        simp only [List.mem_cons, List.not_mem_nil, or_false] at hq
        rcases hq with rfl | rfl | rfl | rfl
        · exact nPF
        · exact nWF
        · exact nsF
        · exact ncF)
      generalize upd H9 F10 (.lst (ps.map V.str)) = H10 at eF eP1 eW1 S12 K12 ⊢
      -- for k in range(min(many, 13) * int(way == 0))
      refine ⟨.int m, rfl, _, _, rfl, .int way, rfl, rfl, .inr ⟨_, rfl, _, _, rfl, rfl, .inl ⟨?_, ?_⟩, _, rfl, ?_, ?_, ?_⟩⟩
      · omega
      · omega
      · show -(2 ^ 62 : Int) ≤ (if (13 : Int) < (m : Int) then 13 else (m : Int)) * (if decide (V.int way = V.int 0) = true then 1 else 0)
        split <;> split <;> omega
      · show (if (13 : Int) < (m : Int) then 13 else (m : Int)) * (if decide (V.int way = V.int 0) = true then 1 else 0) < (2 ^ 62 : Int)
        split <;> split <;> omega
      · obtain ⟨N, hN, hN13, hNm⟩ : ∃ N : Nat, ((if (13 : Int) < (m : Int) then 13 else (m : Int)) * (if decide (V.int way = V.int 0) = true then 1 else 0) : Int).toNat = N ∧ N ≤ 13 ∧ N ≤ m := by
          refine ⟨_, rfl, ?_, ?_⟩ <;> (split <;> split <;> omega)
        rw [show ((if (13 : Int) < (m : Int) then 13 else (m : Int)) * (if decide (V.int way = V.int 0) = true then 1 else 0) : Int).toNat = N from hN]
        refine for_range (lo := 0) (n := N) (fun k σ H' => (∃ y11 y12 y14, σ = [some (.ref s), some (.int m), some (.str abc), some (.int first), some (.int way), some (.str z5), some (.int a), some (.int step), some (.int sh8), some (.ref P9), some (.ref W9), y11, y12, some (.ref F10), y14, none]) ∧
          (∃ fs : List Str, H' F10 = some (.lst (fs.map V.str)) ∧ Mixed first ps k fs) ∧ H' P9 = some (.lst (ps.map V.str)) ∧ H' W9 = some (.lst (words13.map V.str)) ∧ StAt H' s c (T + 13 + k) ∧ Kept [F10, P9, W9, s, c] H8 H') ⟨⟨y11, y12, none, rfl⟩, ⟨ps, eF, mixed_start first nodP okP⟩, eP1, eW1, S12, K12.mono (fun _ h => List.mem_cons_of_mem _ h)⟩ (fun k σ H11 hk hP => ?_) (fun σ H11 hP => ?_)
        · obtain ⟨⟨y11, y12, y14, rfl⟩, ⟨fs, eF, mx⟩, eP, eW, S13, K13⟩ := hP
          -- word = some[(first + k) % 13]
          have g0 := Int.emod_nonneg (first + k) (show (13 : Int) ≠ 0 by decide)
          have g1 := Int.emod_lt_of_pos (first + k) (show (0 : Int) < 13 by decide)
          have gw : (words13.map V.str)[((first + k) % 13).toNat]? = some (.str (wordAt first k)) := by
            rw [List.getElem?_map, wordAt_get first k]
            rfl
          refine ⟨.ref W9, rfl, .int first, rfl, .int (0 + (k : Int)), rfl, _, _, rfl, rfl, _, _, rfl, rfl, (by decide : (0 : Int) < 13), W9, _, _, .str (wordAt first k), rfl, rfl, .inl (.inl eW), ?_, ?_⟩
          · show atI (words13.map V.str) ((first + (0 + (k : Int))) % 13) = _
            rw [Int.zero_add, show (first + k) % 13 = ((((first + k) % 13).toNat : Nat) : Int) by omega]
            exact atI_nat gw
          -- if word not in plain and ..
          refine ⟨.str (wordAt first k), rfl, .ref P9, rfl, P9, _, rfl, .inl (.inl (.inl eP)), rfl, flat_strs ps, _, rfl, ?_⟩
          rw [if_pos rfl, inV_strs]
          refine ite2 (fun hn => ?_) (fun hn => ?_)
          · have hnot : wordAt first k ∉ ps := by simpa using hn
            refine ⟨.ref s, rfl, s, c, _, _, rfl, S13, by omega, by decide, by decide, fun d H12 d0 d1 S14 K14 => ?_⟩
            have out : ∀ q, q = P9 ∨ q = W9 ∨ q = F10 → q ∉ [s, c] := by
              intro q hq hm'
              simp only [List.mem_cons, List.not_mem_nil, or_false] at hm'
              rcases hq with rfl | rfl | rfl <;> rcases hm' with z | z
              · exact nsP z.symm
              · exact ncP z.symm
              · exact nsW z.symm
              · exact ncW z.symm
              · exact nsF z.symm
              · exact ncF z.symm
            have eF' := K14.at eF (out _ (.inr (.inr rfl)))
            have eP' := K14.at eP (out _ (.inl rfl))
            have eW' := K14.at eW (out _ (.inr (.inl rfl)))
            have K15 : Kept [F10, P9, W9, s, c] H8 H12 := K13.trans (K14.mono (by
              intro q hq
              exact List.mem_cons_of_mem _ (List.mem_cons_of_mem _ (List.mem_cons_of_mem _ hq))))
            refine ⟨rfl, _, rfl, ite2 (fun _ => ?_) (fun _ => ?_)⟩
            · -- found[k] = word
              refine ⟨.str (wordAt first k), rfl, .ref F10, rfl, .int (0 + (k : Int)), rfl, F10, _, _, k, rfl, rfl, eF', ?_, ?_⟩
              · rw [Int.zero_add, List.length_map, mx.len, lenP]
                exact ixN_nat (by omega)
              · refine ⟨⟨some (.int (0 + (k : Int))), y12, some (.str (wordAt first k)), rfl⟩, ⟨_, by rw [upd_same, ← List.map_set], mx.put hnot (by omega)⟩, by rw [upd_ne nPF]; exact eP', by rw [upd_ne nWF]; exact eW', (S14.upd nsF ncF).mono (by omega), K15.trans (Kept.upd_in (List.mem_cons_self ..))⟩
            · exact ⟨⟨some (.int (0 + (k : Int))), y12, some (.str (wordAt first k)), rfl⟩, ⟨fs, eF', mx.skip⟩, eP', eW', S14.mono (by omega), K15⟩
          · refine iteF ?_
            exact ⟨⟨some (.int (0 + (k : Int))), y12, some (.str (wordAt first k)), rfl⟩, ⟨fs, eF, mx.skip⟩, eP, eW, S13.mono (by omega), K13⟩
        · obtain ⟨⟨y11, y12, y14, rfl⟩, ⟨fs, eF, mx⟩, eP, eW, S13, K13⟩ := hP
          refine ⟨.ref F10, rfl, ?_⟩
          refine q F10 fs H11 (by rw [mx.len, lenP]) (mx.nodup nodP (by omega)) (mx.ok okP) (K8.fresh nF8 ?_) eF (S13.mono (by omega)) (K8.trans ?_)
          · intro z hz
            simp only [List.mem_cons, List.not_mem_nil, or_false] at hz
            rcases hz with rfl | rfl
            · exact nsF
            · exact ncF
          · intro p o e hp
            exact K13 p o e (by
              intro z
              simp only [List.mem_cons, List.not_mem_nil, or_false] at z hp
              rcases z with rfl | rfl | rfl | z
              · rw [nF8] at e; cases e
              · rw [nP] at e; cases e
              · rw [Same.free (same_upd nP) nW] at e; cases e
              · exact hp z)
end
end TT

set_option Elab.async false
set_option linter.all false
set_option maxRecDepth 100000
namespace TT
open PySem PySem.Spec PyProof.Rows L2
/-! ### worths -/
def wV : Option Int → V
  | none => .non
  | some i => .int i
def wD : Option Int → PyData
  | none => .none
  | some i => .int i
def WOk : Option Int → Prop
  | none => True
  | some i => -1000000000 ≤ i ∧ i ≤ 1000000000
theorem dp_w {K : PySem.W.Frag} {H : Hp} : ∀ o : Option Int, Dp K H (wV o) (wD o)
  | none => .non
  | some i => .int i
section
variable {P : Program} {w : World} {K : PySem.W.Frag} {mg : Str → Option Value} {base : Heap}
def spWorth : Sp := fun vs H Q _ => ∃ (s c : Addr) (T : Nat), vs = [.ref s] ∧ StAt H s c T ∧ T + 3 ≤ 1000000 ∧
  ∀ (o : Option Int) (H' : Hp), WOk o → StAt H' s c (T + 3) → Kept [s, c] H H' → Q (wV o) H'
abbrev s_law_worth : Stmt := topS 28
abbrev N_law_worth : List Str := ["state", "way"]
theorem sc_law_worth : FnScope N_law_worth ["state"] (defScope s_law_worth) := ⟨rfl, rfl, rfl, by decide +kernel, rfl, by decide +kernel, by decide +kernel⟩

theorem ok_worth {f : Addr} {fd : FuncData} (F : Fun K "_law_worth" "_law_worth" s_law_worth f fd) (D_law_take : Def P w K mg base 1 "_law_take" ["state", "many"] spTake) : FnOk P w K mg base CX0 2 f fd ["state"] spWorth := by
  refine F.ok sc_law_worth (fun vs H Q E h => ?_) (fun cdv A outer sh H vs Q E hr h => ?_)
  · obtain ⟨s, c, T, rfl, _⟩ := h
    rfl
  · obtain ⟨s, c, T, rfl, S, hT, q⟩ := h
    have nd := sc_law_worth.nd
    have hu := hu_of hr
    refine ⟨_, (pss_cons (ps_set (i := 1) nd rfl (Or.inl rfl) (pe_own D_law_take hr (pa_cons (pv 0) (pa_cons pe_int pa_nil))))
      (pss_cons (ps_if (pt_cmpR op_lt (pv 1) pe_int (nomark _))
        (pss_one (ps_ret (pe_ix ix_list (pe_lst (pa_cons pe_non (pa_cons pe_int pa_nil))) (pv 1) (fun _ _ => rfl))))
        pss_nil)
      (pss_cons (ps_if (pt_cmpR op_lt (pv 1) pe_int (nomark _))
        (pss_one (ps_ret (pe_op op_sub (pe_own D_law_take hr (pa_cons (pv 0) (pa_cons pe_int pa_nil))) pe_int)))
        pss_nil)
      (pss_one (ps_ret (pe_ix ix_list (pe_lst (pa_cons (pe_op op_sub (pe_own D_law_take hr (pa_cons (pv 0) (pa_cons (pe_op op_add (pe_op op_mul pe_int (pe_op op_pow pe_int pe_int)) pe_int) pa_nil))) (pe_op op_pow pe_int pe_int)) (pa_cons (pe_op op_sub (pe_op op_pow pe_int pe_int) (pe_op op_mul (pe_op op_mul pe_int (pe_op op_pow pe_int pe_int)) (pe_own D_law_take hr (pa_cons (pv 0) (pa_cons pe_int pa_nil))))) pa_nil))) (pe_op op_sub (pv 1) pe_int) (fun _ _ => rfl))))))), ?_⟩
    refine ⟨.ref s, rfl, s, c, T, _, rfl, S, by omega, by decide, by decide, fun way H1 w0 w1 S1 K1 => ?_⟩
    refine ⟨.int way, rfl, _, _, rfl, rfl, _, rfl, ite2 (fun h1 => ?_) (fun h1 => ?_)⟩
    · have h1 : way < 2 := of_decide_eq_true h1
      refine ⟨(by show 2 ≤ sizeLine; decide), fun p np => ?_⟩
      have : way = 0 ∨ way = 1 := by omega
      rcases this with rfl | rfl
      · exact ⟨.int 0, rfl, p, _, _, .non, rfl, rfl, .inl (.inl upd_same), rfl, q none _ trivial ((S1.upd_new np).mono (by omega)) (K1.trans (Kept.upd_new np))⟩
      · exact ⟨.int 1, rfl, p, _, _, .int 0, rfl, rfl, .inl (.inl upd_same), rfl, q (some 0) _ ⟨by decide, by decide⟩ ((S1.upd_new np).mono (by omega)) (K1.trans (Kept.upd_new np))⟩
    · have h1 : ¬ way < 2 := fun h => h1 (decide_eq_true h)
      refine ⟨.int way, rfl, _, _, rfl, rfl, _, rfl, ite2 (fun h2 => ?_) (fun h2 => ?_)⟩
      · refine ⟨.ref s, rfl, s, c, _, _, rfl, S1, by omega, by decide, by decide, fun d H2 d0 d1 S2 K2 => ⟨_, _, rfl, rfl, ?_⟩⟩
        exact q (some (d - 4)) _ ⟨by omega, by omega⟩ (S2.mono (by omega)) (K1.trans K2)
      · have h2 : ¬ way < 6 := fun h => h2 (decide_eq_true h)
        refine ⟨.ref s, rfl, 10, 9, rfl, rfl, ⟨by decide, by decide, by decide⟩, _, _, rfl, rfl, .inl ⟨by decide, by decide⟩, _, _, rfl, rfl, s, c, _, _, rfl, S1, by omega, by decide, by decide, fun d H2 d0 d1 S2 K2 => ?_⟩
        refine ⟨10, 9, rfl, rfl, ⟨by decide, by decide, by decide⟩, _, _, rfl, rfl, ?_⟩
        refine ⟨10, 9, rfl, rfl, ⟨by decide, by decide, by decide⟩, 10, 9, rfl, rfl, ⟨by decide, by decide, by decide⟩, _, _, rfl, rfl, .inl ⟨by decide, by decide⟩, .ref s, rfl, s, c, _, _, rfl, S2, by omega, by decide, by decide, fun e H3 e0 e1 S3 K3 => ?_⟩
        refine ⟨_, _, rfl, rfl, .inl ⟨by decide, by decide⟩, _, _, rfl, rfl, (by show 2 ≤ sizeLine; decide), fun p np => ?_⟩
        have e9 : (10 : Int) ^ (9 : Int).toNat = 1000000000 := by decide
        have d1' : d < 2 * 1000000000 + 1 := by rw [← e9]; exact d1
        have S4 := (S3.upd_new (o := .lst [.int (d - 10 ^ (9 : Int).toNat), .int (10 ^ (9 : Int).toNat - 2 * 10 ^ (9 : Int).toNat * e)]) np).mono (T' := T + 3) (by omega)
        have K4 : Kept [s, c] H (upd H3 p (.lst [.int (d - 10 ^ (9 : Int).toNat), .int (10 ^ (9 : Int).toNat - 2 * 10 ^ (9 : Int).toNat * e)])) := K1.trans (K2.trans (K3.trans (Kept.upd_new np)))
        have : way = 6 ∨ way = 7 := by omega
        rcases this with rfl | rfl
        · exact ⟨.int 6, rfl, _, _, rfl, rfl, p, _, _, .int (d - 10 ^ (9 : Int).toNat), rfl, rfl, .inl (.inl upd_same), rfl, q (some (d - 10 ^ (9 : Int).toNat)) _ ⟨by rw [e9]; omega, by rw [e9]; omega⟩ S4 K4⟩
        · exact ⟨.int 7, rfl, _, _, rfl, rfl, p, _, _, .int (10 ^ (9 : Int).toNat - 2 * 10 ^ (9 : Int).toNat * e), rfl, rfl, .inl (.inl upd_same), rfl, q (some (10 ^ (9 : Int).toNat - 2 * 10 ^ (9 : Int).toNat * e)) _ ⟨by rw [e9]; omega, by rw [e9]; omega⟩ S4 K4⟩
end
end TT

set_option Elab.async false
set_option linter.all false
set_option maxRecDepth 100000
namespace TT
open PySem PySem.Spec PyProof.Rows L2
/-! ### tables as plain data -/
abbrev Col := Str × Option Int
abbrev Tab := Str × List Col
def colD (x : Col) : PyData := .tuple [.str x.1, wD x.2]
def tabD (x : Tab) : PyData := .tuple [.str x.1, .tuple (x.2.map colD)]
structure ColsOk (n : Nat) (cs : List Col) : Prop where
  top : cs.length ≤ n
  nd : (cs.map (·.1)).Nodup
  nm : ∀ x ∈ cs, NameOk x.1
  w : ∀ x ∈ cs, WOk x.2
  key : ∀ x, cs[0]? = some x → x.2 = none
structure TabsOk (n : Nat) (ts : List Tab) : Prop where
  nd : (ts.map (·.1)).Nodup
  nm : ∀ x ∈ ts, NameOk x.1
  cs : ∀ x ∈ ts, ColsOk n x.2 ∧ 0 < x.2.length
theorem strOk_name {z : Str} (h : NameOk z) : PyData.strOk z = true := by
  unfold PyData.strOk
  rw [Array.all_eq_true']
  intro x hx
  have := h.low x (by unfold cl; exact Array.mem_toList_iff.mpr hx)
  unfold low at this
  simp; omega
theorem lay_w : ∀ o : Option Int, (wD o).canLay0 = true ∧ (wD o).depth = 0
  | none => ⟨rfl, rfl⟩
  | some _ => ⟨rfl, rfl⟩
theorem lay_cols : ∀ cs : List Col, (∀ x ∈ cs, NameOk x.1) → PyData.canLayAll0 (cs.map colD) = true ∧ PyData.depthAll (cs.map colD) ≤ 1
  | [], _ => ⟨rfl, Nat.zero_le _⟩
  | x :: cs, h => by
    obtain ⟨h1, h2⟩ := lay_cols cs fun y hy => h y (List.mem_cons_of_mem _ hy)
    have h3 := strOk_name (h x (List.mem_cons_self ..))
    obtain ⟨h4, h5⟩ := lay_w x.2
    constructor
    · show ((PyData.strOk x.1 && ((wD x.2).canLay0 && true)) && PyData.canLayAll0 (cs.map colD)) = true
      rw [h3, h4, h1]; rfl
    · show max (max 0 (max (wD x.2).depth 0) + 1) (PyData.depthAll (cs.map colD)) ≤ 1
      rw [h5]
      exact Nat.max_le.mpr ⟨Nat.le_refl _, h2⟩
theorem shaped_cols {cs : List Col} (h : ∀ x ∈ cs, NameOk x.1) : SeqAt.shaped (.list (cs.map colD)) = true := by
  obtain ⟨h1, h2⟩ := lay_cols cs h
  show (PyData.canLayAll0 (cs.map colD) && decide (PyData.depthAll (cs.map colD) + 1 ≤ 64)) = true
  rw [h1, decide_eq_true (by omega)]; rfl
theorem eqv_nil (ds : List PyData) : PyData.eqv (.list ds) (.list []) = ds.isEmpty := by
  cases ds <;> rfl
section
variable {P : Program} {w : World} {K : PySem.W.Frag} {mg : Str → Option Value} {base : Heap}
def spTables (K : PySem.W.Frag) : Sp := fun vs H Q _ => ∃ (s c : Addr) (T m n : Nat), vs = [.ref s, .int m, .int n] ∧ StAt H s c T ∧ T + 1000 ≤ 1000000 ∧ m ≤ 8 ∧ 0 < n ∧ n ≤ 8 ∧
  ∀ (p : Addr) (ts : List Tab) (H' : Hp), ts.length = m → TabsOk n ts → H p = none → Dp K (msk [s, c] H') (.ref p) (.tuple (ts.map tabD)) → StAt H' s c (T + 1000) → Kept [s, c] H H' → Q (.ref p) H'
abbrev s_law_tables : Stmt := topS 29
abbrev N_law_tables : List Str := ["state", "many", "wide", "found", "name", "columns", "column"]
theorem sc_law_tables : FnScope N_law_tables ["state", "many", "wide"] (defScope s_law_tables) := ⟨rfl, rfl, rfl, by decide +kernel, rfl, by decide +kernel, by decide +kernel⟩

theorem ok_tables {f : Addr} {fd : FuncData} (F : Fun K "_law_tables" "_law_tables" s_law_tables f fd) (nb : NB mg) (D_law_take : Def P w K mg base 1 "_law_take" ["state", "many"] spTake)
    (D_law_names : Def P w K mg base 2 "_law_names" ["state", "many"] spNames) (D_law_worth : Def P w K mg base 2 "_law_worth" ["state"] spWorth) : FnOk P w K mg base CX0 3 f fd ["state", "many", "wide"] (spTables K) := by
  refine F.ok sc_law_tables (fun vs H Q E h => ?_) (fun cdv A outer sh H vs Q E hr h => ?_)
  · obtain ⟨s, c, T, m, n, rfl, _⟩ := h
    rfl
  · obtain ⟨s, c, T, m, n, rfl, S, hT, hm, hn0, hn, q⟩ := h
    have nd := sc_law_tables.nd
    have hu := hu_of hr
    refine ⟨_, (pss_cons (ps_set (i := 3) nd rfl (Or.inl rfl) (pe_lst pa_nil))
      (pss_cons (ps_for PassesOwn.never rfl (pi_list (pe_own D_law_names hr (pa_cons (pv 0) (pa_cons (pv 1) pa_nil)))) (pg_name (i := 4) nd rfl (Or.inl rfl))
        (pss_cons (ps_set (i := 5) nd rfl (Or.inl rfl) (pe_lst pa_nil))
        (pss_cons (ps_for PassesOwn.never rfl (pi_list (pe_own D_law_names hr (pa_cons (pv 0) (pa_cons (pe_op op_add pe_int (pe_own D_law_take hr (pa_cons (pv 0) (pa_cons (pv 2) pa_nil)))) pa_nil)))) (pg_name (i := 6) nd rfl (Or.inl rfl))
          (pss_one (ps_expr (pe_bm PySem.F.plainAttrs_list PySem.F.slot_list_append PySem.F.type_list_append mt_append (pv 5) (pa_cons (pe_tup (pa_cons (pv 6) (pa_cons (pe_ifExp (pt_cmpR (op_neD hr.units) (pv 5) (pe_lst pa_nil) (nomark _)) (pe_own D_law_worth hr (pa_cons (pv 0) pa_nil)) pe_non) pa_nil))) pa_nil)))))
        (pss_one (ps_expr (pe_bm PySem.F.plainAttrs_list PySem.F.slot_list_append PySem.F.type_list_append mt_append (pv 3) (pa_cons (pe_tup (pa_cons (pv 4) (pa_cons (pe_callTy call_tuple_of (by rfl) nb.b_tuple (by decide +kernel) (pa_cons (pv 5) pa_nil)) pa_nil))) pa_nil)))))))
      (pss_one (ps_ret (pe_callTy call_tuple_of (by rfl) nb.b_tuple (by decide +kernel) (pa_cons (pv 3) pa_nil)))))), ?_⟩
    refine ⟨Nat.zero_le _, fun P3 n3 => ?_⟩
    have S1 := S.upd_new (o := .lst []) n3
    have ns3 := S.nes n3
    have nc3 := S.nec n3
    have out3 : P3 ∉ [s, c] := by
      intro z
      simp only [List.mem_cons, List.not_mem_nil, or_false] at z
      rcases z with z | z
      · exact ns3 z.symm
      · exact nc3 z.symm
    have e3 : (upd H P3 (.lst [])) P3 = some (.lst []) := upd_same
    have K01 : Kept [P3, s, c] H (upd H P3 (.lst [])) := Kept.upd_new n3
    -- for name in ..
    refine ⟨.ref s, rfl, .int m, rfl, s, c, _, m, rfl, S1, by omega, by omega, fun pn zs H2 lz ndz okz nfz ez S2 K2 => ⟨pn, rfl, ⟨_, .inl (.inl ez)⟩, ?_⟩⟩
    have e3' : H2 P3 = some (.lst []) := K2.at e3 out3
    have ncn : pn ≠ P3 := fun z => by
      rw [z, e3] at nfz
      cases nfz
    have nsn : s ≠ pn := S1.nes nfz
    have ncp : c ≠ pn := S1.nec nfz
    have outn : pn ∉ [P3, s, c] := by
      intro z
      simp only [List.mem_cons, List.not_mem_nil, or_false] at z
      rcases z with z | z | z
      · exact ncn z
      · exact nsn z.symm
      · exact ncp z.symm
    have K02 : Kept [P3, s, c] H H2 := K01.trans (K2.mono (by intro p hp; exact List.mem_cons_of_mem _ hp))
    refine for_list (K := K) (a := pn) (xs := zs.map V.str) (fun i σ H' => (∃ y5 y6 y7, σ = [some (.ref s), some (.int m), some (.int n), some (.ref P3), y5, y6, y7]) ∧
      (∃ (vs : List V) (ts : List Tab), H' P3 = some (.lst vs) ∧ DpAll K (msk [P3, s, c] H') vs (ts.map tabD) ∧ ts.map (·.1) = zs.take i ∧ ∀ x ∈ ts, ColsOk n x.2 ∧ 0 < x.2.length) ∧ H' pn = some (.lst (zs.map V.str)) ∧ StAt H' s c (T + 31 + i * 100) ∧ Kept [P3, s, c] H H')
      ⟨⟨none, none, none, rfl⟩, ⟨[], [], e3', .nil, rfl, fun _ h => absurd h List.not_mem_nil⟩, ez, S2.mono (by omega), K02⟩ (fun i σ H' _ hP => .inl (.inl hP.2.2.1)) (fun i x σ H3 hx hP => ?_) (fun σ H3 hP => ?_)
    · obtain ⟨⟨y5, y6, y7, rfl⟩, ⟨vs, ts, eP, dp, em, okc⟩, en, S3, K3⟩ := hP
      rw [List.getElem?_map] at hx
      obtain ⟨z, hz, rfl⟩ := Option.map_eq_some_iff.mp hx
      have hi : i < zs.length := (List.getElem?_eq_some_iff.mp hz).1
      -- columns = []
      refine ⟨Nat.zero_le _, fun P6 n6 => ?_⟩
      have ns6 := S3.nes n6
      have nc6 := S3.nec n6
      have n36 : P3 ≠ P6 := ne_of_none eP n6
      have nn6 : pn ≠ P6 := ne_of_none en n6
      have S4 := S3.upd_new (o := .lst []) n6
      have K4 : Kept [P6, P3, s, c] H3 (upd H3 P6 (.lst [])) := Kept.upd_new n6
      have e6 : (upd H3 P6 (.lst [])) P6 = some (.lst []) := upd_same
      have n6H : H P6 = none := K3.fresh n6 (by
        intro q hq
        simp only [List.mem_cons, List.not_mem_nil, or_false] at hq
        rcases hq with rfl | rfl | rfl
        · exact n36
        · exact ns6
        · exact nc6)
      -- for column in ..
      have im : i < 8 := by omega
      refine ⟨.ref s, rfl, ?_⟩
      refine ⟨.ref s, rfl, .int n, rfl, s, c, _, _, rfl, S4, by omega, by omega, by omega, fun e H7 g0 g1 S7 K7 => ⟨_, _, rfl, rfl, ?_⟩⟩
      obtain ⟨kk, hkk⟩ : ∃ kk : Nat, 1 + e = (kk : Int) := ⟨(1 + e).toNat, by omega⟩
      refine ⟨s, c, _, kk, congrArg (fun z => [V.ref s, V.int z]) hkk, S7, by omega, by omega, fun pq ys H5 ly ndy oky nfy ey S5 K5 => ⟨pq, rfl, ⟨_, .inl (.inl ey)⟩, ?_⟩⟩
      have ly2 : 0 < ys.length ∧ ys.length ≤ n := by omega
      have n5 : P6 ≠ pq := ne_of_none (K7.at e6 (by simp [ns6.symm, nc6.symm])) nfy
      have n35 : P3 ≠ pq := ne_of_none (K7.at (show (upd H3 P6 (.lst [])) P3 = some _ by rw [upd_ne n36]; exact eP) out3) nfy
      have nn5 : pn ≠ pq := ne_of_none (K7.at (show (upd H3 P6 (.lst [])) pn = some _ by rw [upd_ne nn6]; exact en) (by simp [nsn.symm, ncp.symm])) nfy
      have K6 : Kept [s, c] (upd H3 P6 (.lst [])) H5 := K7.trans K5
      have S6 : StAt H5 s c (T + 62 + i * 100) := S5.mono (by omega)
      have nsq : s ≠ pq := S7.nes nfy
      have ncq : c ≠ pq := S7.nec nfy
      · have out6 : P6 ∉ [s, c] := by simp [ns6.symm, nc6.symm]
        have eP5 : H5 P3 = some (.lst vs) := K6.at (show (upd H3 P6 (.lst [])) P3 = some _ by rw [upd_ne n36]; exact eP) out3
        have e65 : H5 P6 = some (.lst []) := K6.at e6 out6
        have en5 : H5 pn = some (.lst (zs.map V.str)) := K6.at (show (upd H3 P6 (.lst [])) pn = some _ by rw [upd_ne nn6]; exact en) (by simp [nsn.symm, ncp.symm])
        have K36 : Kept [P6, P3, s, c] H3 H5 := K4.trans (K6.mono (by intro p hp; exact List.mem_cons_of_mem _ (List.mem_cons_of_mem _ hp)))
        refine for_list (K := K) (a := pq) (xs := ys.map V.str) (fun j σ H' => (∃ y7, σ = [some (.ref s), some (.int m), some (.int n), some (.ref P3), some (.str z), some (.ref P6), y7]) ∧
          (∃ (us : List V) (cs : List Col), H' P6 = some (.lst us) ∧ DpAll K (msk [P6, P3, s, c] H') us (cs.map colD) ∧ cs.map (·.1) = ys.take j ∧ (∀ x ∈ cs, WOk x.2) ∧ ∀ x, cs[0]? = some x → x.2 = none) ∧ H' pq = some (.lst (ys.map V.str)) ∧ StAt H' s c (T + 62 + i * 100 + j * 3) ∧ Kept [P6, P3, s, c] H3 H' ∧ H' P3 = some (.lst vs))
          ⟨⟨y7, rfl⟩, ⟨[], [], e65, .nil, rfl, fun _ h => absurd h List.not_mem_nil, fun _ h => nomatch h⟩, ey, S6, K36, eP5⟩ (fun j σ H' _ hP => .inl (.inl hP.2.2.1)) (fun j x σ H8 hx8 hP => ?_) (fun σ H8 hP => ?_)
        · obtain ⟨⟨y7, rfl⟩, ⟨us, cs, e6, dpu, emu, okw, oky0⟩, eq, S8, K8, eP8⟩ := hP
          rw [List.getElem?_map] at hx8
          obtain ⟨y, hy, rfl⟩ := Option.map_eq_some_iff.mp hx8
          have hj : j < ys.length := (List.getElem?_eq_some_iff.mp hy).1
          have hcl : cs.length = j := by
            have := congrArg List.length emu
            rw [List.length_map, List.length_take] at this
            omega
          have okn : ∀ x ∈ cs, NameOk x.1 := fun x hx => oky x.1 (by
            have h : x.1 ∈ cs.map (·.1) := List.mem_map.mpr ⟨x, hx, rfl⟩
            rw [emu] at h
            exact List.mem_of_mem_take h)
          have uslen : us.length = j := by rw [dpAll_len dpu, List.length_map, hcl]
          -- columns.append((column, worth if columns != [] else None))
          refine ⟨.ref P6, rfl, .inl ⟨rfl, _, .inl (.inl e6)⟩, .str y, rfl, .ref P6, rfl, Nat.zero_le _, fun q9 n9 => ?_⟩
          have n69 : P6 ≠ q9 := ne_of_none e6 n9
          have n39 : P3 ≠ q9 := ne_of_none eP8 n9
          have nq9 : pq ≠ q9 := ne_of_none eq n9
          have S9 := S8.upd_new (o := .lst []) n9
          have K9 : Kept [P6, P3, s, c] H3 (upd H8 q9 (.lst [])) := K8.trans (Kept.upd_new n9)
          have sm9 : Same H8 (upd H8 q9 (.lst [])) := same_upd n9
          refine ⟨.list (cs.map colD), .list [], .lst (.inl (.inl (sm9 _ _ e6))) (dpAll_same sm9 (dpAll_same (msk_sub _ _) dpu)), .lst (.inl (.inl upd_same)) .nil, shaped_cols okn, rfl, _, rfl, ?_⟩
          rw [eqv_nil]
          cases hE : (cs.map colD).isEmpty
          case' false =>
            have hcs : ¬ cs = [] := fun z => by rw [z] at hE; cases hE
            refine iteT ?_
            refine ⟨.ref s, rfl, s, c, _, rfl, S9, by omega, fun o H10 wo S10 K10 => ?_⟩
            have hon : cs = [] → o = none := fun z => absurd z hcs
          case' true =>
            have hcs : cs = [] := by
              cases cs with
              | nil => rfl
              | cons a r => cases hE
            refine iteF ?_
            obtain ⟨o, ho, wo⟩ : ∃ o : Option Int, o = none ∧ WOk o := ⟨none, rfl, trivial⟩
            have hon : cs = [] → o = none := fun _ => ho
            obtain ⟨H10, hH10⟩ : ∃ H10, H10 = upd H8 q9 (.lst []) := ⟨_, rfl⟩
            have S10 : StAt H10 s c (T + 62 + i * 100 + j * 3 + 3) := by rw [hH10]; exact S9.mono (by omega)
            have K10 : Kept [s, c] (upd H8 q9 (.lst [])) H10 := by rw [hH10]; exact Kept.refl _ _
            rw [← hH10]
            have hv : (V.non) = wV o := by rw [ho]; rfl
            rw [hv]
          all_goals
            refine ⟨(by show 2 ≤ sizeLine; decide), fun t nt => ?_⟩
            have outq : pq ∉ [s, c] := by
              intro hz
              simp only [List.mem_cons, List.not_mem_nil, or_false] at hz
              rcases hz with hz | hz
              · exact nsq hz.symm
              · exact ncq hz.symm
            have e6b : H10 P6 = some (.lst us) := K10.at (sm9 _ _ e6) out6
            have eqb : H10 pq = some (.lst (ys.map V.str)) := K10.at (sm9 _ _ eq) outq
            have ePb : H10 P3 = some (.lst vs) := K10.at (sm9 _ _ eP8) out3
            have n6t : P6 ≠ t := ne_of_none e6b nt
            have nqt : pq ≠ t := ne_of_none eqb nt
            have n3t : P3 ≠ t := ne_of_none ePb nt
            have Kb : Kept [P6, P3, s, c] H8 H10 := (Kept.of_same sm9).trans (K10.mono (by intro p hp; exact List.mem_cons_of_mem _ (List.mem_cons_of_mem _ hp)))
            have Kc : Kept [P6, P3, s, c] H8 (upd (upd H10 t (.tup [.str y, wV o])) P6 (.lst (us ++ [.ref t]))) := Kb.trans ((Kept.upd_new nt).trans (Kept.upd_in (List.mem_cons_self ..)))
            refine ⟨P6, us, _, rfl, rfl, (by rw [upd_ne n6t]; exact e6b), by rw [uslen]; exact small1000 (by omega), ⟨some (.str y), rfl⟩, ⟨_, cs ++ [(y, o)], upd_same, ?_, ?_, ?_, ?_⟩, ?_, ((S10.upd_new nt).upd ns6 nc6).mono (by omega), K8.trans Kc, ?_⟩
            · rw [List.map_append]
              refine dpAll_snoc (dpAll_same (msk_same Kc) dpu) ?_
              refine .tup (xs := [.str y, wV o]) (.inl (.inl ?_)) (.cons (.str y) (.cons (dp_w o) .nil))
              unfold msk
              rw [if_neg (by
                intro hz
                simp only [List.mem_cons, List.not_mem_nil, or_false] at hz
                rcases hz with hz | hz | hz | hz
                · exact n6t hz.symm
                · exact n3t hz.symm
                · exact S10.nes nt hz.symm
                · exact S10.nec nt hz.symm), upd_ne n6t.symm, upd_same]
            · rw [List.map_append, emu, List.take_add_one, hy]; rfl
            · intro x hx
              rcases List.mem_append.mp hx with h | h
              · exact okw x h
              · rw [List.mem_singleton.mp h]; exact wo
            · intro x hx
              cases cs with
              | nil =>
                have : x = (y, o) := (Option.some.inj hx).symm
                rw [this]; exact hon rfl
              | cons a r => exact oky0 x hx
            · rw [upd_ne n5.symm, upd_ne nqt]; exact eqb
            · rw [upd_ne n36, upd_ne n3t]; exact ePb
        · obtain ⟨⟨y7, rfl⟩, ⟨us, cs, e6, dpu, emu, okw, oky0⟩, eq, S8, K8, eP8⟩ := hP
          have lyy : (ys.map V.str).length = ys.length := List.length_map ..
          rw [lyy] at emu S8
          rw [List.take_length] at emu
          have hcl : cs.length = ys.length := by rw [← emu, List.length_map]
          have uslen : us.length = cs.length := by rw [dpAll_len dpu, List.length_map]
          -- found.append((name, tuple(columns)))
          refine ⟨.ref P3, rfl, .inl ⟨rfl, _, .inl (.inl eP8)⟩, .str z, rfl, .ref P6, rfl, P6, us, rfl, .inl ⟨.inl (.inl e6), fun t nt => ?_⟩⟩
          have n6t : P6 ≠ t := ne_of_none e6 nt
          have n3t : P3 ≠ t := ne_of_none eP8 nt
          have nst := S8.nes nt
          have nct := S8.nec nt
          refine ⟨(by show 2 ≤ sizeLine; decide), fun t2 nt2 => ?_⟩
          have n3t2 : P3 ≠ t2 := ne_of_none (show (upd H8 t (.tup us)) P3 = some _ by rw [upd_ne n3t]; exact eP8) nt2
          have n6t2 : P6 ≠ t2 := ne_of_none (show (upd H8 t (.tup us)) P6 = some _ by rw [upd_ne n6t]; exact e6) nt2
          have ntt2 : t ≠ t2 := ne_of_none upd_same nt2
          have nst2 := (S8.upd_new (o := .tup us) nt).nes nt2
          have nct2 := (S8.upd_new (o := .tup us) nt).nec nt2
          have Kd : Kept [P6, P3, s, c] H8 (upd (upd (upd H8 t (.tup us)) t2 (.tup [.str z, .ref t])) P3 (.lst (vs ++ [.ref t2]))) := (Kept.upd_new nt).trans ((Kept.upd_new nt2).trans (Kept.upd_in (List.mem_cons_of_mem _ (List.mem_cons_self ..))))
          have Ke : Kept [P3, s, c] H3 (upd (upd (upd H8 t (.tup us)) t2 (.tup [.str z, .ref t])) P3 (.lst (vs ++ [.ref t2]))) := (K8.trans Kd).new n6
          have vlen : vs.length = i := by
            have h1 := congrArg List.length em
            rw [List.length_map, List.length_take] at h1
            rw [dpAll_len dp, List.length_map]; omega
          refine ⟨P3, vs, _, rfl, rfl, (by rw [upd_ne n3t2, upd_ne n3t]; exact eP8), by rw [vlen]; exact small1000 (by omega), ⟨_, _, _, rfl⟩, ⟨_, ts ++ [(z, cs)], upd_same, ?_, ?_, ?_⟩, Ke.at en outn, (((S8.upd_new nt).upd_new nt2).upd ns3 nc3).mono (by omega), K3.trans Ke⟩
          · rw [List.map_append]
            refine dpAll_snoc (dpAll_same (msk_same Ke) dp) ?_
            have at3 : ∀ b o, b ≠ P3 → b ≠ s → b ≠ c → (upd (upd (upd H8 t (.tup us)) t2 (.tup [.str z, .ref t])) P3 (.lst (vs ++ [.ref t2]))) b = some o → msk [P3, s, c] (upd (upd (upd H8 t (.tup us)) t2 (.tup [.str z, .ref t])) P3 (.lst (vs ++ [.ref t2]))) b = some o := by
              intro b o h1 h2 h3 h4
              unfold msk
              rw [if_neg (by simp [h1, h2, h3])]
              exact h4
            refine .tup (xs := [.str z, .ref t]) (.inl (.inl (at3 _ _ n3t2.symm nst2.symm nct2.symm ?_))) (.cons (.str z) (.cons ?_ .nil))
            · rw [upd_ne n3t2.symm, upd_same]
            · refine .tup (xs := us) (.inl (.inl (at3 _ _ n3t.symm nst.symm nct.symm ?_))) ?_
              · rw [upd_ne n3t.symm, upd_ne ntt2, upd_same]
              · exact dpAll_same (msk_less (M := [P6, P3, s, c]) (by intro p hp; exact List.mem_cons_of_mem _ hp)) (dpAll_same (msk_same Kd) dpu)
          · rw [List.map_append, em, List.take_add_one, hz]; rfl
          · intro x hx
            rcases List.mem_append.mp hx with h | h
            · exact okc x h
            · rw [List.mem_singleton.mp h]
              refine ⟨⟨?_, ?_, ?_, okw, oky0⟩, ?_⟩
              · show cs.length ≤ n; omega
              · show (cs.map (·.1)).Nodup; rw [emu]; exact ndy
              · intro x hx
                exact oky x.1 (by rw [← emu]; exact List.mem_map.mpr ⟨x, hx, rfl⟩)
              · show 0 < cs.length; omega
    · obtain ⟨⟨y5, y6, y7, rfl⟩, ⟨vs, ts, eP, dp, em, okc⟩, en, S3, K3⟩ := hP
      have lzz : (zs.map V.str).length = zs.length := List.length_map ..
      rw [lzz] at em S3
      rw [List.take_length] at em
      have tl : ts.length = zs.length := by rw [← em, List.length_map]
      refine ⟨.ref P3, rfl, P3, vs, rfl, .inl ⟨.inl (.inl eP), fun t nt => ?_⟩⟩
      have n3t : P3 ≠ t := ne_of_none eP nt
      have nst := S3.nes nt
      have nct := S3.nec nt
      have Kf : Kept [P3, s, c] H3 (upd H3 t (.tup vs)) := Kept.upd_new nt
      refine q t ts _ (by omega) ⟨by rw [em]; exact ndz, fun x hx => okz x.1 (by rw [← em]; exact List.mem_map.mpr ⟨x, hx, rfl⟩), okc⟩ (K3.fresh nt ?_) ?_ ((S3.upd_new nt).mono (by omega)) ((K3.trans Kf).new n3)
      · intro b hb
        simp only [List.mem_cons, List.not_mem_nil, or_false] at hb
        rcases hb with rfl | rfl | rfl
        · exact n3t
        · exact nst
        · exact nct
      · refine .tup (xs := vs) (.inl (.inl ?_)) ?_
        · unfold msk
          rw [if_neg (by simp [nst.symm, nct.symm]), upd_same]
        · exact dpAll_same (msk_less (M := [P3, s, c]) (by intro p hp; exact List.mem_cons_of_mem _ hp)) (dpAll_same (msk_same Kf) dp)
end
end TT

set_option Elab.async false
set_option linter.all false
set_option maxRecDepth 100000
namespace TT
open PySem PySem.Spec PyProof.Rows L2
/-! ### what is told of data -/
def tyN : PyData → String
  | .none => "NoneType"
  | .bool _ => "bool"
  | .int _ => "int"
  | .str _ => "str"
  | .list _ => "list"
  | .tuple _ => "tuple"
  | .dict _ => "dict"
theorem dp_ty {K : PySem.W.Frag} {H : Hp} {v : V} {d : PyData} (h : Dp K H v d) : TyX K H v (.type (tyN d)) := by
  cases h with
  | non => exact .base .non
  | bl b => exact .base (.bl b)
  | int i => exact .base (.int i)
  | str x => exact .base (.str x)
  | lst h _ =>
    rcases h with (h | ⟨o, h⟩) | ⟨o, _, _, h, c, _⟩
    · exact .base (.lst h)
    · exact .base (.frz h)
    · exact .kList h c
  | tup h _ =>
    rcases h with (h | ⟨o, h⟩) | ⟨o, _, _, h, c, _⟩
    · exact .base (.tup h)
    · exact .fTuple h
    · exact .kTuple h c
def isIB : PyData → Bool
  | .int _ | .bool _ => true
  | _ => false
def isBB : PyData → Bool
  | .bool _ => true
  | _ => false
def isSB : PyData → Bool
  | .str _ => true
  | _ => false
def isTB : PyData → Bool
  | .tuple _ => true
  | _ => false
def isLB : PyData → Bool
  | .list _ => true
  | _ => false
theorem kit_i {K : PySem.W.Frag} (d : PyData) : PySem.W.kitOne K (.type (tyN d)) (.type "int") = some (isIB d) := by
  cases d
  · exact kit_ty (show kitB "NoneType" "int" = some false by decide +kernel)
  · exact kit_ty (show kitB "bool" "int" = some true by decide +kernel)
  · exact kit_ty (show kitB "int" "int" = some true by decide +kernel)
  · exact kit_ty (show kitB "str" "int" = some false by decide +kernel)
  · exact kit_ty (show kitB "list" "int" = some false by decide +kernel)
  · exact kit_ty (show kitB "tuple" "int" = some false by decide +kernel)
  · exact kit_ty (show kitB "dict" "int" = some false by decide +kernel)
theorem kit_b {K : PySem.W.Frag} (d : PyData) : PySem.W.kitOne K (.type (tyN d)) (.type "bool") = some (isBB d) := by
  cases d
  · exact kit_ty (show kitB "NoneType" "bool" = some false by decide +kernel)
  · exact kit_ty (show kitB "bool" "bool" = some true by decide +kernel)
  · exact kit_ty (show kitB "int" "bool" = some false by decide +kernel)
  · exact kit_ty (show kitB "str" "bool" = some false by decide +kernel)
  · exact kit_ty (show kitB "list" "bool" = some false by decide +kernel)
  · exact kit_ty (show kitB "tuple" "bool" = some false by decide +kernel)
  · exact kit_ty (show kitB "dict" "bool" = some false by decide +kernel)
theorem kit_s {K : PySem.W.Frag} (d : PyData) : PySem.W.kitOne K (.type (tyN d)) (.type "str") = some (isSB d) := by
  cases d
  · exact kit_ty (show kitB "NoneType" "str" = some false by decide +kernel)
  · exact kit_ty (show kitB "bool" "str" = some false by decide +kernel)
  · exact kit_ty (show kitB "int" "str" = some false by decide +kernel)
  · exact kit_ty (show kitB "str" "str" = some true by decide +kernel)
  · exact kit_ty (show kitB "list" "str" = some false by decide +kernel)
  · exact kit_ty (show kitB "tuple" "str" = some false by decide +kernel)
  · exact kit_ty (show kitB "dict" "str" = some false by decide +kernel)
theorem kit_t {K : PySem.W.Frag} (d : PyData) : PySem.W.kitOne K (.type (tyN d)) (.type "tuple") = some (isTB d) := by
  cases d
  · exact kit_ty (show kitB "NoneType" "tuple" = some false by decide +kernel)
  · exact kit_ty (show kitB "bool" "tuple" = some false by decide +kernel)
  · exact kit_ty (show kitB "int" "tuple" = some false by decide +kernel)
  · exact kit_ty (show kitB "str" "tuple" = some false by decide +kernel)
  · exact kit_ty (show kitB "list" "tuple" = some false by decide +kernel)
  · exact kit_ty (show kitB "tuple" "tuple" = some true by decide +kernel)
  · exact kit_ty (show kitB "dict" "tuple" = some false by decide +kernel)
theorem kit_l {K : PySem.W.Frag} (d : PyData) : PySem.W.kitOne K (.type (tyN d)) (.type "list") = some (isLB d) := by
  cases d
  · exact kit_ty (show kitB "NoneType" "list" = some false by decide +kernel)
  · exact kit_ty (show kitB "bool" "list" = some false by decide +kernel)
  · exact kit_ty (show kitB "int" "list" = some false by decide +kernel)
  · exact kit_ty (show kitB "str" "list" = some false by decide +kernel)
  · exact kit_ty (show kitB "list" "list" = some true by decide +kernel)
  · exact kit_ty (show kitB "tuple" "list" = some false by decide +kernel)
  · exact kit_ty (show kitB "dict" "list" = some false by decide +kernel)
theorem kit_tl {K : PySem.W.Frag} (d : PyData) : PySem.W.kitAny K (.type (tyN d)) [.type "tuple", .type "list"] = some (isTB d || isLB d) :=
  kitAny_cons (b := isTB d) (kit_t d) (fun h => by
    rw [h]
    exact kitAny_cons (b := isLB d) (kit_l d) (fun h => by rw [h]; exact kitAny_nil) fun h => by rw [h]; rfl) fun h => by rw [h]; rfl
theorem kit_lt {K : PySem.W.Frag} (d : PyData) : PySem.W.kitAny K (.type (tyN d)) [.type "list", .type "tuple"] = some (isLB d || isTB d) :=
  kitAny_cons (b := isLB d) (kit_l d) (fun h => by
    rw [h]
    exact kitAny_cons (b := isTB d) (kit_t d) (fun h => by rw [h]; exact kitAny_nil) fun h => by rw [h]; rfl) fun h => by rw [h]; rfl
/-! sizes -/
mutual
def Fit : PyData → Prop
  | .str z => z.length ≤ 10000
  | .list ds | .tuple ds => ds.length ≤ 900 ∧ FitAll ds
  | _ => True
def FitAll : List PyData → Prop
  | [] => True
  | d :: ds => Fit d ∧ FitAll ds
end
theorem fit_mem : ∀ {ds : List PyData} {d : PyData}, FitAll ds → d ∈ ds → Fit d
  | d :: ds, e, h, m => by
    rcases List.mem_cons.mp m with rfl | m
    · exact h.1
    · exact fit_mem h.2 m
theorem fit_of : ∀ {ds : List PyData}, (∀ d ∈ ds, Fit d) → FitAll ds
  | [], _ => trivial
  | d :: ds, h => ⟨h d (List.mem_cons_self ..), fit_of fun e m => h e (List.mem_cons_of_mem _ m)⟩
theorem dpAll_at {K : PySem.W.Frag} {H : Hp} {ds : List PyData} {vs : List V} {i : Nat} {d : PyData} (a : DpAll K H vs ds) (h : ds[i]? = some d) : ∃ v, vs[i]? = some v ∧ Dp K H v d := by
  have l := dpAll_len a
  have hi : i < vs.length := by rw [l]; exact (List.getElem?_eq_some_iff.mp h).1
  obtain ⟨d', h1, h2⟩ := dpAll_get i a (List.getElem?_eq_getElem hi)
  rw [h] at h1
  cases h1
  exact ⟨_, List.getElem?_eq_getElem hi, h2⟩
/-- the promise of what looks at a thing and tells True or False: new objects alone are laid -/
def spB (R : PyData → Bool) (K : PySem.W.Frag) : Sp := fun vs H Q _ => ∃ (v : V) (d : PyData), vs = [v] ∧ Dp K H v d ∧ Fit d ∧ ∀ H', Same H H' → Q (.bl (R d)) H'
/-! ### the program's words, of data -/
def numB : PyData → Bool
  | .int _ => true
  | _ => false
def worthB : PyData → Bool
  | .none => true
  | .int i => decide (-1000000000 ≤ i) && decide (i ≤ 1000000000)
  | _ => false
def lowB (c : Nat) : Bool := decide (97 ≤ c) && decide (c ≤ 122)
def nameB : PyData → Bool
  | .str z => (decide (1 ≤ z.length) && decide (z.length ≤ 8)) && (cl z).all lowB
  | _ => false
def tupB (lo hi : Int) : PyData → Bool
  | .tuple ds => decide (lo ≤ (ds.length : Int)) && decide ((ds.length : Int) ≤ hi)
  | _ => false
def fstD : PyData → PyData
  | .tuple (a :: _) => a
  | _ => .none
def sndD : PyData → PyData
  | .tuple (_ :: b :: _) => b
  | _ => .none
def strOf : PyData → Str
  | .str z => z
  | _ => Str.empty
def isN : PyData → Bool
  | .none => true
  | _ => false
def colB (d : PyData) : Bool := tupB 2 2 d && (nameB (fstD d) && worthB (sndD d))
def namesOf (ds : List PyData) : List Str := ds.map fun d => strOf (fstD d)
def colsB : PyData → Bool
  | .tuple ds => (decide (1 ≤ ds.length) && decide (ds.length ≤ 5)) && (ds.all colB && (isN (sndD (ds.headD .none)) && decide (namesOf ds).Nodup))
  | _ => false
def tabB (d : PyData) : Bool := tupB 2 2 d && (nameB (fstD d) && colsB (sndD d))
def tabsB : PyData → Bool
  | .tuple ds => (decide (1 ≤ ds.length) && decide (ds.length ≤ 6)) && (ds.all tabB && decide (namesOf ds).Nodup)
  | _ => false
end TT

set_option Elab.async false
set_option linter.all false
set_option maxRecDepth 100000
namespace TT
open PySem PySem.Spec PyProof.Rows L2
/-! ### comprehensions that ask item by item -/
def PvM (H1 : Hp) (D : Addr) (f : Nat → V) (i : Nat) (H : Hp) : Prop := H D = some (.lst ((List.range i).map f)) ∧ Kept [D] H1 H
theorem pvm_start (H1 : Hp) (D : Addr) (f : Nat → V) : PvM H1 D f 0 (upd H1 D (.lst [])) := ⟨upd_same, Kept.upd_in (List.mem_cons_self ..)⟩
theorem pvm_step {H1 H H4 : Hp} {D : Addr} {f : Nat → V} {i : Nat} {y : V} (h : PvM H1 D f i H) (s : Same H H4) (e : y = f i) (l : i ≤ 1000) :
    ∃ acc, H4 D = some (.lst acc) ∧ acc.length < sizeLine ∧ PvM H1 D f (i + 1) (upd H4 D (.lst (acc ++ [y]))) := by
  refine ⟨_, s _ _ h.1, ?_, ?_, (h.2.trans (Kept.of_same s)).trans (Kept.upd_in (List.mem_cons_self ..))⟩
  · rw [List.length_map, List.length_range]; exact small1000 l
  · rw [upd_same, List.range_succ, List.map_append, e]; rfl
theorem pvm_same {H1 H : Hp} {D : Addr} {f : Nat → V} {i : Nat} (h : PvM H1 D f i H) (n : H1 D = none) : Same H1 H := fun b o e => h.2 b o e fun z => by
  rw [List.mem_singleton.mp z, n] at e
  cases e
theorem range_all {α : Type} (R : α → Bool) (d : α) : ∀ (l : List α), ((List.range l.length).map fun i => R (l.getD i d)).all id = l.all R := by
  intro l
  have e : (List.range l.length).map (fun i => R (l.getD i d)) = l.map R := by
    refine List.ext_getElem (by simp) fun i h1 h2 => ?_
    simp only [List.length_map, List.length_range] at h1
    simp [List.getD_eq_getElem?_getD, List.getElem?_eq_getElem h1]
  rw [e, List.all_map]
  rfl
theorem range_map {α β : Type} (f : α → β) (d : α) (l : List α) : (List.range l.length).map (fun i => f (l.getD i d)) = l.map f := by
  refine List.ext_getElem (by simp) fun i h1 h2 => ?_
  simp only [List.length_map, List.length_range] at h1
  simp [List.getD_eq_getElem?_getD, List.getElem?_eq_getElem h1]
theorem lt_one (c d : Nat) : decide (([c] : List Nat) < [d]) = decide (c < d) := by
  refine decide_eq_decide.mpr ?_
  rw [List.cons_lt_cons_iff]
  constructor
  · rintro (h | ⟨_, h⟩)
    · exact h
    · exact absurd h (List.not_lt_nil [])
  · intro h; exact .inl h
theorem two_of {α : Type} : ∀ {l : List α}, l.length = 2 → ∃ a b, l = [a, b]
  | [a, b], _ => ⟨a, b, rfl⟩
  | [], h => by cases h
  | [_], h => by cases h
  | _ :: _ :: _ :: _, h => by simp at h
theorem tup2 {K : PySem.W.Frag} {H : Hp} {v : V} {d : PyData} (hd : Dp K H v d) (h : tupB 2 2 d = true) : ∃ p x y a b, v = .ref p ∧ d = .tuple [a, b] ∧ SqT K H p [x, y] ∧ Dp K H x a ∧ Dp K H y b := by
  cases hd with
  | non => cases h
  | bl b => cases h
  | int i => cases h
  | str z => cases h
  | lst _ _ => cases h
  | tup hs a =>
    rename_i p xs ds
    have h' : (decide ((2 : Int) ≤ (ds.length : Int)) && decide ((ds.length : Int) ≤ 2)) = true := h
    rw [Bool.and_eq_true] at h'
    have g1 := of_decide_eq_true h'.1
    have g2 := of_decide_eq_true h'.2
    have hl : ds.length = 2 := by omega
    obtain ⟨a1, b1, rfl⟩ := two_of hl
    cases a with
    | cons h1 r =>
      cases r with
      | cons h2 r =>
        cases r
        exact ⟨p, _, _, a1, b1, rfl, rfl, hs, h1, h2⟩
theorem isT_of {K : PySem.W.Frag} {H : Hp} {v : V} {d : PyData} (hd : Dp K H v d) (h : isTB d = true) : ∃ p xs ds, v = .ref p ∧ d = .tuple ds ∧ SqT K H p xs ∧ DpAll K H xs ds := by
  cases hd with
  | non => cases h
  | bl b => cases h
  | int i => cases h
  | str z => cases h
  | lst _ _ => cases h
  | tup hs a => exact ⟨_, _, _, rfl, rfl, hs, a⟩
theorem tupB_isT {lo hi : Int} {d : PyData} (h : tupB lo hi d = true) : isTB d = true := by
  cases d <;> first | rfl | cases h
def strName (d : PyData) : Bool := tupB 2 2 d && isSB (fstD d)
theorem getD_of {α : Type} {l : List α} {i : Nat} {a d : α} (h : l[i]? = some a) : l.getD i d = a := by
  rw [List.getD_eq_getElem?_getD, h]; rfl
theorem all_imp {R S : PyData → Bool} {ds : List PyData} (h : ds.all R = true) (i : ∀ d, R d = true → S d = true) : ds.all S = true :=
  List.all_eq_true.mpr fun d hd => i d (List.all_eq_true.mp h d hd)
theorem takeWhile_full {α : Type} (p : α → Bool) : ∀ l : List α, l.all p = true → l.takeWhile p = l
  | [], _ => rfl
  | a :: r, h => by
    rw [List.all_cons, Bool.and_eq_true] at h
    rw [List.takeWhile_cons, if_pos h.1, takeWhile_full p r h.2]
theorem takeWhile_short {α : Type} (p : α → Bool) : ∀ l : List α, (l.takeWhile p).length = l.length → l.all p = true
  | [], _ => rfl
  | a :: r, h => by
    rw [List.takeWhile_cons] at h
    by_cases ha : p a = true
    · rw [if_pos ha, List.length_cons, List.length_cons] at h
      rw [List.all_cons, ha, takeWhile_short p r (by omega)]; rfl
    · rw [if_neg ha] at h
      simp at h
theorem takeWhile_le {α : Type} (p : α → Bool) : ∀ l : List α, (l.takeWhile p).length ≤ l.length
  | [] => Nat.le_refl 0
  | a :: r => by
    rw [List.takeWhile_cons]
    split
    · rw [List.length_cons, List.length_cons]
      exact Nat.succ_le_succ (takeWhile_le p r)
    · exact Nat.zero_le _
theorem takeWhile_next {α : Type} (p : α → Bool) : ∀ (l : List α), (l.takeWhile p).length < l.length → ∃ a r, l.drop (l.takeWhile p).length = a :: r ∧ p a = false
  | [], h => by simp at h
  | a :: r, h => by
    rw [List.takeWhile_cons] at h ⊢
    by_cases ha : p a = true
    · rw [if_pos ha, List.length_cons, List.length_cons] at h
      rw [if_pos ha, List.length_cons, List.drop_succ_cons]
      exact takeWhile_next p r (by omega)
    · rw [if_neg ha]
      exact ⟨a, r, rfl, by simpa using ha⟩
/-- nothing is left of a text just where all its signs are among those stripped -/
theorem strip_empty (z y : Str) : Txt.stripChars z y = Str.ofString "" ↔ (cl z).all y.cps.contains = true := by
  have e0 : cl (Str.ofString "") = [] := rfl
  unfold Txt.stripChars
  rw [stripBy_eq]
  generalize y.cps.contains = p
  have cs : ∀ i j, cl (Builtin.Str.strSub z i j) = ((cl z).drop i).take (j - i) := fun i j => StrLaws.strSub_toList ..
  have lo : stripLo p true z = ((cl z).takeWhile p).length := rfl
  constructor
  · intro h
    have h1 := congrArg cl h
    rw [cs, e0, lo] at h1
    have h2 := congrArg List.length h1
    rw [List.length_take, List.length_drop, List.length_nil] at h2
    by_cases hlt : ((cl z).takeWhile p).length < (cl z).length
    · exfalso
      obtain ⟨a, r, hd, hp⟩ := takeWhile_next p _ hlt
      have hi : stripHi p true z ((cl z).takeWhile p).length = z.length - (((cl z).drop ((cl z).takeWhile p).length).reverse.takeWhile p).length := rfl
      rw [hi] at h2
      have hle : (((cl z).drop ((cl z).takeWhile p).length).reverse.takeWhile p).length < ((cl z).drop ((cl z).takeWhile p).length).length := by
        have g := takeWhile_le p ((cl z).drop ((cl z).takeWhile p).length).reverse
        rw [List.length_reverse] at g
        refine Nat.lt_of_le_of_ne g fun e => ?_
        have g2 := takeWhile_short p ((cl z).drop ((cl z).takeWhile p).length).reverse (by rw [List.length_reverse]; exact e)
        rw [List.all_reverse, hd, List.all_cons, hp] at g2
        cases g2
      rw [List.length_drop] at hle
      have el : z.length = (cl z).length := rfl
      omega
    · exact takeWhile_short p _ (by have := takeWhile_le p (cl z); omega)
  · intro h
    refine cl_inj ?_
    rw [cs, e0, lo, takeWhile_full p _ h, List.drop_length, List.take_nil]
theorem abc_low (c : Nat) : abc.cps.contains c = lowB c := by
  rw [Array.contains_eq_mem]
  unfold lowB
  have h : (c ∈ abc.cps) ↔ (97 ≤ c ∧ c ≤ 122) := by
    rw [← Array.mem_toList_iff]
    show c ∈ cl abc ↔ _
    rw [abc_cl, List.mem_map]
    constructor
    · rintro ⟨a, ha, rfl⟩
      have := List.mem_range.mp ha
      omega
    · intro ⟨h1, h2⟩
      exact ⟨c - 97, List.mem_range.mpr (by omega), by omega⟩
  by_cases h1 : c ∈ abc.cps
  · have h2 := h.mp h1
    rw [decide_eq_true h1, decide_eq_true h2.1, decide_eq_true h2.2]; rfl
  · rw [decide_eq_false h1]
    by_cases h3 : 97 ≤ c
    · rw [decide_eq_true h3, decide_eq_false (fun h4 => h1 (h.mpr ⟨h3, h4⟩))]; rfl
    · rw [decide_eq_false h3]; rfl
theorem strip_name (z : Str) : decide (Txt.stripChars z abc = Str.ofString "") = (cl z).all lowB := by
  have e : abc.cps.contains = lowB := funext abc_low
  have h := strip_empty z abc
  rw [e] at h
  cases g : (cl z).all lowB with
  | true => exact decide_eq_true (h.mpr g)
  | false => exact decide_eq_false fun q => by rw [h.mp q] at g; cases g
theorem nameB_ok {z : Str} (h : nameB (.str z) = true) : NameOk z := by
  have h' : ((decide (1 ≤ z.length) && decide (z.length ≤ 8)) && (cl z).all lowB) = true := h
  simp only [Bool.and_eq_true, decide_eq_true_eq, List.all_eq_true] at h'
  refine ⟨h'.1.1, h'.1.2, fun c hc => ?_⟩
  have := h'.2 c hc
  unfold lowB at this
  simp only [Bool.and_eq_true, decide_eq_true_eq] at this
  exact this
theorem dp_strs {K : PySem.W.Frag} {H : Hp} : ∀ zs : List Str, DpAll K H (zs.map V.str) (zs.map PyData.str)
  | [] => .nil
  | z :: zs => .cons (.str z) (dp_strs zs)
theorem lay_strs : ∀ zs : List Str, (∀ z ∈ zs, NameOk z) → PyData.canLayAll0 (zs.map PyData.str) = true ∧ PyData.depthAll (zs.map PyData.str) = 0
  | [], _ => ⟨rfl, rfl⟩
  | z :: zs, h => by
    obtain ⟨h1, h2⟩ := lay_strs zs fun y hy => h y (List.mem_cons_of_mem _ hy)
    constructor
    · show (PyData.strOk z && PyData.canLayAll0 (zs.map PyData.str)) = true
      rw [strOk_name (h z (List.mem_cons_self ..)), h1]; rfl
    · show max 0 (PyData.depthAll (zs.map PyData.str)) = 0
      rw [h2]; rfl
theorem shaped_strs {zs : List Str} (h : ∀ z ∈ zs, NameOk z) : SeqAt.shaped (.list (zs.map PyData.str)) = true := by
  obtain ⟨h1, h2⟩ := lay_strs zs h
  show (PyData.canLayAll0 (zs.map PyData.str) && decide (PyData.depthAll (zs.map PyData.str) + 1 ≤ 64)) = true
  rw [h1, h2]; rfl
theorem name_at {K : PySem.W.Frag} {H : Hp} {x : V} {a : PyData} (h : Dp K H x a) (hn : nameB a = true) : ∃ z, a = .str z ∧ x = .str z ∧ NameOk z := by
  cases h with
  | str z => exact ⟨z, rfl, rfl, nameB_ok hn⟩
  | non => cases hn
  | bl b => cases hn
  | int i => cases hn
  | lst _ _ => cases hn
  | tup _ _ => cases hn
/-- what may be shown whole -/
structure Shows (d : PyData) : Prop where
  sh : d.showable = true
  nd : d.hasDict = false
  dp : d.depth ≤ 60
  sz : d.shown.length ≤ sizeLine
end TT

set_option Elab.async false
set_option linter.all false
set_option maxRecDepth 100000
namespace TT
open PySem PySem.Spec PyProof.Rows L2
/-! ### sizes of data: bounds of its ints, of its lists' lengths, of all its signs -/
mutual
def Nice (B L : Nat) : PyData → Prop
  | .none | .bool _ => True
  | .int i => i.natAbs ≤ B
  | .str z => ∀ c ∈ cl z, c < 128
  | .list ds | .tuple ds => ds.length ≤ L ∧ NiceAll B L ds
  | .dict _ => False
def NiceAll (B L : Nat) : List PyData → Prop
  | [] => True
  | d :: ds => Nice B L d ∧ NiceAll B L ds
end
mutual
def wt : PyData → Nat
  | .none => 4
  | .bool _ => 5
  | .int _ => 25
  | .str z => 10 * z.length + 12
  | .list ds | .tuple ds => 6 + wtAll ds
  | .dict _ => 0
def wtAll : List PyData → Nat
  | [] => 0
  | d :: ds => wt d + 3 + wtAll ds
end
theorem niceAll_iff {B L : Nat} : ∀ {ds : List PyData}, NiceAll B L ds ↔ ∀ d ∈ ds, Nice B L d
  | [] => ⟨fun _ _ h => absurd h List.not_mem_nil, fun _ => trivial⟩
  | d :: ds => by
    constructor
    · intro h e he
      rcases List.mem_cons.mp he with rfl | he
      · exact h.1
      · exact niceAll_iff.mp h.2 e he
    · intro h
      exact ⟨h d (List.mem_cons_self ..), niceAll_iff.mpr fun e he => h e (List.mem_cons_of_mem _ he)⟩
mutual
theorem Nice.mono {B B' L L' : Nat} (hB : B ≤ B') (hL : L ≤ L') : ∀ {d : PyData}, Nice B L d → Nice B' L' d
  | .none, _ => trivial
  | .bool _, _ => trivial
  | .int i, h => Nat.le_trans (show i.natAbs ≤ B from h) hB
  | .str _, h => h
  | .list ds, h => ⟨Nat.le_trans h.1 hL, NiceAll.mono hB hL h.2⟩
  | .tuple ds, h => ⟨Nat.le_trans h.1 hL, NiceAll.mono hB hL h.2⟩
  | .dict _, h => h
theorem NiceAll.mono {B B' L L' : Nat} (hB : B ≤ B') (hL : L ≤ L') : ∀ {ds : List PyData}, NiceAll B L ds → NiceAll B' L' ds
  | [], _ => trivial
  | d :: ds, h => ⟨Nice.mono hB hL h.1, NiceAll.mono hB hL h.2⟩
end
theorem wtAll_app : ∀ (ds es : List PyData), wtAll (ds ++ es) = wtAll ds + wtAll es
  | [], es => by simp [wtAll]
  | d :: ds, es => by
    show wt d + 3 + wtAll (ds ++ es) = wt d + 3 + wtAll ds + wtAll es
    rw [wtAll_app ds es]; omega
theorem wtAll_len : ∀ ds : List PyData, ds.length ≤ wtAll ds
  | [] => Nat.zero_le _
  | d :: ds => by
    have := wtAll_len ds
    show ds.length + 1 ≤ wt d + 3 + wtAll ds
    omega
theorem wt_mem : ∀ {ds : List PyData} {d : PyData}, d ∈ ds → wt d + 3 ≤ wtAll ds
  | e :: ds, d, h => by
    show wt d + 3 ≤ wt e + 3 + wtAll ds
    rcases List.mem_cons.mp h with rfl | h
    · omega
    · have := wt_mem h; omega
theorem depth_mem : ∀ {ds : List PyData} {d : PyData}, d ∈ ds → d.depth ≤ PyData.depthAll ds
  | e :: ds, d, h => by
    show d.depth ≤ max e.depth (PyData.depthAll ds)
    rcases List.mem_cons.mp h with rfl | h
    · exact Nat.le_max_left _ _
    · exact Nat.le_trans (depth_mem h) (Nat.le_max_right _ _)
theorem depthAll_le {n : Nat} : ∀ {ds : List PyData}, (∀ d ∈ ds, d.depth ≤ n) → PyData.depthAll ds ≤ n
  | [], _ => Nat.zero_le _
  | d :: ds, h => Nat.max_le.mpr ⟨h d (List.mem_cons_self ..), depthAll_le fun e he => h e (List.mem_cons_of_mem _ he)⟩
mutual
theorem fit_nice {B L : Nat} (hL : L ≤ 900) : ∀ {d : PyData}, Nice B L d → wt d ≤ 100000 → Fit d
  | .none, _, _ => trivial
  | .bool _, _, _ => trivial
  | .int _, _, _ => trivial
  | .str z, _, h => by
    show z.length ≤ 10000
    have h' : 10 * z.length + 12 ≤ 100000 := h
    omega
  | .list ds, h, hw => ⟨Nat.le_trans h.1 hL, fitAll_nice hL h.2 (by have : 6 + wtAll ds ≤ 100000 := hw; omega)⟩
  | .tuple ds, h, hw => ⟨Nat.le_trans h.1 hL, fitAll_nice hL h.2 (by have : 6 + wtAll ds ≤ 100000 := hw; omega)⟩
  | .dict _, h, _ => h.elim
theorem fitAll_nice {B L : Nat} (hL : L ≤ 900) : ∀ {ds : List PyData}, NiceAll B L ds → wtAll ds ≤ 100000 → FitAll ds
  | [], _, _ => trivial
  | d :: ds, h, hw => by
    have hw' : wt d + 3 + wtAll ds ≤ 100000 := hw
    exact ⟨fit_nice hL h.1 (by omega), fitAll_nice hL h.2 (by omega)⟩
end
theorem int_len {i : Int} (h : i.natAbs ≤ 10 ^ 20) : (Str.ofString (toString i)).length ≤ 22 := by
  by_cases h0 : 0 ≤ i
  · exact Nat.le_trans (toString_length_le (v := i) (k := 21) h0 (by decide) (by omega)) (by decide)
  · have g := len_text_negI (n := i) (by omega)
    have g2 := toString_length_le (v := 0 - i) (k := 21) (by omega) (by decide) (by omega)
    omega
theorem list_len (ts : List Str) : (listText ts).length ≤ piled ts + 4 := by
  unfold listText
  rw [str_len_app]
  cases ts with
  | nil => decide +kernel
  | cons t r =>
    have e : (textFrom 0 "[" (t :: r)).length ≤ piled (t :: r) + 3 := by
      show (textFrom 1 (_ ++ t) r).length ≤ _
      rw [textFrom_length_pos _ _ _ (by decide), str_len_app, piled_cons]
      have : (Str.ofString "[" ++ Str.ofString (if 0 > 0 then ", " else "")).length = 1 := by decide +kernel
      omega
    have : (Str.ofString "]").length = 1 := by decide +kernel
    omega
theorem tup_len (ts : List Str) : (tupleText ts).length ≤ piled ts + 4 := by
  have e1 : (Str.ofString "(").length = 1 := by decide +kernel
  have e3 : (Str.ofString (if ts.length == 1 then ",)" else ")" : String)).length ≤ 2 := by split <;> decide +kernel
  unfold tupleText
  rw [str_len_app, str_len_app]
  by_cases h : ts = []
  · subst h
    decide +kernel
  · have := join_length_add ts h
    omega
mutual
theorem shown_len {B L : Nat} (hB : B ≤ 10 ^ 20) : ∀ {d : PyData}, Nice B L d → d.shown.length ≤ wt d
  | .none, _ => by decide +kernel
  | .bool b, _ => by cases b <;> decide +kernel
  | .int i, h => Nat.le_trans (int_len (Nat.le_trans (show i.natAbs ≤ B from h) hB)) (by show 22 ≤ 25; decide)
  | .str z, h => by
    show (reprText z).length ≤ 10 * z.length + 12
    have := StrLaws.reprText_len z fun c hc => Nat.lt_of_lt_of_le (h c hc) (by decide)
    omega
  | .list ds, h => by
    show (listText (PyData.shownAll ds)).length ≤ 6 + wtAll ds
    have g1 := list_len (PyData.shownAll ds)
    have g2 := shownAll_len hB h.2
    omega
  | .tuple ds, h => by
    show (tupleText (PyData.shownAll ds)).length ≤ 6 + wtAll ds
    have g1 := tup_len (PyData.shownAll ds)
    have g2 := shownAll_len hB h.2
    omega
  | .dict _, h => h.elim
theorem shownAll_len {B L : Nat} (hB : B ≤ 10 ^ 20) : ∀ {ds : List PyData}, NiceAll B L ds → piled (PyData.shownAll ds) ≤ wtAll ds
  | [], _ => Nat.le_refl _
  | d :: ds, h => by
    show piled (d.shown :: PyData.shownAll ds) ≤ wt d + 3 + wtAll ds
    rw [piled_cons]
    have g1 := shown_len hB h.1
    have g2 := shownAll_len hB h.2
    omega
end
mutual
theorem showable_nice {B L : Nat} (hB : B ≤ 10 ^ 20) : ∀ {d : PyData}, Nice B L d → d.showable = true ∧ d.hasDict = false
  | .none, _ => ⟨rfl, rfl⟩
  | .bool _, _ => ⟨rfl, rfl⟩
  | .int i, h => ⟨decide_eq_true (Nat.lt_of_lt_of_le (PySem.Flt.log2_lt_of (k := 70) (by decide) (Nat.lt_of_le_of_lt (Nat.le_trans (show i.natAbs ≤ B from h) hB) (by decide))) (by decide)), rfl⟩
  | .str _, _ => ⟨rfl, rfl⟩
  | .list ds, h => showableAll_nice hB h.2
  | .tuple ds, h => showableAll_nice hB h.2
  | .dict _, h => h.elim
theorem showableAll_nice {B L : Nat} (hB : B ≤ 10 ^ 20) : ∀ {ds : List PyData}, NiceAll B L ds → PyData.showableAll ds = true ∧ PyData.hasDictAll ds = false
  | [], _ => ⟨rfl, rfl⟩
  | d :: ds, h => by
    obtain ⟨a1, a2⟩ := showable_nice hB h.1
    obtain ⟨b1, b2⟩ := showableAll_nice hB h.2
    constructor
    · show (d.showable && PyData.showableAll ds) = true
      rw [a1, b1]; rfl
    · show (d.hasDict || PyData.hasDictAll ds) = false
      rw [a2, b2]; rfl
end
theorem shows_nice {B L : Nat} {d : PyData} (h : Nice B L d) (hB : B ≤ 10 ^ 20) (hd : d.depth ≤ 60) (hw : wt d ≤ 100000) : Shows d :=
  ⟨(showable_nice hB h).1, (showable_nice hB h).2, hd, Nat.le_trans (shown_len hB h) (Nat.le_trans hw (by decide))⟩
/-! ### numbers that may be truths -/
inductive NumV : V → Int → Prop
  | int (i : Int) : NumV (.int i) i
  | bl (b : Bool) : NumV (.bl b) (if b = true then 1 else 0)
section
variable {X : Cx}
theorem op_addN : OpR X (binaryOp .Add) (fun x y H Q => ∃ i j, NumV x i ∧ y = .int j ∧ Q (.int (i + j)) H) := by
  intro pins s σ H x y v u Q I rx ry h
  obtain ⟨i, j, n, rfl, q⟩ := h
  obtain ⟨t, rfl⟩ := ry
  cases n with
  | int i => exact op_add pins s σ H (.int i) (.int j) v _ Q I rx ⟨t, rfl⟩ ⟨i, j, rfl, rfl, q⟩
  | bl b => cases rx; exact IntBool.add_bool_int ⟨.int _, H, I.tok _, ⟨_, rfl⟩, q⟩
theorem op_subN : OpR X (binaryOp .Sub) (fun x y H Q => ∃ i j, NumV x i ∧ y = .int j ∧ Q (.int (i - j)) H) := by
  intro pins s σ H x y v u Q I rx ry h
  obtain ⟨i, j, n, rfl, q⟩ := h
  obtain ⟨t, rfl⟩ := ry
  cases n with
  | int i => exact op_sub pins s σ H (.int i) (.int j) v _ Q I rx ⟨t, rfl⟩ ⟨i, j, rfl, rfl, q⟩
  | bl b => cases rx; exact IntBool.sub_bool_int ⟨.int _, H, I.tok _, ⟨_, rfl⟩, q⟩
theorem op_subIN : OpR X (binaryOp .Sub) (fun x y H Q => ∃ i j, x = .int i ∧ NumV y j ∧ Q (.int (i - j)) H) := by
  intro pins s σ H x y v u Q I rx ry h
  obtain ⟨i, j, rfl, n, q⟩ := h
  obtain ⟨t, rfl⟩ := rx
  cases n with
  | int j => exact op_sub pins s σ H (.int i) (.int j) _ u Q I ⟨t, rfl⟩ ry ⟨i, j, rfl, rfl, q⟩
  | bl b => cases ry; exact IntBool.sub_int_bool ⟨.int _, H, I.tok _, ⟨_, rfl⟩, q⟩
/-- str of such -/
def numText : V → Str
  | .int i => Str.ofString (toString i)
  | .bl b => if b = true then Str.ofString "True" else Str.ofString "False"
  | _ => Str.empty
theorem call_str_num : CallR X (.type "str") (fun xs H Q => ∃ x i, xs = [x] ∧ NumV x i ∧ i.natAbs.log2 < 1920 ∧ Q (.str (numText x)) H) := by
  intro pins s σ H xs us Q I r h
  obtain ⟨x, i, rfl, n, hi, q⟩ := h
  cases n with
  | int i => exact call_str_int pins s σ H _ us Q I r ⟨i, rfl, hi, q⟩
  | bl b =>
    obtain ⟨u, rfl, rx⟩ := vals1 r
    cases rx
    exact P.str_of_bool ⟨.str _, H, I.tok _, ⟨_, rfl⟩, q⟩
end
end TT

set_option Elab.async false
set_option linter.all false
set_option maxRecDepth 100000
namespace TT
open PySem PySem.Spec PyProof.Rows L2
/-! ### what may be put in another's place -/
structure Good (B W : Nat) (e : PyData) : Prop where
  nice : Nice B 1 e
  wt : wt e ≤ W
  dep : e.depth ≤ 1
theorem msk_at {M : List Addr} {H : Hp} {p : Addr} {o : HO} (h : H p = some o) (n : p ∉ M) : msk M H p = some o := by
  unfold msk
  rw [if_neg n]
  exact h
/-- a mask over the state of the draws and more, all of it there -/
structure Mask (M : List Addr) (H : Hp) (s c : Addr) : Prop where
  sc : ∀ p ∈ [s, c], p ∈ M
  tr : ∀ p ∈ M, H p ≠ none
theorem Mask.new {M : List Addr} {H : Hp} {s c p : Addr} (h : Mask M H s c) (n : H p = none) : p ∉ M := fun z => h.tr p z n
theorem Mask.up {M : List Addr} {H : Hp} {s c p : Addr} {o : HO} (h : Mask M H s c) : Mask M (upd H p o) s c := ⟨h.sc, fun b hb => by
  unfold upd
  split
  · exact fun z => nomatch z
  · exact h.tr b hb⟩
theorem Mask.kept {M : List Addr} {H H' : Hp} {s c : Addr} {T : Nat} (h : Mask M H s c) (k : Kept [s, c] H H') (S : StAt H' s c T) : Mask M H' s c := ⟨h.sc, fun b hb z => by
  by_cases hm : b ∈ [s, c]
  · simp only [List.mem_cons, List.not_mem_nil, or_false] at hm
    rcases hm with rfl | rfl
    · obtain ⟨t, _, e⟩ := S.ex
      rw [z] at e; cases e
    · obtain ⟨ns, _, _, e⟩ := S.cs
      rw [z] at e; cases e
  · cases e : H b with
    | none => exact h.tr b hb e
    | some o =>
      have := k b o e hm
      rw [z] at this; cases this⟩
theorem Mask.same {M : List Addr} {H H' : Hp} {s c : Addr} (h : Mask M H s c) (k : Kept [s, c] H H') : Same (msk M H) (msk M H') := msk_same (k.mono h.sc)
/-- a list of such, at an address of its own -/
structure Bag (K : PySem.W.Frag) (M : List Addr) (s c : Addr) (T B W : Nat) (H0 H : Hp) (L : Addr) (vs : List V) (ds : List PyData) : Prop where
  at' : H L = some (.lst vs)
  dp : DpAll K (msk M H) vs ds
  good : ∀ e ∈ ds, Good B W e
  kept : Kept [s, c] H0 H
  st : StAt H s c T
  out : L ∉ M
  mask : Mask M H s c
section
variable {K : PySem.W.Frag} {M : List Addr} {s c L L' p : Addr} {T B W : Nat} {H0 H : Hp} {vs us : List V} {ds es : List PyData} {o : HO}
theorem Bag.up (b : Bag K M s c T B W H0 H L vs ds) (n : H p = none) : Bag K M s c T B W H0 (upd H p o) L vs ds :=
  ⟨by rw [upd_ne (ne_of_none b.at' n)]; exact b.at', dpAll_same (msk_same (Kept.upd_new n)) b.dp, b.good, b.kept.trans (Kept.upd_new n), b.st.upd_new n, b.out, b.mask.up⟩
theorem Bag.mk' (dp : DpAll K (msk M H) vs ds) (good : ∀ e ∈ ds, Good B W e) (kept : Kept [s, c] H0 H) (S : StAt H s c T) (hM : Mask M H s c) (n : H L = none) : Bag K M s c T B W H0 (upd H L (.lst vs)) L vs ds :=
  ⟨upd_same, dpAll_same (msk_same (Kept.upd_new n)) dp, good, kept.trans (Kept.upd_new n), S.upd_new n, hM.new n, hM.up⟩
theorem Bag.cat (a : Bag K M s c T B W H0 H L vs ds) (b : Bag K M s c T B W H0 H L' us es) (n : H p = none) : Bag K M s c T B W H0 (upd H p (.lst (vs ++ us))) p (vs ++ us) (ds ++ es) :=
  Bag.mk' (dpAll_app a.dp b.dp) (fun e he => (List.mem_append.mp he).elim (a.good e) (b.good e)) a.kept a.st a.mask n
theorem dp_tup_new {v : List V} {d : List PyData} (hM : Mask M H s c) (n : H p = none) (h : DpAll K (msk M H) v d) : Dp K (msk M (upd H p (.tup v))) (.ref p) (.tuple d) :=
  .tup (.inl (.inl (msk_at upd_same (hM.new n)))) (dpAll_same (msk_same (Kept.upd_new n)) h)
theorem dp_lst_new {v : List V} {d : List PyData} (hM : Mask M H s c) (n : H p = none) (h : DpAll K (msk M H) v d) : Dp K (msk M (upd H p (.lst v))) (.ref p) (.list d) :=
  .lst (.inl (.inl (msk_at upd_same (hM.new n)))) (dpAll_same (msk_same (Kept.upd_new n)) h)
theorem dp_up {v : V} {d : PyData} (n : H p = none) (h : Dp K (msk M H) v d) : Dp K (msk M (upd H p o)) v d := dp_same (msk_same (Kept.upd_new n)) h
end
def ascB (z : Str) : Bool := (cl z).all (fun c => decide (c < 128)) && decide (z.length ≤ 10)
theorem asc_of {z : Str} (h : ascB z = true) {B W : Nat} (hW : 112 ≤ W) : Good B W (.str z) := by
  unfold ascB at h
  simp only [Bool.and_eq_true, List.all_eq_true, decide_eq_true_eq] at h
  exact ⟨h.1, by show 10 * z.length + 12 ≤ W; omega, Nat.zero_le _⟩
theorem int_of {i : Int} {B W : Nat} (h : i.natAbs ≤ B) (hW : 112 ≤ W) : Good B W (.int i) := ⟨h, by show 25 ≤ W; omega, Nat.zero_le _⟩
theorem good_one {B W : Nat} {e : PyData} (h : Nice B 1 e) (hd : e.depth = 0) (hw : wt e + 9 ≤ W) : Good B W (.tuple [e]) ∧ Good B W (.list [e]) := by
  have g : 6 + (wt e + 3 + 0) ≤ W := by omega
  have d1 : max e.depth 0 + 1 ≤ 1 := by rw [hd]; decide
  exact ⟨⟨⟨Nat.le_refl 1, h, trivial⟩, g, d1⟩, ⟨⟨Nat.le_refl 1, h, trivial⟩, g, d1⟩⟩
theorem name_asc {z : Str} (h : NameOk z) {B W : Nat} (hW : 112 ≤ W) : Good B W (.str z) := by
  have l : z.length ≤ 8 := h.top
  exact ⟨fun c hc => by have := h.low c hc; unfold low at this; omega, by show 10 * z.length + 12 ≤ W; omega, Nat.zero_le _⟩
/-- the first fifteen -/
def first15V (t1 l1 t2 : Addr) : List V := [.non, .bl true, .bl false, .str "", .str "a1", .str "Ab", .str "abcdefghi", .str "a b", .ref t1, .ref l1, .ref t2, .int 0, .int (-1), .int (10 ^ (9 : Int).toNat), .str "none"]
def first15D : List PyData := [.none, .bool true, .bool false, .str "", .str "a1", .str "Ab", .str "abcdefghi", .str "a b", .tuple [], .list [], .tuple [.int 0], .int 0, .int (-1), .int (10 ^ (9 : Int).toNat), .str "none"]
theorem first15_good {B W : Nat} (hB : 2000000000 ≤ B) (hW : 200 ≤ W) : ∀ e ∈ first15D, Good B W e := by
  have e9 : (10 : Int) ^ (9 : Int).toNat = 1000000000 := by decide
  intro e he
  unfold first15D at he
  simp only [List.mem_cons, List.not_mem_nil, or_false] at he
  rcases he with rfl | rfl | rfl | rfl | rfl | rfl | rfl | rfl | rfl | rfl | rfl | rfl | rfl | rfl | rfl
  · exact ⟨trivial, by show 4 ≤ W; omega, Nat.zero_le _⟩
  · exact ⟨trivial, by show 5 ≤ W; omega, Nat.zero_le _⟩
  · exact ⟨trivial, by show 5 ≤ W; omega, Nat.zero_le _⟩
  · exact asc_of (by decide +kernel) (by omega)
  · exact asc_of (by decide +kernel) (by omega)
  · exact asc_of (by decide +kernel) (by omega)
  · exact asc_of (by decide +kernel) (by omega)
  · exact asc_of (by decide +kernel) (by omega)
  · exact ⟨⟨Nat.zero_le _, trivial⟩, by show 6 ≤ W; omega, Nat.le_refl _⟩
  · exact ⟨⟨Nat.zero_le _, trivial⟩, by show 6 ≤ W; omega, Nat.le_refl _⟩
  · exact (good_one (e := .int 0) (Nat.zero_le _) rfl (by show 34 ≤ W; omega)).1
  · exact int_of (Nat.zero_le _) (by omega)
  · exact int_of (by show 1 ≤ B; omega) (by omega)
  · exact int_of (by rw [e9]; show 1000000000 ≤ B; omega) (by omega)
  · exact asc_of (by decide +kernel) (by omega)
theorem upper_asc {z : Str} (h : ∀ c ∈ cl z, c < 128) : (∀ c ∈ cl (Txt.upper z), c < 128) ∧ (Txt.upper z).length = z.length := by
  rw [upper_ascii h]
  constructor
  · intro c hc
    have hc' : c ∈ (cl z).map up1 := by
      have e : cl (⟨z.cps.map up1⟩ : Str) = (cl z).map up1 := by
        show (z.cps.map up1).toList = z.cps.toList.map up1
        exact Array.toList_map
      rw [e] at hc; exact hc
    obtain ⟨a, ha, rfl⟩ := List.mem_map.mp hc'
    have := h a ha
    unfold up1
    split <;> omega
  · show (z.cps.map up1).size = z.cps.size
    exact Array.size_map
theorem cut_asc {z : Str} (h : ∀ c ∈ cl z, c < 128) (lo hi : Option Int) : (∀ c ∈ cl (cutS z lo hi), c < 128) ∧ (cutS z lo hi).length ≤ z.length := by
  constructor
  · intro c hc
    rw [cut_cl] at hc
    exact h c (List.mem_of_mem_drop (List.mem_of_mem_take hc))
  · rw [cl_len, cut_cl, List.length_take, List.length_drop]
    have : (cl z).length = z.length := rfl
    omega
theorem num_asc {v : V} {i : Int} (h : NumV v i) (hi : i.natAbs ≤ 10 ^ 20) : (∀ c ∈ cl (numText v), c < 128) ∧ (numText v).length ≤ 22 := by
  cases h with
  | bl b => cases b <;> exact ⟨by decide +kernel, by decide +kernel⟩
  | int i =>
    refine ⟨?_, int_len hi⟩
    have all : ∀ m : Nat, ∀ ch ∈ (toString (Int.ofNat m)).toList, ch.toNat < 128 := fun m ch hch => by
      have e1 := text_ofNat m
      rw [Str.ofString_eq_toList] at e1
      have e2 : (toString (Int.ofNat m)).toList.map Char.toNat = (Nat.toDigits 10 m).map Char.toNat := congrArg (fun z : Str => z.cps.toList) e1
      have hm : ch.toNat ∈ (Nat.toDigits 10 m).map Char.toNat := by rw [← e2]; exact List.mem_map.mpr ⟨ch, hch, rfl⟩
      obtain ⟨c2, h2, e3⟩ := List.mem_map.mp hm
      rw [← e3]
      have h3 := Nat.isDigit_of_mem_toDigits (by decide) (by decide) h2
      simp only [Char.isDigit, Bool.and_eq_true, decide_eq_true_eq] at h3
      have h4 : c2.val.toNat ≤ 57 := h3.2
      show c2.val.toNat < 128
      omega
    intro c hc
    have hc' : c ∈ (toString i).toList.map Char.toNat := by
      have e : cl (Str.ofString (toString i)) = (toString i).toList.map Char.toNat := by
        unfold cl
        rw [Str.ofString_eq_toList]
      rw [← e]; exact hc
    obtain ⟨ch, hch, rfl⟩ := List.mem_map.mp hc'
    by_cases h0 : 0 ≤ i
    · obtain ⟨m, rfl⟩ : ∃ m : Nat, i = Int.ofNat m := ⟨i.toNat, by show i = ((i.toNat : Nat) : Int); omega⟩
      exact all m ch hch
    · rw [toString_neg (by omega), String.toList_append] at hch
      obtain ⟨m, hm⟩ : ∃ m : Nat, 0 - i = Int.ofNat m := ⟨(0 - i).toNat, by show 0 - i = (((0 - i).toNat : Nat) : Int); omega⟩
      rcases List.mem_append.mp hch with h | h
      · have e : ("-" : String).toList = ['-'] := by decide
        rw [e] at h
        rw [List.mem_singleton.mp h]
        decide
      · rw [hm] at h
        exact all m ch h
/-! ### pieces of data -/
theorem dpAll_take {K : PySem.W.Frag} {H : Hp} : ∀ {ds : List PyData} {vs : List V} (n : Nat), DpAll K H vs ds → DpAll K H (vs.take n) (ds.take n)
  | _, _, 0, _ => .nil
  | _, _, _ + 1, .nil => .nil
  | _, _, n + 1, .cons h t => .cons h (dpAll_take n t)
theorem dpAll_drop {K : PySem.W.Frag} {H : Hp} : ∀ {ds : List PyData} {vs : List V} (n : Nat), DpAll K H vs ds → DpAll K H (vs.drop n) (ds.drop n)
  | _, _, 0, h => h
  | _, _, _ + 1, .nil => .nil
  | _, _, n + 1, .cons _ t => dpAll_drop n t
theorem dpAll_rev {K : PySem.W.Frag} {H : Hp} : ∀ {ds : List PyData} {vs : List V}, DpAll K H vs ds → DpAll K H vs.reverse ds.reverse
  | _, _, .nil => .nil
  | _, _, .cons h t => by
    rw [List.reverse_cons, List.reverse_cons]
    exact dpAll_snoc (dpAll_rev t) h
theorem dpAll_set {K : PySem.W.Frag} {H : Hp} {v : V} {d : PyData} (h : Dp K H v d) : ∀ {ds : List PyData} {vs : List V} (n : Nat), DpAll K H vs ds → DpAll K H (vs.set n v) (ds.set n d)
  | _, _, _, .nil => .nil
  | _, _, 0, .cons _ t => .cons h t
  | _, _, n + 1, .cons g t => .cons g (dpAll_set h n t)
theorem wtAll_rev : ∀ ds : List PyData, wtAll ds.reverse = wtAll ds
  | [] => rfl
  | d :: ds => by
    rw [List.reverse_cons, wtAll_app, wtAll_rev ds]
    show wtAll ds + (wt d + 3 + 0) = wt d + 3 + wtAll ds
    omega
theorem wtAll_cut (ds : List PyData) (n : Nat) : wtAll (ds.take n) + wtAll (ds.drop n) = wtAll ds := by
  rw [← wtAll_app, List.take_append_drop]
/-- what has become of a list's items -/
structure Pc (B L : Nat) (ds es : List PyData) : Prop where
  len : es.length ≤ L + 1
  mem : ∀ e ∈ es, Nice B (L + 1) e ∧ e.depth ≤ PyData.depthAll ds + 1
  wt : wtAll es ≤ 3 * wtAll ds + 2000
theorem pc_mem {B L : Nat} {ds : List PyData} (h : NiceAll B L ds) : ∀ e ∈ ds, Nice (B + 2000000000) (L + 1) e ∧ e.depth ≤ PyData.depthAll ds + 1 := fun e he =>
  ⟨(niceAll_iff.mp h e he).mono (by omega) (by omega), Nat.le_trans (depth_mem he) (Nat.le_succ _)⟩
/-- the things that are made of a container -/
structure Bt (B L : Nat) (d e : PyData) : Prop where
  nice : Nice (B + 2000000000) (L + 1) e
  wt : wt e ≤ 3 * wt d + 2000
  dep : e.depth ≤ d.depth + 1
theorem bt_good {B L : Nat} {d e : PyData} (h : Good (B + 2000000000) (wt d + 300) e) : Bt B L d e := ⟨h.nice.mono (Nat.le_refl _) (by omega), by have := h.wt; omega, by have := h.dep; omega⟩
theorem cutV_lo (xs : List V) (a : Nat) : cutV xs none (some (a : Int)) = xs.take a := by
  unfold cutV
  rw [HT.sIx_none, HT.sIx_nat, List.drop_zero, Nat.sub_zero]
  by_cases h : a ≤ xs.length
  · rw [Nat.min_eq_left h]
  · rw [Nat.min_eq_right (by omega), List.take_of_length_le (Nat.le_refl _), List.take_of_length_le (by omega)]
theorem cutV_hi (xs : List V) (a : Nat) : cutV xs (some (a : Int)) none = xs.drop a := by
  unfold cutV
  rw [HT.sIx_none, HT.sIx_nat]
  by_cases h : a ≤ xs.length
  · rw [Nat.min_eq_left h, List.take_of_length_le]
    rw [List.length_drop]; exact Nat.le_refl _
  · rw [Nat.min_eq_right (by omega), List.drop_length, List.drop_of_length_le (by omega)]
    simp
theorem cutV_mid (xs : List V) (a b : Nat) (h : a ≤ xs.length) : cutV xs (some (a : Int)) (some ((a : Int) + b)) = (xs.drop a).take b := by
  unfold cutV
  rw [show ((a : Int) + b) = ((a + b : Nat) : Int) by omega, HT.sIx_nat, HT.sIx_nat, Nat.min_eq_left h, List.take_eq_take_iff, List.length_drop]
  omega
/-- a container: a tuple or a list -/
theorem cont_of {K : PySem.W.Frag} {H : Hp} {v : V} {d : PyData} (hd : Dp K H v d) (h : (isTB d || isLB d) = true) : ∃ p xs ds, v = .ref p ∧ DpAll K H xs ds ∧ ((d = .tuple ds ∧ SqT K H p xs) ∨ (d = .list ds ∧ SqL K H p xs)) := by
  cases hd with
  | non => cases h
  | bl b => cases h
  | int i => cases h
  | str z => cases h
  | lst hs a => exact ⟨_, _, _, rfl, a, .inr ⟨rfl, hs⟩⟩
  | tup hs a => exact ⟨_, _, _, rfl, a, .inl ⟨rfl, hs⟩⟩
end TT

set_option Elab.async false
set_option linter.all false
set_option maxRecDepth 100000
namespace TT
open PySem PySem.Spec PyProof.Rows L2
/-! ### is some data among names -/
def inS (zs : List Str) : PyData → Bool
  | .str z => decide (z ∈ zs)
  | _ => false
theorem any_eqv (zs : List Str) (d : PyData) : (zs.map PyData.str).any (fun z => PyData.eqv z d) = inS zs d := by
  rw [List.any_map]
  cases d with
  | str z =>
    show zs.any (fun y => y == z) = decide (z ∈ zs)
    rw [Bool.eq_iff_iff]
    simp
  | none => exact List.any_eq_false.mpr fun x _ => by simp [Function.comp, PyData.eqv]
  | bool b => exact List.any_eq_false.mpr fun x _ => by simp [Function.comp, PyData.eqv]
  | int i => exact List.any_eq_false.mpr fun x _ => by simp [Function.comp, PyData.eqv]
  | list ds => exact List.any_eq_false.mpr fun x _ => by simp [Function.comp, PyData.eqv]
  | tuple ds => exact List.any_eq_false.mpr fun x _ => by simp [Function.comp, PyData.eqv]
  | dict ds => exact List.any_eq_false.mpr fun x _ => by simp [Function.comp, PyData.eqv]
def rInN (K : PySem.W.Frag) : R2 := fun x y H Q => ∃ (d : PyData) (zs : List Str) (p : Addr), y = .ref p ∧ Dp K H x d ∧ SeqAt.shaped d = true ∧ (SqL K H p (zs.map V.str) ∨ SqT K H p (zs.map V.str)) ∧ SeqAt.shaped (.list (zs.map PyData.str)) = true ∧ Q (.bl (inS zs d)) H
def rNinN (K : PySem.W.Frag) : R2 := fun x y H Q => ∃ (d : PyData) (zs : List Str) (p : Addr), y = .ref p ∧ Dp K H x d ∧ SeqAt.shaped d = true ∧ (SqL K H p (zs.map V.str) ∨ SqT K H p (zs.map V.str)) ∧ SeqAt.shaped (.list (zs.map PyData.str)) = true ∧ Q (.bl (!inS zs d)) H
section
variable {X : Cx}
theorem op_inN (hu : X.A.units + 65 < cLine) : OpR X (compareOp .In) (rInN X.K) := by
  intro pins s σ H x y v u Q I rx ry h
  obtain ⟨d, zs, p, rfl, hd, sd, he, se, q⟩ := h
  rw [← any_eqv] at q
  obtain ⟨as, r1⟩ := Dp.reads I d x v hd rx
  rcases he with he | he
  · obtain ⟨bs, r2⟩ := Dp.reads I (.list (zs.map PyData.str)) (.ref p) u (.lst he (dp_strs zs)) ry
    exact SeqAt.in_list_reads r2 r1 (SeqAt.canLay_of_shaped se) (SeqAt.canLay_of_shaped sd) (room_in_shaped sd hu) ⟨.bl _, H, I, rfl, q⟩
  · obtain ⟨bs, r2⟩ := Dp.reads I (.tuple (zs.map PyData.str)) (.ref p) u (.tup he (dp_strs zs)) ry
    exact SeqAt.in_tuple_reads r2 r1 (SeqAt.canLay_of_shaped se) (SeqAt.canLay_of_shaped sd) (room_in_shaped sd hu) ⟨.bl _, H, I, rfl, q⟩
theorem op_ninN (hu : X.A.units + 65 < cLine) : OpR X (compareOp .NotIn) (rNinN X.K) := by
  intro pins s σ H x y v u Q I rx ry h
  obtain ⟨d, zs, p, rfl, hd, sd, he, se, q⟩ := h
  rw [← any_eqv] at q
  obtain ⟨as, r1⟩ := Dp.reads I d x v hd rx
  rcases he with he | he
  · obtain ⟨bs, r2⟩ := Dp.reads I (.list (zs.map PyData.str)) (.ref p) u (.lst he (dp_strs zs)) ry
    exact SeqAt.notIn_list_reads r2 r1 (SeqAt.canLay_of_shaped se) (SeqAt.canLay_of_shaped sd) (room_in_shaped sd hu) ⟨.bl _, H, I, rfl, q⟩
  · obtain ⟨bs, r2⟩ := Dp.reads I (.tuple (zs.map PyData.str)) (.ref p) u (.tup he (dp_strs zs)) ry
    exact SeqAt.notIn_tuple_reads r2 r1 (SeqAt.canLay_of_shaped se) (SeqAt.canLay_of_shaped sd) (room_in_shaped sd hu) ⟨.bl _, H, I, rfl, q⟩
/-- a statement that is never come to -/
theorem ps_nv {st : Stmt} : PS X st (fun _ _ _ => False) := ⟨fun _ _ _ _ _ _ h => h.elim⟩
end
/-! ### sizes -/
mutual
theorem lay_nice {B L : Nat} : ∀ {d : PyData}, Nice B L d → d.canLay0 = true
  | .none, _ => rfl
  | .bool _, _ => rfl
  | .int _, _ => rfl
  | .str z, h => by
    show PyData.strOk z = true
    unfold PyData.strOk
    rw [Array.all_eq_true']
    intro x hx
    have := h x (by unfold cl; exact Array.mem_toList_iff.mpr hx)
    simp; omega
  | .list ds, h => layAll_nice h.2
  | .tuple ds, h => layAll_nice h.2
  | .dict _, h => h.elim
theorem layAll_nice {B L : Nat} : ∀ {ds : List PyData}, NiceAll B L ds → PyData.canLayAll0 ds = true
  | [], _ => rfl
  | d :: ds, h => by
    show (d.canLay0 && PyData.canLayAll0 ds) = true
    rw [lay_nice h.1, layAll_nice h.2]; rfl
end
theorem shaped_nice {B L : Nat} {d : PyData} (h : Nice B L d) (hd : d.depth ≤ 60) : SeqAt.shaped d = true := by
  unfold SeqAt.shaped
  rw [lay_nice h, decide_eq_true (show d.depth ≤ 64 by omega)]; rfl
theorem shaped_str {z : Str} (h : NameOk z) : SeqAt.shaped (.str z) = true := by
  show (PyData.strOk z && decide (0 ≤ 64)) = true
  rw [strOk_name h]; rfl
theorem shaped_mem {ds : List PyData} {d : PyData} (h : SeqAt.shaped (.tuple ds) = true) (m : d ∈ ds) : SeqAt.shaped d = true := by
  have h' : (PyData.canLayAll0 ds && decide (PyData.depthAll ds + 1 ≤ 64)) = true := h
  rw [Bool.and_eq_true, decide_eq_true_eq] at h'
  have hd := depth_mem m
  unfold SeqAt.shaped
  rw [decide_eq_true (show d.depth ≤ 64 by omega), Bool.and_true]
  have g : ∀ {l : List PyData}, PyData.canLayAll0 l = true → d ∈ l → d.canLay0 = true := by
    intro l
    induction l with
    | nil => intro _ m; cases m
    | cons e l ih =>
      intro h m
      have h2 : (e.canLay0 && PyData.canLayAll0 l) = true := h
      rw [Bool.and_eq_true] at h2
      rcases List.mem_cons.mp m with rfl | m
      · exact h2.1
      · exact ih h2.2 m
  exact g h'.1 m
/-! ### the tables handed along -/
structure Tabs (K : PySem.W.Frag) (H : Hp) (tp : Addr) (ts : List Tab) : Prop where
  dp : Dp K H (.ref tp) (.tuple (ts.map tabD))
  ok : TabsOk 5 ts
  l0 : 0 < ts.length
  l8 : ts.length ≤ 8
theorem Tabs.same {K : PySem.W.Frag} {H H' : Hp} {tp : Addr} {ts : List Tab} (h : Tabs K H tp ts) (s : Same H H') : Tabs K H' tp ts := ⟨dp_same s h.dp, h.ok, h.l0, h.l8⟩
theorem Tabs.parts {K : PySem.W.Frag} {H : Hp} {tp : Addr} {ts : List Tab} (h : Tabs K H tp ts) : ∃ xs, SqT K H tp xs ∧ DpAll K H xs (ts.map tabD) ∧ xs.length = ts.length := by
  cases h.dp with
  | tup h1 h2 => exact ⟨_, h1, h2, by rw [dpAll_len h2, List.length_map]⟩
/-- one of the tables, taken apart -/
theorem tab_at {K : PySem.W.Frag} {H : Hp} {xs : List V} {ts : List Tab} {i : Nat} {x : V} (h : DpAll K H xs (ts.map tabD)) (hx : xs[i]? = some x) : ∃ (t : Tab) (q pc : Addr) (ys : List V), ts[i]? = some t ∧ x = .ref q ∧ SqT K H q [.str t.1, .ref pc] ∧ SqT K H pc ys ∧ DpAll K H ys (t.2.map colD) := by
  obtain ⟨dd, h1, h2⟩ := dpAll_get i h hx
  rw [List.getElem?_map] at h1
  obtain ⟨t, ht, rfl⟩ := Option.map_eq_some_iff.mp h1
  cases h2 with
  | tup g1 g2 =>
    cases g2 with
    | cons g3 g4 =>
      cases g4 with
      | cons g5 g6 =>
        cases g6
        cases g3
        cases g5 with
        | tup k1 k2 => exact ⟨t, _, _, _, ht, rfl, g1, k1, k2⟩
theorem col_at {K : PySem.W.Frag} {H : Hp} {ys : List V} {cs : List Col} {i : Nat} {x : V} (h : DpAll K H ys (cs.map colD)) (hx : ys[i]? = some x) : ∃ (co : Col) (q : Addr) (y : V), cs[i]? = some co ∧ x = .ref q ∧ SqT K H q [.str co.1, y] := by
  obtain ⟨dd, h1, h2⟩ := dpAll_get i h hx
  rw [List.getElem?_map] at h1
  obtain ⟨co, hco, rfl⟩ := Option.map_eq_some_iff.mp h1
  cases h2 with
  | tup g1 g2 =>
    cases g2 with
    | cons g3 g4 =>
      cases g4 with
      | cons g5 g6 =>
        cases g6
        cases g3
        exact ⟨co, _, _, hco, rfl, g1⟩
abbrev tns (ts : List Tab) : List Str := ts.map (·.1)
def colsOf (ts : List Tab) (t : Str) : List Col := match ts.find? (fun x => x.1 == t) with
  | some x => x.2
  | none => []
abbrev cns (ts : List Tab) (t : Str) : List Str := (colsOf ts t).map (·.1)
theorem colsOf_mem {ts : List Tab} (nd : (ts.map (·.1)).Nodup) {x : Tab} (hx : x ∈ ts) : colsOf ts x.1 = x.2 := by
  unfold colsOf
  induction ts with
  | nil => cases hx
  | cons a r ih =>
    rw [List.map_cons, List.nodup_cons] at nd
    rw [List.find?_cons]
    by_cases e : a.1 = x.1
    · rw [show (a.1 == x.1) = true by simp [e]]
      rcases List.mem_cons.mp hx with h | h
      · rw [h]
      · exact absurd (List.mem_map.mpr ⟨x, h, e.symm⟩) nd.1
    · rw [show (a.1 == x.1) = false by simp [e]]
      rcases List.mem_cons.mp hx with h | h
      · exact absurd (by rw [h]) e
      · exact ih nd.2 h
theorem tns_len {ts : List Tab} : (tns ts).length = ts.length := List.length_map ..
theorem tab_of {ts : List Tab} (nd : (ts.map (·.1)).Nodup) {t : Str} (h : t ∈ tns ts) : ∃ x ∈ ts, x.1 = t ∧ colsOf ts t = x.2 := by
  obtain ⟨x, hx, rfl⟩ := List.mem_map.mp h
  exact ⟨x, hx, rfl, colsOf_mem nd hx⟩
end TT

set_option Elab.async false
set_option linter.all false
set_option maxRecDepth 100000
namespace TT
open PySem PySem.Spec PyProof.Rows L2
/-- len of a list or a tuple, named -/
def rLenQ (K : PySem.W.Frag) : List V → Hp → VK → Prop := fun xs H Q => ∃ p ys, xs = [V.ref p] ∧ (SqL K H p ys ∨ SqT K H p ys) ∧ Q (.int (ys.length : Int)) H
/-! ### a list that grows, its items beside what is masked -/
structure Grow (K : PySem.W.Frag) (M : List Addr) (H : Hp) (P : Addr) (vs : List V) (ds : List PyData) : Prop where
  at' : H P = some (.lst vs)
  dp : DpAll K (msk (P :: M) H) vs ds
section
variable {K : PySem.W.Frag} {M : List Addr} {H H' : Hp} {P : Addr} {vs : List V} {ds : List PyData} {v : V} {d : PyData} {o : HO} {s c : Addr}
theorem Grow.start : Grow K M (upd H P (.lst [])) P [] [] := ⟨upd_same, .nil⟩
theorem sub_push : ∀ p ∈ M, p ∈ P :: M := fun _ h => List.mem_cons_of_mem _ h
theorem Grow.kept (g : Grow K M H P vs ds) (k : Kept M H H') (n : P ∉ M) : Grow K M H' P vs ds := ⟨k.at g.at' n, dpAll_same (msk_same (k.mono sub_push)) g.dp⟩
theorem Grow.put (g : Grow K M H P vs ds) (h : Dp K (msk (P :: M) H) v d) : Grow K M (upd H P (.lst (vs ++ [v]))) P (vs ++ [v]) (ds ++ [d]) :=
  ⟨upd_same, dpAll_same (msk_same (Kept.upd_in (List.mem_cons_self ..))) (dpAll_snoc g.dp h)⟩
theorem Grow.done (g : Grow K M H P vs ds) (n : P ∉ M) : Dp K (msk M H) (.ref P) (.list ds) := .lst (.inl (.inl (msk_at g.at' n))) (dpAll_same (msk_less sub_push) g.dp)
theorem Grow.len (g : Grow K M H P vs ds) : vs.length = ds.length := dpAll_len g.dp
theorem Mask.push (h : Mask M H s c) : Mask (P :: M) (upd H P o) s c := ⟨fun p hp => List.mem_cons_of_mem _ (h.sc p hp), fun b hb => by
  rcases List.mem_cons.mp hb with rfl | hb
  · rw [upd_same]; exact fun z => nomatch z
  · exact h.up.tr b hb⟩
theorem Mask.pop (h : Mask (P :: M) H s c) (sc : ∀ p ∈ [s, c], p ∈ M) : Mask M H s c := ⟨sc, fun b hb => h.tr b (List.mem_cons_of_mem _ hb)⟩
theorem mask0 {T : Nat} (S : StAt H s c T) : Mask [s, c] H s c := ⟨fun _ h => h, fun b hb z => by
  simp only [List.mem_cons, List.not_mem_nil, or_false] at hb
  rcases hb with rfl | rfl
  · obtain ⟨t, _, e⟩ := S.ex
    rw [z] at e; cases e
  · obtain ⟨ns, _, _, e⟩ := S.cs
    rw [z] at e; cases e⟩
end
theorem dp_ws {K : PySem.W.Frag} {H : Hp} : ∀ r : List (Option Int), DpAll K H (r.map wV) (r.map wD)
  | [] => .nil
  | w :: r => .cons (dp_w w) (dp_ws r)
/-! ### contents as plain data -/
abbrev Rw := List (Option Int)
def rowD (r : Rw) : PyData := .tuple (r.map wD)
def rowsD (rs : List Rw) : PyData := .list (rs.map rowD)
def contD (ct : List (List Rw)) : PyData := .list (ct.map rowsD)
def keyW : Rw → Int
  | some k :: _ => k
  | _ => 0
/-- a row of so many columns -/
structure RwOk (n : Nat) (r : Rw) : Prop where
  len : r.length = n
  w : ∀ o ∈ r, WOk o
  key : ∃ k t, r = some k :: t
structure RwsOk (n : Nat) (rs : List Rw) : Prop where
  row : ∀ r ∈ rs, RwOk n r
  up : (rs.map keyW).Pairwise (· < ·)
structure ContOk (L : Nat) (ts : List Tab) (ct : List (List Rw)) : Prop where
  len : ct.length = ts.length
  rows : ∀ (i : Nat) (t : Tab) (rs : List Rw), ts[i]? = some t → ct[i]? = some rs → RwsOk t.2.length rs
  few : ∀ rs ∈ ct, rs.length ≤ L
theorem RwsOk.snoc {n : Nat} {rs : List Rw} {r : Rw} (h : RwsOk n rs) (hr : RwOk n r) (hk : ∀ x ∈ rs, keyW x < keyW r) : RwsOk n (rs ++ [r]) where
  row := fun x hx => by
    rcases List.mem_append.mp hx with h1 | h1
    · exact h.row x h1
    · rw [List.mem_singleton.mp h1]; exact hr
  up := by
    rw [List.map_append, List.pairwise_append]
    refine ⟨h.up, by simp, fun a ha b hb => ?_⟩
    obtain ⟨x, hx, rfl⟩ := List.mem_map.mp ha
    rw [List.map_singleton] at hb
    rw [List.mem_singleton.mp hb]
    exact hk x hx
section
variable {P : Program} {w : World} {K : PySem.W.Frag} {mg : Str → Option Value} {base : Heap}
def spNear : Sp := fun vs H Q _ => ∃ (s c : Addr) (T m : Nat) (low : Int), vs = [.ref s, .int low, .int m] ∧ StAt H s c T ∧ T + 5 ≤ 1000000 ∧ 0 < m ∧ m ≤ 1000 ∧ -900000000 ≤ low ∧ low ≤ 900000000 ∧
  ∀ (o : Option Int) (H' : Hp), WOk o → StAt H' s c (T + 5) → Kept [s, c] H H' → Q (wV o) H'
abbrev s_law_near : Stmt := topS 31
abbrev N_law_near : List Str := ["state", "low", "many", "way"]
theorem sc_law_near : FnScope N_law_near ["state", "low", "many"] (defScope s_law_near) := ⟨rfl, rfl, rfl, by decide +kernel, rfl, by decide +kernel, by decide +kernel⟩

theorem ok_near {f : Addr} {fd : FuncData} (F : Fun K "_law_near" "_law_near" s_law_near f fd) (nb : NB mg) (D_law_take : Def P w K mg base 1 "_law_take" ["state", "many"] spTake) (D_law_worth : Def P w K mg base 2 "_law_worth" ["state"] spWorth) : FnOk P w K mg base CX0 3 f fd ["state", "low", "many"] spNear := by
  refine F.ok sc_law_near (fun vs H Q E h => ?_) (fun cdv A outer sh H vs Q E hr h => ?_)
  · obtain ⟨s, c, T, m, low, rfl, _⟩ := h
    rfl
  · obtain ⟨s, c, T, m, low, rfl, S, hT, hm0, hm, hl0, hl1, q⟩ := h
    have nd := sc_law_near.nd
    refine ⟨_, (pss_cons (ps_set (i := 3) nd rfl (Or.inl rfl) (pe_own D_law_take hr (pa_cons (pv 0) (pa_cons pe_int pa_nil))))
      (pss_one (ps_ret (pe_ifExp (pt_cmpR op_eq (pv 3) pe_int (nomark _)) (pe_own D_law_worth hr (pa_cons (pv 0) pa_nil)) (pe_ix ix_list (pe_lst (pa_cons (pe_op op_add (pv 1) (pe_own D_law_take hr (pa_cons (pv 0) (pa_cons (pe_op op_mul pe_int (pv 2)) pa_nil)))) (pa_cons pe_non pa_nil))) (pe_callTy call_int1 (by rfl) nb.b_int (by decide +kernel) (pa_cons (pe_cmpR op_eq (pv 3) pe_int (nomark _)) pa_nil)) (fun _ _ => rfl)))))), ?_⟩
    refine ⟨.ref s, rfl, s, c, T, _, rfl, S, by omega, by decide, by decide, fun way H1 w0 w1 S1 K1 => ?_⟩
    refine ⟨.int way, rfl, rfl, _, rfl, ite2 (fun h1 => ?_) (fun h1 => ?_)⟩
    · refine ⟨.ref s, rfl, s, c, _, rfl, S1, by omega, fun o H2 wo S2 K2 => ?_⟩
      exact q o H2 wo (S2.mono (by omega)) (K1.trans K2)
    · refine ⟨.int low, rfl, .ref s, rfl, .int m, rfl, _, _, rfl, rfl, .inl ⟨by decide, by decide⟩, s, c, _, _, rfl, S1, by omega, by omega, by omega, fun d H2 d0 d1 S2 K2 => ?_⟩
      refine ⟨_, _, rfl, rfl, (by show 2 ≤ sizeLine; decide), fun p np => ?_⟩
      refine ⟨.int way, rfl, rfl, .inr ⟨_, rfl, ?_⟩⟩
      have S3 := (S2.upd_new (o := .lst [.int (low + d), .non]) np).mono (T' := T + 5) (by omega)
      have K3 : Kept [s, c] H (upd H2 p (.lst [.int (low + d), .non])) := K1.trans (K2.trans (Kept.upd_new np))
      have d1' : d < 2 * (m : Int) := d1
      cases h2 : decide (V.int way = V.int 1) with
      | true => exact ⟨p, _, 1, .non, rfl, rfl, .inl (.inl upd_same), rfl, q none _ trivial S3 K3⟩
      | false => exact ⟨p, _, 0, .int (low + d), rfl, rfl, .inl (.inl upd_same), rfl, q (some (low + d)) _ ⟨by omega, by omega⟩ S3 K3⟩
end
end TT

set_option Elab.async false
set_option linter.all false
set_option maxRecDepth 100000
namespace TT
open PySem PySem.Spec PyProof.Rows L2
structure TabX (K : PySem.W.Frag) (H : Hp) (tp : Addr) (ts : List Tab) (xs : List V) : Prop where
  sq : SqT K H tp xs
  dp : DpAll K H xs (ts.map tabD)
theorem TabX.same {K : PySem.W.Frag} {H H' : Hp} {tp : Addr} {ts : List Tab} {xs : List V} (h : TabX K H tp ts xs) (s : Same H H') : TabX K H' tp ts xs := ⟨sameT s h.sq, dpAll_same s h.dp⟩
theorem TabX.len {K : PySem.W.Frag} {H : Hp} {tp : Addr} {ts : List Tab} {xs : List V} (h : TabX K H tp ts xs) : xs.length = ts.length := by rw [dpAll_len h.dp, List.length_map]
section
variable {P : Program} {w : World} {K : PySem.W.Frag} {mg : Str → Option Value} {base : Heap}
def spContent (K : PySem.W.Frag) : Sp := fun vs H Q _ => ∃ (s c tp : Addr) (T m : Nat) (ts : List Tab), vs = [.ref s, .ref tp, .int m] ∧ StAt H s c T ∧ T + 6000 ≤ 1000000 ∧ 0 < m ∧ m ≤ 10 ∧ Tabs K (msk [s, c] H) tp ts ∧
  ∀ (p : Addr) (ct : List (List Rw)) (H' : Hp), ContOk m ts ct → (∀ rs ∈ ct, ∀ r ∈ rs, -3 ≤ keyW r ∧ keyW r < 1000030) → H p = none → Dp K (msk [s, c] H') (.ref p) (contD ct) → StAt H' s c (T + 6000) → Kept [s, c] H H' → Q (.ref p) H'
abbrev s_law_content : Stmt := topS 30
abbrev N_law_content : List Str := ["state", "tables", "many", "content", "low", "table", "columns", "rows", "key", "others", "column"]
theorem sc_law_content : FnScope N_law_content ["state", "tables", "many"] (defScope s_law_content) := ⟨rfl, rfl, rfl, by decide +kernel, rfl, by decide +kernel, by decide +kernel⟩

set_option maxHeartbeats 4000000 in
theorem ok_content {f : Addr} {fd : FuncData} (F : Fun K "_law_content" "_law_content" s_law_content f fd) (nb : NB mg) (D_law_take : Def P w K mg base 1 "_law_take" ["state", "many"] spTake)
    (D_law_near : Def P w K mg base 3 "_law_near" ["state", "low", "many"] spNear) : FnOk P w K mg base CX0 4 f fd ["state", "tables", "many"] (spContent K) := by
  refine F.ok sc_law_content (fun vs H Q E h => ?_) (fun cdv A outer sh H vs Q E hr h => ?_)
  · obtain ⟨s, c, tp, T, m, ts, rfl, _⟩ := h
    rfl
  · obtain ⟨s, c, tp, T, m, ts, rfl, S, hT, hm0, hm, hTt, q⟩ := h
    have nd := sc_law_content.nd
    have hu := hu_of hr
    refine ⟨_, (pss_cons (ps_asg (pe_tup (pa_cons (pe_lst pa_nil) (pa_cons (pe_ix ix_list (pe_lst (pa_cons pe_int (pa_cons pe_int (pa_cons (pe_un un_neg pe_int) (pa_cons (pe_op op_pow pe_int pe_int) pa_nil))))) (pe_own D_law_take hr (pa_cons (pv 0) (pa_cons pe_int pa_nil))) (fun _ _ => rfl)) pa_nil))) (pg_tup rfl (pgs_cons (pg_name (i := 3) nd rfl (Or.inl rfl)) (pgs_cons (pg_name (i := 4) nd rfl (Or.inr rfl)) pgs_nil))))
      (pss_cons (ps_for PassesOwn.never rfl (pi_tup (pv 1)) (pg_tup rfl (pgs_cons (pg_name (i := 5) nd rfl (Or.inl rfl)) (pgs_cons (pg_name (i := 6) nd rfl (Or.inl rfl)) pgs_nil)))
        (pss_cons (ps_set (i := 7) nd rfl (Or.inl rfl) (pe_lst pa_nil))
        (pss_cons (ps_for PassesOwn.never rfl (pi_range2 (by rfl) nb.b_range (pa_cons (pv 4) (pa_cons (pe_op op_add (pv 4) (pe_op op_mul pe_int (pv 2))) pa_nil))) (pg_name (i := 8) nd rfl (Or.inl rfl))
          (pss_one (ps_if (PW.pt (pw_and (pt_cmpR op_lt (pe_callB call_len_seq (by rfl) nb.b_len (by decide +kernel) (pa_cons (pv 7) pa_nil)) (pv 2) (nomark _)) (pw_and1 (pt_cmpR op_eq (pe_own D_law_take hr (pa_cons (pv 0) (pa_cons pe_int pa_nil))) pe_int (nomark _)))))
            (pss_cons (ps_setLc (i := 9) (own := [("column", 10)]) (g := (gName 10)) (tt := tYes) rfl nd rfl rfl (sw_true rfl rfl rfl (by decide +kernel)) (pi_tup (pe_slice sl_tup (pv 6) (po_some pe_int) po_none)) (blkOk_by (N := N_law_content) (sc := defScope s_law_content) (by decide +kernel)) (fun _ _ _ _ _ => (pg_name (i := 10) nd rfl (Or.inl rfl))) (fun _ _ _ _ _ => pts_nil) (fun _ _ _ _ _ => (pe_own D_law_near hr (pa_cons (pv 0) (pa_cons (pv 4) (pa_cons (pv 2) pa_nil))))))
            (pss_one (ps_expr (pe_bm PySem.F.plainAttrs_list PySem.F.slot_list_append PySem.F.type_list_append mt_append (pv 7) (pa_cons (pe_callTy call_tuple_of (by rfl) nb.b_tuple (by decide +kernel) (pa_cons (pe_op op_cat (pe_lst (pa_cons (pv 8) pa_nil)) (pv 9)) pa_nil)) pa_nil)))))
            pss_nil)))
        (pss_one (ps_expr (pe_bm PySem.F.plainAttrs_list PySem.F.slot_list_append PySem.F.type_list_append mt_append (pv 3) (pa_cons (pv 7) pa_nil)))))))
      (pss_one (ps_ret (pv 3))))), ?_⟩
    have M0 := mask0 S
    obtain ⟨xs, hX⟩ : ∃ xs, TabX K (msk [s, c] H) tp ts xs := by
      obtain ⟨xs, h1, h2, _⟩ := hTt.parts
      exact ⟨xs, h1, h2⟩
    have okt := hTt.ok
    have l0 := hTt.l0
    have l8 := hTt.l8
    -- content, low = ..
    refine ⟨Nat.zero_le _, fun P3 n3 => ?_⟩
    have S1 := S.upd_new (o := .lst []) n3
    have g1 : Grow K [s, c] (upd H P3 (.lst [])) P3 [] [] := .start
    have M1 : Mask [P3, s, c] (upd H P3 (.lst [])) s c := M0.push
    have X1 : TabX K (msk [P3, s, c] (upd H P3 (.lst []))) tp ts xs := hX.same ((msk_new n3).trans (msk_same (Kept.upd_new n3)))
    have o3 : P3 ∉ [s, c] := M0.new n3
    have k1 : Kept [P3, s, c] H (upd H P3 (.lst [])) := Kept.upd_new n3
    generalize upd H P3 (.lst []) = H1 at S1 g1 M1 X1 k1 ⊢
    refine ⟨3, rfl, 10, 6, rfl, rfl, ⟨by decide, by decide, by decide⟩, (by show 4 ≤ sizeLine; decide), fun p1 n1 => ?_⟩
    have e6 : (10 : Int) ^ (6 : Int).toNat = 1000000 := by decide
    have e1 : (upd H1 p1 (.lst [.int 0, .int 1, .int (-3), .int (10 ^ (6 : Int).toNat)])) p1 = some (.lst [.int 0, .int 1, .int (-3), .int (10 ^ (6 : Int).toNat)]) := upd_same
    have S2 := S1.upd_new (o := .lst [.int 0, .int 1, .int (-3), .int (10 ^ (6 : Int).toNat)]) n1
    have k2 : Kept [s, c] H1 (upd H1 p1 (.lst [.int 0, .int 1, .int (-3), .int (10 ^ (6 : Int).toNat)])) := Kept.upd_new n1
    have op1 : p1 ∉ [s, c] := by simp [(S1.nes n1).symm, (S1.nec n1).symm]
    refine ⟨.ref s, rfl, s, c, T, _, rfl, S2, by omega, by decide, by decide, fun d H3 d0 d1 S3 K3 => ?_⟩
    obtain ⟨low, hl0, hl1, hat⟩ : ∃ low : Int, -3 ≤ low ∧ low ≤ 1000000 ∧ atI [V.int 0, V.int 1, V.int (-3), V.int (10 ^ (6 : Int).toNat)] d = some (.int low) := by
      have : d = 0 ∨ d = 1 ∨ d = 2 ∨ d = 3 := by omega
      rcases this with rfl | rfl | rfl | rfl
      · exact ⟨0, by decide, by decide, rfl⟩
      · exact ⟨1, by decide, by decide, rfl⟩
      · exact ⟨-3, by decide, by decide, rfl⟩
      · exact ⟨10 ^ (6 : Int).toNat, by decide, by decide, rfl⟩
    refine ⟨p1, _, _, _, rfl, rfl, .inl (.inl (K3.at e1 op1)), hat, (by show 2 ≤ sizeLine; decide), fun pt nt => ⟨pt, _, rfl, .inl (.inl upd_same), rfl, .ref P3, _, rfl, .int low, _, rfl, rfl, ?_⟩⟩
    have k4 : Kept [s, c] H1 (upd H3 pt (.tup [.ref P3, .int low])) := k2.trans (K3.trans (Kept.upd_new nt))
    have S4 := S3.upd_new (o := .tup [.ref P3, .int low]) nt
    have g4 := g1.kept k4 o3
    have k4' : Kept [P3, s, c] H1 (upd H3 pt (.tup [.ref P3, .int low])) := k4.mono sub_push
    have M4 := M1.kept k4 S4
    have X4 := X1.same (msk_same k4')
    have kk4 := k1.trans k4'
    generalize upd H3 pt (.tup [.ref P3, .int low]) = H4 at k4 S4 g4 k4' M4 X4 kk4 ⊢
    clear k2 K3 S3 S2 e1 g1 k1 k4 k4' X1 M1 S1 hat op1
    -- for table, columns in tables
    refine ⟨.ref tp, rfl, tp, rfl, ⟨_, sameT (msk_sub _ _) X4.sq⟩, ?_⟩
    refine for_tup (K := K) (a := tp) (xs := xs) (fun i σ H' => (∃ y5 y6 y7 y8 y9, σ = [some (.ref s), some (.ref tp), some (.int m), some (.ref P3), some (.int low), y5, y6, y7, y8, y9, none]) ∧
      (∃ (vs : List V) (ct : List (List Rw)), Grow K [s, c] H' P3 vs (ct.map rowsD) ∧ ct.length = i ∧ (∀ (j : Nat) (t : Tab) (rs : List Rw), ts[j]? = some t → ct[j]? = some rs → RwsOk t.2.length rs) ∧ ∀ rs ∈ ct, rs.length ≤ m ∧ ∀ r ∈ rs, -3 ≤ keyW r ∧ keyW r < 1000030) ∧
      StAt H' s c (T + 1 + i * 600) ∧ TabX K (msk [P3, s, c] H') tp ts xs ∧ Mask [P3, s, c] H' s c ∧ Kept [P3, s, c] H H')
      ⟨⟨none, none, none, none, none, rfl⟩, ⟨[], [], g4, rfl, fun j t rs _ h => by simp at h, fun _ h => absurd h List.not_mem_nil⟩, S4.mono (by omega), X4, M4, kk4⟩ (fun i σ H' _ hP => sameT (msk_sub _ _) hP.2.2.2.1.sq) (fun i x σ H5 hx hP => ?_) (fun σ H5 hP => ?_)
    · obtain ⟨⟨y5, y6, y7, y8, y9, rfl⟩, ⟨vs, ct, g5, lct, okc, few⟩, S5, X5, M5, k5⟩ := hP
      obtain ⟨tb, qq, pc, ys, htb, rfl, h1, h2, h3⟩ := tab_at X5.dp hx
      have hi : i < xs.length := (List.getElem?_eq_some_iff.mp hx).1
      have hi8 : i < 8 := by have := X5.len; omega
      obtain ⟨okcol, lcol⟩ := okt.cs tb (List.mem_of_getElem? htb)
      have lc5 := okcol.top
      have ly : ys.length = tb.2.length := by rw [dpAll_len h3, List.length_map]
      refine ⟨qq, _, rfl, sameT (msk_sub _ _) h1, rfl, .str tb.1, _, rfl, .ref pc, _, rfl, rfl, ?_⟩
      -- rows = []
      refine ⟨Nat.zero_le _, fun P7 n7 => ?_⟩
      have S6 := S5.upd_new (o := .lst []) n7
      have o7 : P7 ∉ [P3, s, c] := M5.new n7
      have M6 : Mask [P7, P3, s, c] (upd H5 P7 (.lst [])) s c := M5.push
      have g6 : Grow K [P3, s, c] (upd H5 P7 (.lst [])) P7 [] [] := .start
      have sm6 : Same (msk [P3, s, c] H5) (msk [P7, P3, s, c] (upd H5 P7 (.lst []))) := (msk_new n7).trans (msk_same (Kept.upd_new n7))
      have X6 := X5.same sm6
      have hc6 := sameT sm6 h2
      have k6 : Kept [P7, P3, s, c] H5 (upd H5 P7 (.lst [])) := Kept.upd_new n7
      have e36 : (upd H5 P7 (.lst [])) P3 = some (.lst vs) := by rw [upd_ne (ne_of_none g5.at' n7)]; exact g5.at'
      generalize upd H5 P7 (.lst []) = H6 at S6 M6 g6 sm6 X6 hc6 k6 e36 ⊢
      -- for key in range(low, low + 2 * many)
      refine ⟨.int low, rfl, .int low, rfl, .int m, rfl, _, _, rfl, rfl, .inl ⟨by decide, by decide⟩, _, _, rfl, rfl, low, _, rfl, ⟨by omega, by omega, by show _ ≤ low + 2 * (m : Int); omega, by show low + 2 * (m : Int) < _; omega⟩, ?_⟩
      have en : (low + 2 * (m : Int) - low).toNat = 2 * m := by omega
      show ∃ W : Nat → Nat → L2.St → Hp → Prop, _
      rw [en]
      refine for_range (lo := low) (n := 2 * m) (fun k σ H' => (∃ y8 y9, σ = [some (.ref s), some (.ref tp), some (.int m), some (.ref P3), some (.int low), some (.str tb.1), some (.ref pc), some (.ref P7), y8, y9, none]) ∧
        (∃ (us : List V) (rs : List Rw), Grow K [P3, s, c] H' P7 us (rs.map rowD) ∧ RwsOk tb.2.length rs ∧ rs.length ≤ m ∧ ∀ r ∈ rs, low ≤ keyW r ∧ keyW r < low + k) ∧
        StAt H' s c (T + 1 + i * 600 + k * 26) ∧ TabX K (msk [P7, P3, s, c] H') tp ts xs ∧ SqT K (msk [P7, P3, s, c] H') pc ys ∧ Mask [P7, P3, s, c] H' s c ∧ H' P3 = some (.lst vs) ∧ Kept [P7, P3, s, c] H5 H')
        ⟨⟨y8, y9, rfl⟩, ⟨[], [], g6, ⟨fun _ h => absurd h List.not_mem_nil, .nil⟩, Nat.zero_le _, fun _ h => absurd h List.not_mem_nil⟩, S6.mono (by omega), X6, hc6, M6, e36, k6⟩ (fun k σ H7 hk hP => ?_) (fun σ H7 hP => ?_)
      · obtain ⟨⟨y8, y9, rfl⟩, ⟨us, rs, g7, okr, lrs, kup⟩, S7, X7, hc7, M7, e37, k7⟩ := hP
        have lus : us.length = rs.length := by rw [g7.len, List.length_map]
        -- len(rows) < many
        refine ⟨.ref P7, rfl, P7, us, rfl, .inl (.inl (.inl g7.at')), .int m, rfl, _, _, rfl, rfl, _, rfl, ite2 (fun hb1 => ?_) (fun hb1 => ?_)⟩
        · have hb1 : (us.length : Int) < (m : Int) := of_decide_eq_true hb1
          refine ⟨.ref s, rfl, s, c, _, _, rfl, S7, by omega, by decide, by decide, fun d H8 d0 d1 S8 K8 => ?_⟩
          have M8 := M7.kept K8 S8
          have K8' : Kept [P7, P3, s, c] H7 H8 := K8.mono M7.sc
          have g8 := g7.kept (K8.mono M5.sc) o7
          have X8 := X7.same (msk_same K8')
          have hc8 := sameT (msk_same K8') hc7
          have e38 := K8.at e37 o3
          have k8 := k7.trans K8'
          refine ⟨rfl, _, rfl, ite2 (fun hb2 => ?_) (fun hb2 => ?_)⟩
          · -- others = [near(..) for column in columns[1:]]
            refine ⟨.ref pc, rfl, 1, rfl, pc, ys, rfl, sameT (msk_sub _ _) hc8, ?_, fun p9 n9 => ?_⟩
            · intro z
              have z1 := z.1
              rw [show ((1 : Int)) = ((1 : Nat) : Int) from rfl, HT.sIx_nat] at z1
              omega
            rw [show cutV ys (some 1) none = ys.drop 1 from cutV_hi ys 1]
            have S9 := S8.upd_new (o := .tup (ys.drop 1)) n9
            have e9 : (upd H8 p9 (.tup (ys.drop 1))) p9 = some (.tup (ys.drop 1)) := upd_same
            have k9 : Kept [s, c] H8 (upd H8 p9 (.tup (ys.drop 1))) := Kept.upd_new n9
            generalize upd H8 p9 (.tup (ys.drop 1)) = H9 at S9 e9 k9 ⊢
            refine ⟨p9, rfl, ⟨_, .inl (.inl e9)⟩, fun D nD => ?_⟩
            have o9 : p9 ∉ [D, s, c] := by
              intro z
              simp only [List.mem_cons, List.not_mem_nil, or_false] at z
              rcases z with rfl | rfl | rfl
              · rw [nD] at e9; cases e9
              · obtain ⟨t, _, e⟩ := S9.ex
                rw [e9] at e; cases e
              · obtain ⟨ns, _, _, e⟩ := S9.cs
                rw [e9] at e; cases e
            have ld : (ys.drop 1).length = tb.2.length - 1 := by rw [List.length_drop, ly]
            have oD : D ∉ [s, c] := by simp [(S9.nes nD).symm, (S9.nec nD).symm]
            refine lc_it (walk_tup (xs := ys.drop 1)) (fun j H' => (∃ ws : Rw, H' D = some (.lst (ws.map wV)) ∧ ws.length = j ∧ ∀ o ∈ ws, WOk o) ∧ StAt H' s c (T + 1 + i * 600 + k * 26 + 1 + j * 5) ∧ Kept [D, s, c] H9 H')
              ⟨⟨[], upd_same, rfl, fun _ h => absurd h List.not_mem_nil⟩, S9.upd_new nD, Kept.upd_new nD⟩ (fun j H' _ hP => .inl (.inl (hP.2.2.at e9 o9))) (fun j x H' H'' hj hP hY => ?_) (fun H10 hP => ?_)
            · obtain ⟨rfl, hx⟩ := hY
              obtain ⟨⟨ws, eD, lws, okw⟩, SS, kk⟩ := hP
              refine ⟨rfl, ?_⟩
              unfold tYes
              dsimp only
              refine iteT ?_
              refine ⟨.ref s, rfl, .int low, rfl, .int m, rfl, s, c, _, m, low, rfl, SS, by omega, hm0, by omega, by omega, by omega, fun o H12 wo S12 K12 => ?_⟩
              have eD2 := K12.at eD oD
              refine ⟨_, eD2, by rw [List.length_map, lws]; exact small1000 (by omega), ⟨ws ++ [o], by rw [upd_same, List.map_append]; rfl, by rw [List.length_append, lws]; rfl, fun z hz => ?_⟩, (S12.upd ?_ ?_).mono (by omega), kk.trans ((K12.mono sub_push).trans (Kept.upd_in (List.mem_cons_self ..)))⟩
              · rcases List.mem_append.mp hz with h | h
                · exact okw z h
                · rw [List.mem_singleton.mp h]; exact wo
              · exact S9.nes nD
              · exact S9.nec nD
            · obtain ⟨⟨ws, eD, lws, okw⟩, SS, kk⟩ := hP
              have kD : Kept [s, c] H9 H10 := kk.new nD
              have k10 : Kept [s, c] H8 H10 := k9.trans kD
              have M10 := M8.kept k10 SS
              have k10' : Kept [P7, P3, s, c] H8 H10 := k10.mono M7.sc
              have g10 := g8.kept (k10.mono M5.sc) o7
              have X10 := X8.same (msk_same k10')
              have hc10 := sameT (msk_same k10') hc8
              have e310 := k10.at e38 o3
              have kk10 := k8.trans k10'
              have n7D : P7 ≠ D := fun z => by
                have h1 := k9.at g8.at' (fun h => o7 (M5.sc _ h))
                rw [z, nD] at h1; cases h1
              clear k9 S9 e9 o9 kk n9 g8 X8 hc8 k8 k10 k10' kD K8 K8'
              -- rows.append(tuple([key] + others))
              refine ⟨.ref P7, rfl, .inl ⟨rfl, _, .inl (.inl g10.at')⟩, .int (low + k), rfl, (by show 1 ≤ sizeLine; decide), fun q1 nq1 => ?_⟩
              have nD1 : D ≠ q1 := ne_of_none eD nq1
              refine ⟨.ref D, rfl, q1, D, _, _, rfl, rfl, upd_same, (by rw [upd_ne nD1]; exact eD), Nat.le_of_lt (small1000 (by rw [List.length_map, lws]; show 1 + _ ≤ 1000; omega)), fun q2 nq2 => ?_⟩
              refine ⟨q2, _, rfl, .inl ⟨.inl (.inl upd_same), fun t nt => ?_⟩⟩
              have Sx := ((SS.upd_new (o := .lst [.int (low + k)]) nq1).upd_new (o := .lst ([.int (low + k)] ++ ws.map wV)) nq2).upd_new (o := .tup ([.int (low + k)] ++ ws.map wV)) nt
              have kx : Kept [s, c] H10 (upd (upd (upd H10 q1 (.lst [.int (low + k)])) q2 (.lst ([.int (low + k)] ++ ws.map wV))) t (.tup ([.int (low + k)] ++ ws.map wV))) := (Kept.upd_new nq1).trans ((Kept.upd_new nq2).trans (Kept.upd_new nt))
              have Mx := M10.kept kx Sx
              have kx' : Kept [P7, P3, s, c] H10 _ := kx.mono M7.sc
              have gx := g10.kept (kx.mono M5.sc) o7
              have Xx := X10.same (msk_same kx')
              have hcx := sameT (msk_same kx') hc10
              have e3x := kx.at e310 o3
              have kkx := kk10.trans kx'
              have Mt : Mask [P7, P3, s, c] (upd (upd H10 q1 (.lst [.int (low + k)])) q2 (.lst ([.int (low + k)] ++ ws.map wV))) s c := M10.up.up
              have ot : t ∉ [P7, P3, s, c] := Mt.new nt
              have et : (upd (upd (upd H10 q1 (.lst [.int (low + k)])) q2 (.lst ([.int (low + k)] ++ ws.map wV))) t (.tup ([.int (low + k)] ++ ws.map wV))) t = some (.tup ([.int (low + k)] ++ ws.map wV)) := upd_same
              generalize upd (upd (upd H10 q1 (.lst [.int (low + k)])) q2 (.lst ([.int (low + k)] ++ ws.map wV))) t (.tup ([.int (low + k)] ++ ws.map wV)) = Hx at Sx kx Mx kx' gx Xx hcx e3x kkx et ⊢
              have ns7 : s ≠ P7 := fun z => o7 (by rw [← z]; simp)
              have nc7 : c ≠ P7 := fun z => o7 (by rw [← z]; simp)
              have n37 : P3 ≠ P7 := fun z => o7 (by rw [← z]; simp)
              have ki : Kept [P7, P3, s, c] Hx (upd Hx P7 (.lst (us ++ [.ref t]))) := Kept.upd_in (List.mem_cons_self ..)
              have lr1 : (some (low + (k : Int)) :: ws).length = tb.2.length := by rw [List.length_cons, lws, ld]; omega
              have okr1 : RwOk tb.2.length (some (low + (k : Int)) :: ws) := ⟨lr1, fun o ho => by
                rcases List.mem_cons.mp ho with rfl | ho
                · exact ⟨by omega, by omega⟩
                · exact okw o ho, ⟨_, _, rfl⟩⟩
              refine ⟨P7, us, _, rfl, rfl, gx.at', small1000 (by rw [lus]; omega), ⟨_, _, rfl⟩, ⟨_, rs ++ [some (low + (k : Int)) :: ws], by rw [List.map_append]; exact gx.put (.tup (.inl (.inl (msk_at et ot))) (dp_ws (some (low + (k : Int)) :: ws))), okr.snoc okr1 (fun r hr => (kup r hr).2), ?_, fun r hr => ?_⟩, (Sx.upd ns7 nc7).mono (by omega), Xx.same (msk_same ki), sameT (msk_same ki) hcx, Mx.up, by rw [upd_ne n37]; exact e3x, kkx.trans ki⟩
              · rw [List.length_append]; show rs.length + 1 ≤ m; omega
              · rcases List.mem_append.mp hr with h | h
                · have := kup r h; omega
                · rw [List.mem_singleton.mp h]; show low ≤ low + (k : Int) ∧ low + (k : Int) < _; omega
          · exact ⟨⟨_, _, rfl⟩, ⟨us, rs, g8, okr, lrs, fun r hr => by have := kup r hr; omega⟩, S8.mono (by omega), X8, hc8, M8, e38, k8⟩
        · refine iteF ?_
          exact ⟨⟨_, _, rfl⟩, ⟨us, rs, g7, okr, lrs, fun r hr => by have := kup r hr; omega⟩, S7.mono (by omega), X7, hc7, M7, e37, k7⟩
      · obtain ⟨⟨y8, y9, rfl⟩, ⟨us, rs, g7, okr, lrs, kup⟩, S7, X7, hc7, M7, e37, k7⟩ := hP
        -- content.append(rows)
        have lvs : vs.length = i := by rw [g5.len, List.length_map, lct]
        have kn : Kept [P3, s, c] H5 H7 := k7.new n7
        have ns3 : s ≠ P3 := fun z => o3 (by rw [← z]; simp)
        have nc3 : c ≠ P3 := fun z => o3 (by rw [← z]; simp)
        have ki : Kept [P3, s, c] H7 (upd H7 P3 (.lst (vs ++ [.ref P7]))) := Kept.upd_in (List.mem_cons_self ..)
        have M7' : Mask [P3, s, c] H7 s c := M7.pop M5.sc
        have g7' : Grow K [s, c] H7 P3 vs (ct.map rowsD) := ⟨e37, dpAll_same (msk_same kn) g5.dp⟩
        refine ⟨.ref P3, rfl, .inl ⟨rfl, _, .inl (.inl e37)⟩, .ref P7, rfl, P3, vs, _, rfl, rfl, e37, small1000 (by omega), ⟨_, _, _, _, _, rfl⟩, ⟨_, ct ++ [rs], by rw [List.map_append]; exact g7'.put (g7.done o7), by rw [List.length_append, lct]; rfl, fun j t r hj hr => ?_, fun r hr => ?_⟩, (S7.upd ns3 nc3).mono (by omega), (X5.same (msk_same (kn.trans ki))), M7'.up, k5.trans (kn.trans ki)⟩
        · by_cases hji : j < ct.length
          · rw [List.getElem?_append_left hji] at hr
            exact okc j t r hj hr
          · have hl := (List.getElem?_eq_some_iff.mp hr).1
            rw [List.length_append] at hl
            have : j = i := by simp at hl; omega
            subst this
            rw [htb] at hj
            cases hj
            rw [List.getElem?_append_right (by omega), lct, Nat.sub_self] at hr
            cases hr
            exact okr
        · rcases List.mem_append.mp hr with h | h
          · exact few r h
          · rw [List.mem_singleton.mp h]; exact ⟨lrs, fun r hr => by have := kup r hr; omega⟩
    · obtain ⟨⟨y5, y6, y7, y8, y9, rfl⟩, ⟨vs, ct, g5, lct, okc, few⟩, S5, X5, M5, k5⟩ := hP
      have lx := X5.len
      refine ⟨.ref P3, rfl, ?_⟩
      exact q P3 ct H5 ⟨by omega, okc, fun rs h => (few rs h).1⟩ (fun rs h => (few rs h).2) n3 (g5.done o3) (S5.mono (by omega)) (k5.new n3)
end
end TT

set_option Elab.async false
set_option linter.all false
set_option maxRecDepth 100000
namespace TT
open PySem PySem.Spec PyProof.Rows L2
/-! ### sizes of tables and of contents -/
theorem name_nice {z : Str} (h : NameOk z) (B L : Nat) : Nice B L (.str z) ∧ wt (.str z) ≤ 92 := by
  have l : z.length ≤ 8 := h.top
  exact ⟨fun c hc => by have := h.low c hc; unfold low at this; omega, by show 10 * z.length + 12 ≤ 92; omega⟩
theorem w_nice : ∀ {o : Option Int}, WOk o → Nice 1000000000 8 (wD o) ∧ wt (wD o) ≤ 25 ∧ (wD o).depth = 0
  | none, _ => ⟨trivial, by show 4 ≤ 25; decide, rfl⟩
  | some i, h => ⟨by show i.natAbs ≤ 1000000000; have h' : -1000000000 ≤ i ∧ i ≤ 1000000000 := h; omega, Nat.le_refl _, rfl⟩
theorem col_nice {x : Col} (h1 : NameOk x.1) (h2 : WOk x.2) : Nice 1000000000 8 (colD x) ∧ wt (colD x) ≤ 129 ∧ (colD x).depth ≤ 1 := by
  obtain ⟨a1, a2⟩ := name_nice h1 1000000000 8
  obtain ⟨b1, b2, b3⟩ := w_nice h2
  refine ⟨⟨by show 2 ≤ 8; decide, a1, b1, trivial⟩, ?_, ?_⟩
  · show 6 + (wt (.str x.1) + 3 + (wt (wD x.2) + 3 + 0)) ≤ 129
    omega
  · show max 0 (max (wD x.2).depth 0) + 1 ≤ 1
    rw [b3]; decide
theorem sum_le {α : Type} {f : α → PyData} {n : Nat} : ∀ {l : List α}, (∀ x ∈ l, wt (f x) ≤ n) → wtAll (l.map f) ≤ l.length * (n + 3)
  | [], _ => Nat.zero_le _
  | x :: l, h => by
    have h1 := h x (List.mem_cons_self ..)
    have h2 := sum_le fun y hy => h y (List.mem_cons_of_mem x hy)
    show wt (f x) + 3 + wtAll (l.map f) ≤ (l.length + 1) * (n + 3)
    rw [Nat.add_mul]
    omega
theorem all_nice {α : Type} {f : α → PyData} {B L : Nat} {l : List α} (h : ∀ x ∈ l, Nice B L (f x)) : NiceAll B L (l.map f) := niceAll_iff.mpr fun d hd => by
  obtain ⟨x, hx, rfl⟩ := List.mem_map.mp hd
  exact h x hx
theorem all_depth {α : Type} {f : α → PyData} {n : Nat} {l : List α} (h : ∀ x ∈ l, (f x).depth ≤ n) : PyData.depthAll (l.map f) ≤ n := depthAll_le fun d hd => by
  obtain ⟨x, hx, rfl⟩ := List.mem_map.mp hd
  exact h x hx
theorem tab_nice {n : Nat} {x : Tab} (hn : n ≤ 8) (h1 : NameOk x.1) (h2 : ColsOk n x.2) : Nice 1000000000 8 (tabD x) ∧ wt (tabD x) ≤ 1166 ∧ (tabD x).depth ≤ 3 := by
  obtain ⟨a1, a2⟩ := name_nice h1 1000000000 8
  have cn := fun y hy => col_nice (h2.nm y hy) (h2.w y hy)
  have l8 : x.2.length ≤ 8 := Nat.le_trans h2.top hn
  have ws := sum_le (f := colD) (n := 129) fun y hy => (cn y hy).2.1
  refine ⟨⟨by show 2 ≤ 8; decide, a1, ⟨by rw [List.length_map]; exact l8, all_nice fun y hy => (cn y hy).1⟩, trivial⟩, ?_, ?_⟩
  · show 6 + (wt (.str x.1) + 3 + ((6 + wtAll (x.2.map colD)) + 3 + 0)) ≤ 1166
    have : x.2.length * (129 + 3) ≤ 8 * 132 := Nat.mul_le_mul_right _ l8
    omega
  · have := all_depth (f := colD) (n := 1) fun y hy => (cn y hy).2.2
    show max 0 (max (PyData.depthAll (x.2.map colD) + 1) 0) + 1 ≤ 3
    omega
theorem tabs_nice {n : Nat} {ts : List Tab} (hn : n ≤ 8) (hl : ts.length ≤ 8) (h : TabsOk n ts) : Nice 1000000000 8 (.tuple (ts.map tabD)) ∧ wt (.tuple (ts.map tabD)) ≤ 10000 ∧ (PyData.tuple (ts.map tabD)).depth ≤ 4 := by
  have tn := fun y hy => tab_nice hn (h.nm y hy) (h.cs y hy).1
  have ws := sum_le (f := tabD) (n := 1166) fun y hy => (tn y hy).2.1
  refine ⟨⟨by rw [List.length_map]; exact hl, all_nice fun y hy => (tn y hy).1⟩, ?_, ?_⟩
  · show 6 + wtAll (ts.map tabD) ≤ 10000
    have : ts.length * (1166 + 3) ≤ 8 * 1169 := Nat.mul_le_mul_right _ hl
    omega
  · have := all_depth (f := tabD) (n := 3) fun y hy => (tn y hy).2.2
    show PyData.depthAll (ts.map tabD) + 1 ≤ 4
    omega

theorem wtAll_le {n : Nat} : ∀ {l : List PyData}, (∀ x ∈ l, wt x ≤ n) → wtAll l ≤ l.length * (n + 3)
  | [], _ => Nat.zero_le _
  | x :: l, h => by
    have h1 := h x (List.mem_cons_self ..)
    have h2 := wtAll_le fun y hy => h y (List.mem_cons_of_mem x hy)
    show wt x + 3 + wtAll l ≤ (l.length + 1) * (n + 3)
    rw [Nat.add_mul]
    omega
theorem w61 {o : Option Int} (h : WOk o) (L : Nat) : Nice 1000000000 L (wD o) ∧ wt (wD o) ≤ 25 ∧ (wD o).depth = 0 := by
  cases o with
  | none => exact ⟨trivial, by show 4 ≤ 25; decide, rfl⟩
  | some i => exact ⟨by have := h.1; have := h.2; show i.natAbs ≤ 1000000000; omega, Nat.le_refl _, rfl⟩
theorem row61 {n : Nat} (hn : n ≤ 5) {r : Rw} (h : RwOk n r) : Nice 1000000000 61 (rowD r) ∧ wt (rowD r) ≤ 146 ∧ (rowD r).depth ≤ 1 := by
  have ws := sum_le (f := wD) (n := 25) (l := r) fun o ho => (w61 (h.w o ho) 61).2.1
  have hl := h.len
  refine ⟨⟨by rw [List.length_map]; omega, all_nice fun o ho => (w61 (h.w o ho) 61).1⟩, ?_, ?_⟩
  · show 6 + wtAll (r.map wD) ≤ 146
    omega
  · have := all_depth (f := wD) (l := r) (n := 0) fun o ho => Nat.le_of_eq (w61 (h.w o ho) 61).2.2
    show PyData.depthAll (r.map wD) + 1 ≤ 1
    omega
theorem rows_nice {n : Nat} (hn : n ≤ 5) {rs : List Rw} (h : RwsOk n rs) (l : rs.length ≤ 61) : Nice 1000000000 61 (rowsD rs) ∧ wt (rowsD rs) ≤ 6 + rs.length * 149 ∧ (rowsD rs).depth ≤ 2 := by
  have tn := fun y hy => row61 hn (h.row y hy)
  have ws := sum_le (f := rowD) (n := 146) fun y hy => (tn y hy).2.1
  refine ⟨⟨by rw [List.length_map]; exact l, all_nice fun y hy => (tn y hy).1⟩, ?_, ?_⟩
  · show 6 + wtAll (rs.map rowD) ≤ _
    omega
  · have := all_depth (f := rowD) (n := 1) fun y hy => (tn y hy).2.2
    show PyData.depthAll (rs.map rowD) + 1 ≤ 2
    omega
theorem wtAll_sum {α : Type} {f : α → PyData} {g : α → Nat} : ∀ {l : List α}, (∀ x ∈ l, wt (f x) ≤ g x) → wtAll (l.map f) ≤ (l.map g).sum + l.length * 3
  | [], _ => Nat.zero_le _
  | x :: l, h => by
    have h1 := h x (List.mem_cons_self ..)
    have h2 := wtAll_sum fun y hy => h y (List.mem_cons_of_mem x hy)
    show wt (f x) + 3 + wtAll (l.map f) ≤ (g x + (l.map g).sum) + (l.length + 1) * 3
    omega
theorem sum_lin {α : Type} (f : α → Nat) (a b : Nat) : ∀ l : List α, (l.map fun x => a + f x * b).sum = l.length * a + (l.map f).sum * b
  | [] => by simp
  | x :: l => by
    rw [List.map_cons, List.sum_cons, sum_lin f a b l, List.map_cons, List.sum_cons, List.length_cons, Nat.add_mul, Nat.add_mul]
    omega
theorem cont_rows {L : Nat} {ts : List Tab} {ct : List (List Rw)} (h : ContOk L ts ct) (okt : TabsOk 5 ts) {rs : List Rw} (hm : rs ∈ ct) : ∃ n, 1 ≤ n ∧ n ≤ 5 ∧ RwsOk n rs := by
  obtain ⟨i, hi⟩ := List.getElem?_of_mem hm
  have hl := (List.getElem?_eq_some_iff.mp hi).1
  have hl2 : i < ts.length := by rw [← h.len]; exact hl
  have ht : ts[i]? = some ts[i] := List.getElem?_eq_getElem hl2
  have hmt := List.mem_of_getElem? ht
  exact ⟨_, (okt.cs _ hmt).2, (okt.cs _ hmt).1.top, h.rows i _ rs ht hi⟩
theorem mem_sum : ∀ {l : List Nat} {n : Nat}, n ∈ l → n ≤ l.sum
  | a :: l, n, h => by
    rw [List.sum_cons]
    rcases List.mem_cons.mp h with rfl | h
    · omega
    · have := mem_sum h; omega
theorem cont_nice {L : Nat} {ts : List Tab} {ct : List (List Rw)} (h : ContOk L ts ct) (okt : TabsOk 5 ts) (l8 : ts.length ≤ 8) (hs : (ct.map List.length).sum ≤ 61) : Nice 1000000000 61 (contD ct) ∧ wt (contD ct) ≤ 9200 ∧ (contD ct).depth ≤ 3 := by
  have few : ∀ rs ∈ ct, rs.length ≤ 61 := fun rs hm => by
    have : rs.length ∈ ct.map List.length := List.mem_map.mpr ⟨rs, hm, rfl⟩
    have := mem_sum this
    omega
  have tn : ∀ rs ∈ ct, Nice 1000000000 61 (rowsD rs) ∧ wt (rowsD rs) ≤ 6 + rs.length * 149 ∧ (rowsD rs).depth ≤ 2 := fun rs hm => by
    obtain ⟨n, _, hn, ho⟩ := cont_rows h okt hm
    exact rows_nice hn ho (few rs hm)
  have lct := h.len
  have ws := wtAll_sum (f := rowsD) (g := fun rs => 6 + rs.length * 149) fun y hy => (tn y hy).2.1
  rw [sum_lin] at ws
  refine ⟨⟨by rw [List.length_map]; omega, all_nice fun y hy => (tn y hy).1⟩, ?_, ?_⟩
  · show 6 + wtAll (ct.map rowsD) ≤ 9200
    have : (ct.map List.length).sum * 149 ≤ 61 * 149 := Nat.mul_le_mul_right _ hs
    omega
  · have := all_depth (f := rowsD) (n := 2) fun y hy => (tn y hy).2.2
    show PyData.depthAll (ct.map rowsD) + 1 ≤ 3
    omega
theorem shows_more {B L : Nat} {d : PyData} (h : Nice B L d) (hB : B ≤ 10 ^ 20) (hd : d.depth ≤ 60) (hw : wt d ≤ 1000000) : Shows d :=
  ⟨(showable_nice hB h).1, (showable_nice hB h).2, hd, Nat.le_trans (shown_len hB h) (Nat.le_trans hw (by decide))⟩
theorem tabs_all {K : PySem.W.Frag} {H : Hp} {tp : Addr} {ts : List Tab} (h : Tabs K H tp ts) : Nice 1000000000 8 (.tuple (ts.map tabD)) ∧ wt (.tuple (ts.map tabD)) ≤ 10000 ∧ (PyData.tuple (ts.map tabD)).depth ≤ 4 := tabs_nice (by decide) h.l8 h.ok
end TT

set_option Elab.async false
set_option linter.all false
set_option maxRecDepth 100000
namespace TT
open PySem PySem.Spec PyProof.Rows L2
theorem tns_ok {ts : List Tab} (h : TabsOk 5 ts) : ∀ z ∈ tns ts, NameOk z := fun z hz => by
  obtain ⟨x, hx, rfl⟩ := List.mem_map.mp hz
  exact h.nm x hx
theorem cns_ok {ts : List Tab} (h : TabsOk 5 ts) {t : Str} (ht : t ∈ tns ts) : (∀ z ∈ cns ts t, NameOk z) ∧ 0 < (cns ts t).length ∧ (cns ts t).length ≤ 5 ∧ (cns ts t).Nodup := by
  obtain ⟨x, hx, rfl, e⟩ := tab_of h.nd ht
  unfold cns
  rw [e]
  obtain ⟨c, l⟩ := h.cs x hx
  refine ⟨fun z hz => ?_, by rw [List.length_map]; exact l, by rw [List.length_map]; exact c.top, c.nd⟩
  obtain ⟨y, hy, rfl⟩ := List.mem_map.mp hz
  exact c.nm y hy
theorem inS_str {zs : List Str} {d : PyData} (h : inS zs d = true) : ∃ z, d = .str z ∧ z ∈ zs := by
  cases d with
  | str z => exact ⟨z, rfl, of_decide_eq_true h⟩
  | _ => cases h
/-- the names of the tables as they are told by table_names -/
theorem namesOf_tabs (ts : List Tab) : namesOf (ts.map tabD) = tns ts := by
  unfold namesOf
  rw [List.map_map]
  rfl
theorem strName_tabs (ts : List Tab) : (ts.map tabD).all strName = true := List.all_eq_true.mpr fun d hd => by
  obtain ⟨x, _, rfl⟩ := List.mem_map.mp hd
  rfl
theorem u65 {k : Nat} {A : Around} (r : Room k A) : A.units + 65 < cLine := by have := r.un; omega
section
variable {P : Program} {w : World} {K : PySem.W.Frag} {mg : Str → Option Value} {base : Heap}
/-- names of what is told to be pairs, by a comprehension with two targets -/
def spNamesOf (K : PySem.W.Frag) : Sp := fun vs H Q _ => ∃ (p : Addr) (xs : List V) (ds : List PyData), vs = [.ref p] ∧ SqT K H p xs ∧ DpAll K H xs ds ∧ ds.length ≤ 900 ∧ ds.all strName = true ∧
  ∀ (D : Addr) (H' : Hp), Same H H' → H' D = some (.lst ((namesOf ds).map V.str)) → Q (.ref D) H'
abbrev s_table_names : Stmt := topS 8
abbrev N_table_names : List Str := ["tables", "table", "_"]
theorem sc_table_names : FnScope N_table_names ["tables"] (defScope s_table_names) := ⟨rfl, rfl, rfl, by decide +kernel, rfl, by decide +kernel, by decide +kernel⟩

theorem ok_table_names {f : Addr} {fd : FuncData} (F : Fun K "table_names" "table_names" s_table_names f fd) : FnOk P w K mg base CX0 1 f fd ["tables"] (spNamesOf K) := by
  refine F.ok sc_table_names (fun vs H Q E h => ?_) (fun cdv A outer sh H vs Q E hr h => ?_)
  · obtain ⟨p, xs, ds, rfl, _⟩ := h
    rfl
  obtain ⟨p, xs, ds, rfl, hS, hA, hl, hn, q⟩ := h
  have nd := sc_table_names.nd
  refine ⟨_, (pss_one (ps_ret (pe_lc (own := [("table", 1), ("_", 2)]) (g := (gTup _ 2 (gCons (gName 1) (gCons (gName 2) gNil)))) (tt := tYes) rfl nd (pi_tup (pv 0)) (blkOk_by (N := N_table_names) (sc := defScope s_table_names) (by decide +kernel)) (fun _ _ _ _ _ => (pg_tup rfl (pgs_cons (pg_name (i := 1) nd rfl (Or.inl rfl)) (pgs_cons (pg_name (i := 2) nd rfl (Or.inl rfl)) pgs_nil)))) (fun _ _ _ _ _ => pts_nil) (fun _ _ _ _ _ => (pv 1))))), ?_⟩
  have l := dpAll_len hA
  refine ⟨.ref p, rfl, p, rfl, ⟨_, hS⟩, fun D nD => ?_⟩
  refine lc_it walk_tup (PvM H D fun i => .str (strOf (fstD (ds.getD i .none)))) (pvm_start ..) (fun i H2 _ hP => sameT (pvm_same hP nD) hS) (fun i x H2 H3 hi hP hY => ?_) (fun H2 hP => ?_)
  · obtain ⟨rfl, hx⟩ := hY
    have sm := pvm_same hP nD
    obtain ⟨d, h1, h2⟩ := dpAll_get i hA hx
    have hd := List.all_eq_true.mp hn d (List.mem_of_getElem? h1)
    unfold strName at hd
    rw [Bool.and_eq_true] at hd
    obtain ⟨pt, x1, y1, a, b, rfl, rfl, hT, ha, hb⟩ := tup2 h2 hd.1
    obtain ⟨z, rfl, rfl⟩ : ∃ z, a = .str z ∧ x1 = .str z := by
      have h3 : isSB a = true := hd.2
      cases ha <;> first | exact ⟨_, rfl, rfl⟩ | cases h3
    refine ⟨pt, _, rfl, sameT sm hT, rfl, .str z, _, rfl, y1, _, rfl, rfl, ?_⟩
    refine ⟨rfl, ?_⟩
    unfold tYes
    dsimp only
    refine iteT ?_
    refine ⟨.str z, rfl, pvm_step hP (Same.refl _) ?_ (by omega)⟩
    show V.str z = .str (strOf (fstD (ds.getD i .none)))
    rw [List.getD_eq_getElem?_getD, h1]
    rfl
  · refine q D H2 (pvm_same hP nD) ?_
    rw [hP.1, l]
    unfold namesOf
    rw [List.map_map]
    have e := range_map (fun d => V.str (strOf (fstD d))) .none ds
    rw [e]
    rfl
def spColumnsOf (K : PySem.W.Frag) : Sp := fun vs H Q _ => ∃ (tp : Addr) (ts : List Tab) (t : Str), vs = [.ref tp, .str t] ∧ Tabs K H tp ts ∧ t ∈ tns ts ∧ ∀ (pc : Addr) (ys : List V), SqT K H pc ys → DpAll K H ys ((colsOf ts t).map colD) → Q (.ref pc) H
abbrev s_columns_of : Stmt := topS 11
abbrev N_columns_of : List Str := ["tables", "table", "name", "columns"]
theorem sc_columns_of : FnScope N_columns_of ["tables", "table"] (defScope s_columns_of) := ⟨rfl, rfl, rfl, by decide +kernel, rfl, by decide +kernel, by decide +kernel⟩

theorem ok_columns_of {f : Addr} {fd : FuncData} (F : Fun K "_columns_of" "_columns_of" s_columns_of f fd) : FnOk P w K mg base CX0 1 f fd ["tables", "table"] (spColumnsOf K) := by
  refine F.ok sc_columns_of (fun vs H Q E h => ?_) (fun cdv A outer sh H vs Q E hr h => ?_)
  · obtain ⟨tp, ts, t, rfl, _⟩ := h
    rfl
  obtain ⟨tp, ts, t, rfl, hT, ht, q⟩ := h
  have nd := sc_columns_of.nd
  refine ⟨_, (pss_cons (ps_for PassesOwn.never rfl (pi_tup (pv 0)) (pg_tup rfl (pgs_cons (pg_name (i := 2) nd rfl (Or.inl rfl)) (pgs_cons (pg_name (i := 3) nd rfl (Or.inl rfl)) pgs_nil)))
        (pss_one (ps_if (pt_cmpR op_eq (pv 2) (pv 1) (nomark _))
          (pss_one (ps_ret (pv 3)))
          pss_nil)))
      (pss_one ps_nv)), ?_⟩
  obtain ⟨xs, hS, hA, l⟩ := hT.parts
  refine ⟨.ref tp, rfl, tp, rfl, ⟨_, hS⟩, ?_⟩
  refine for_tup (K := K) (a := tp) (xs := xs) (fun i σ H' => (∃ y2 y3, σ = [some (.ref tp), some (.str t), y2, y3]) ∧ H' = H ∧ t ∉ (tns ts).take i) ⟨⟨none, none, rfl⟩, rfl, by simp⟩ (fun i σ H' _ hP => by rw [hP.2.1]; exact hS) (fun i x σ H' hx hP => ?_) (fun σ H' hP => ?_)
  · obtain ⟨⟨y2, y3, rfl⟩, rfl, hn⟩ := hP
    obtain ⟨tb, qq, pc, ys, htb, rfl, h1, h2, h3⟩ := tab_at hA hx
    refine ⟨qq, _, rfl, h1, rfl, .str tb.1, _, rfl, .ref pc, _, rfl, rfl, ?_⟩
    refine ⟨.str tb.1, rfl, .str t, rfl, rfl, _, rfl, ite2 (fun e => ?_) (fun e => ?_)⟩
    · obtain rfl : tb.1 = t := V.str.inj (of_decide_eq_true e)
      refine ⟨.ref pc, rfl, q pc ys h2 ?_⟩
      rw [colsOf_mem hT.ok.nd (List.mem_of_getElem? htb)]
      exact h3
    · refine ⟨⟨_, _, rfl⟩, rfl, fun z => ?_⟩
      rw [List.take_add_one, List.getElem?_map, htb] at z
      rcases List.mem_append.mp z with z | z
      · exact hn z
      · have : t = tb.1 := by simpa using z
        exact e (decide_eq_true (by rw [this]))
  · obtain ⟨_, _, hn⟩ := hP
    rw [l, ← tns_len, List.take_length] at hn
    exact hn ht
/-- a list of the names of a table's columns -/
def spColNames (K : PySem.W.Frag) : Sp := fun vs H Q _ => ∃ (tp : Addr) (ts : List Tab) (t : Str), vs = [.ref tp, .str t] ∧ Tabs K H tp ts ∧ t ∈ tns ts ∧ ∀ (D : Addr) (H' : Hp), Same H H' → H' D = some (.lst ((cns ts t).map V.str)) → Q (.ref D) H'
abbrev s_column_names : Stmt := topS 10
abbrev N_column_names : List Str := ["tables", "table", "column", "_"]
theorem sc_column_names : FnScope N_column_names ["tables", "table"] (defScope s_column_names) := ⟨rfl, rfl, rfl, by decide +kernel, rfl, by decide +kernel, by decide +kernel⟩

theorem ok_column_names {f : Addr} {fd : FuncData} (F : Fun K "column_names" "column_names" s_column_names f fd) (D_columns_of : Def P w K mg base 1 "_columns_of" ["tables", "table"] (spColumnsOf K)) : FnOk P w K mg base CX0 2 f fd ["tables", "table"] (spColNames K) := by
  refine F.ok sc_column_names (fun vs H Q E h => ?_) (fun cdv A outer sh H vs Q E hr h => ?_)
  · obtain ⟨tp, ts, t, rfl, _⟩ := h
    rfl
  obtain ⟨tp, ts, t, rfl, hT, ht, q⟩ := h
  have nd := sc_column_names.nd
  refine ⟨_, (pss_one (ps_ret (pe_lc (own := [("column", 2), ("_", 3)]) (g := (gTup _ 2 (gCons (gName 2) (gCons (gName 3) gNil)))) (tt := tYes) rfl nd (pi_tup (pe_own D_columns_of hr (pa_cons (pv 0) (pa_cons (pv 1) pa_nil)))) (blkOk_by (N := N_column_names) (sc := defScope s_column_names) (by decide +kernel)) (fun _ _ _ _ _ => (pg_tup rfl (pgs_cons (pg_name (i := 2) nd rfl (Or.inl rfl)) (pgs_cons (pg_name (i := 3) nd rfl (Or.inl rfl)) pgs_nil)))) (fun _ _ _ _ _ => pts_nil) (fun _ _ _ _ _ => (pv 2))))), ?_⟩
  refine ⟨.ref tp, rfl, .str t, rfl, tp, ts, t, rfl, hT, ht, fun pc ys hS hA => ⟨pc, rfl, ⟨_, hS⟩, fun D nD => ?_⟩⟩
  have l : ys.length = (cns ts t).length := by rw [dpAll_len hA, List.length_map, List.length_map]
  have l8 : (cns ts t).length ≤ 5 := by
    obtain ⟨x, hx, _, e⟩ := tab_of hT.ok.nd ht
    unfold cns
    rw [e, List.length_map]
    exact (hT.ok.cs x hx).1.top
  refine lc_it walk_tup (PvM H D fun i => .str ((cns ts t).getD i Str.empty)) (pvm_start ..) (fun i H2 _ hP => sameT (pvm_same hP nD) hS) (fun i x H2 H3 hi hP hY => ?_) (fun H2 hP => ?_)
  · obtain ⟨rfl, hx⟩ := hY
    have sm := pvm_same hP nD
    obtain ⟨co, qc, yc, hco, rfl, hqc⟩ := col_at hA hx
    refine ⟨qc, _, rfl, sameT sm hqc, rfl, .str co.1, _, rfl, yc, _, rfl, rfl, ?_⟩
    refine ⟨rfl, ?_⟩
    unfold tYes
    dsimp only
    refine iteT ?_
    refine ⟨.str co.1, rfl, pvm_step hP (Same.refl _) ?_ (by omega)⟩
    show V.str co.1 = .str ((cns ts t).getD i Str.empty)
    rw [getD_of (show (cns ts t)[i]? = some co.1 by rw [List.getElem?_map, hco]; rfl)]
  · refine q D H2 (pvm_same hP nD) ?_
    rw [hP.1, l]
    have e := range_map (fun z => V.str z) Str.empty (cns ts t)
    rw [e]
end
end TT

set_option Elab.async false
set_option linter.all false
set_option maxRecDepth 100000
namespace TT
open PySem PySem.Spec PyProof.Rows L2
/-! ### deeds as plain data -/
inductive Deed
  | put (t : Str) (r : Rw)
  | drop (t : Str) (k : Int)
  | sweep (t col : Str) (o : Option Int)
  | shift (t col : Str) (b : Int)
  | set (t : Str) (k : Int) (col : Str) (o : Option Int)
def deedD : Deed → PyData
  | .put t r => .tuple [.str "put", .str t, rowD r]
  | .drop t k => .tuple [.str "drop", .str t, .int k]
  | .sweep t col o => .tuple [.str "sweep", .str t, .str col, wD o]
  | .shift t col b => .tuple [.str "shift", .str t, .str col, .int b]
  | .set t k col o => .tuple [.str "set", .str t, .int k, .str col, wD o]
abbrev BOk (i : Int) : Prop := -1000000000 ≤ i ∧ i ≤ 1000000000
def DeedOk (ts : List Tab) : Deed → Prop
  | .put t r => t ∈ tns ts ∧ RwOk (cns ts t).length r
  | .drop t k => t ∈ tns ts ∧ BOk k
  | .sweep t col o => t ∈ tns ts ∧ col ∈ cns ts t ∧ WOk o
  | .shift t col b => t ∈ tns ts ∧ col ∈ cns ts t ∧ BOk b
  | .set t k col o => t ∈ tns ts ∧ BOk k ∧ col ∈ cns ts t ∧ WOk o ∧ ((cns ts t).head? = some col → o ≠ none)
theorem dpAll_ws {K : PySem.W.Frag} {H : Hp} : ∀ {r : Rw} {us : List V}, DpAll K H us (r.map wD) → us = r.map wV
  | [], _, .nil => rfl
  | none :: r, _, .cons h t => by cases h; rw [dpAll_ws t]; rfl
  | some i :: r, _, .cons h t => by cases h; rw [dpAll_ws t]; rfl
theorem row_dp {K : PySem.W.Frag} {H : Hp} {v : V} {r : Rw} (h : Dp K H v (rowD r)) : ∃ p, v = .ref p ∧ SqT K H p (r.map wV) := by
  cases h with
  | tup h1 h2 =>
    have := dpAll_ws h2
    subst this
    exact ⟨_, rfl, h1⟩
theorem rows_dp {K : PySem.W.Frag} {H : Hp} {v : V} {rs : List Rw} (h : Dp K H v (rowsD rs)) : ∃ p xs, v = .ref p ∧ SqL K H p xs ∧ DpAll K H xs (rs.map rowD) ∧ xs.length = rs.length := by
  cases h with
  | lst h1 h2 => exact ⟨_, _, rfl, h1, h2, by rw [dpAll_len h2, List.length_map]⟩
theorem cont_dp {K : PySem.W.Frag} {H : Hp} {v : V} {ct : List (List Rw)} (h : Dp K H v (contD ct)) : ∃ p xs, v = .ref p ∧ SqL K H p xs ∧ DpAll K H xs (ct.map rowsD) ∧ xs.length = ct.length := by
  cases h with
  | lst h1 h2 => exact ⟨_, _, rfl, h1, h2, by rw [dpAll_len h2, List.length_map]⟩
theorem cont_at {K : PySem.W.Frag} {H : Hp} {xs : List V} {ct : List (List Rw)} {i : Nat} {x : V} (h : DpAll K H xs (ct.map rowsD)) (hx : xs[i]? = some x) : ∃ rs, ct[i]? = some rs ∧ Dp K H x (rowsD rs) := by
  obtain ⟨d, h1, h2⟩ := dpAll_get i h hx
  rw [List.getElem?_map] at h1
  obtain ⟨rs, hr, rfl⟩ := Option.map_eq_some_iff.mp h1
  exact ⟨rs, hr, h2⟩
theorem row_at' {K : PySem.W.Frag} {H : Hp} {xs : List V} {rs : List Rw} {i : Nat} {x : V} (h : DpAll K H xs (rs.map rowD)) (hx : xs[i]? = some x) : ∃ r p, rs[i]? = some r ∧ x = .ref p ∧ SqT K H p (r.map wV) := by
  obtain ⟨d, h1, h2⟩ := dpAll_get i h hx
  rw [List.getElem?_map] at h1
  obtain ⟨r, hr, rfl⟩ := Option.map_eq_some_iff.mp h1
  obtain ⟨p, e, hp⟩ := row_dp h2
  exact ⟨r, p, hr, e, hp⟩
theorem out2 {H : Hp} {s c p : Addr} {T : Nat} (S : StAt H s c T) (n : H p = none) : p ∉ [s, c] := (mask0 S).new n
theorem fr {H H' : Hp} {s c p : Addr} {T : Nat} (K : Kept [s, c] H H') (S : StAt H' s c T) (n : H' p = none) : H p = none := K.fresh n (by
  intro q hq
  simp only [List.mem_cons, List.not_mem_nil, or_false] at hq
  rcases hq with rfl | rfl
  · exact S.nes n
  · exact S.nec n)
theorem outX {H : Hp} {s c p : Addr} {T : Nat} {xs : List V} (S : StAt H s c T) (e : H p = some (.tup xs)) : p ∉ [s, c] := by
  intro z
  simp only [List.mem_cons, List.not_mem_nil, or_false] at z
  rcases z with rfl | rfl
  · obtain ⟨t, _, e'⟩ := S.ex
    rw [e] at e'; cases e'
  · obtain ⟨ns, _, _, e'⟩ := S.cs
    rw [e] at e'; cases e'
section
variable {P : Program} {w : World} {K : PySem.W.Frag} {mg : Str → Option Value} {base : Heap}
def spDeed (K : PySem.W.Frag) : Sp := fun vs H Q _ => ∃ (s c tp cp : Addr) (T L : Nat) (ts : List Tab) (ct : List (List Rw)), vs = [.ref s, .ref tp, .ref cp] ∧ StAt H s c T ∧ T + 100 ≤ 1000000 ∧ L ≤ 60 ∧ Tabs K (msk [s, c] H) tp ts ∧ ContOk L ts ct ∧ (∀ rs ∈ ct, ∀ r ∈ rs, -100000000 ≤ keyW r ∧ keyW r < 100000000) ∧ Dp K (msk [s, c] H) (.ref cp) (contD ct) ∧
  ∀ (p : Addr) (dd : Deed) (H' : Hp), DeedOk ts dd → H p = none → Dp K (msk [s, c] H') (.ref p) (deedD dd) → StAt H' s c (T + 100) → Kept [s, c] H H' → Q (.ref p) H'
abbrev s_law_deed : Stmt := topS 32
abbrev N_law_deed : List Str := ["state", "tables", "content", "at", "table", "columns", "keys", "key", "place", "way", "others", "worths", "worth", "row", "column"]
theorem sc_law_deed : FnScope N_law_deed ["state", "tables", "content"] (defScope s_law_deed) := ⟨rfl, rfl, rfl, by decide +kernel, rfl, by decide +kernel, by decide +kernel⟩

set_option maxHeartbeats 8000000 in
theorem ok_deed {f : Addr} {fd : FuncData} (F : Fun K "_law_deed" "_law_deed" s_law_deed f fd) (nb : NB mg) (D_law_take : Def P w K mg base 1 "_law_take" ["state", "many"] spTake) (D_law_some : Def P w K mg base 2 "_law_some" ["state", "things"] (spSome K))
    (D_law_near : Def P w K mg base 3 "_law_near" ["state", "low", "many"] spNear) : FnOk P w K mg base CX0 4 f fd ["state", "tables", "content"] (spDeed K) := by
  refine F.ok sc_law_deed (fun vs H Q E h => ?_) (fun cdv A outer sh H vs Q E hr h => ?_)
  · obtain ⟨s, c, tp, cp, T, L, ts, ct, rfl, _⟩ := h
    rfl
  · obtain ⟨s, c, tp, cp, T, L, ts, ct, rfl, S, hT, hL, hTt, okc, kb, dct, q⟩ := h
    have nd := sc_law_deed.nd
    have hu := hu_of hr
    refine ⟨_, (pss_cons (ps_set (i := 3) nd rfl (Or.inl rfl) (pe_own D_law_take hr (pa_cons (pv 0) (pa_cons (pe_callB call_len_seq (by rfl) nb.b_len (by decide +kernel) (pa_cons (pv 1) pa_nil)) pa_nil))))
      (pss_cons (ps_asg (pe_ix ix_tup (pv 1) (pv 3) (fun _ _ => rfl)) (pg_tup rfl (pgs_cons (pg_name (i := 4) nd rfl (Or.inl rfl)) (pgs_cons (pg_name (i := 5) nd rfl (Or.inl rfl)) pgs_nil))))
      (pss_cons (ps_setLc (i := 6) (own := [("row", 13)]) (g := (gName 13)) (tt := tYes) rfl nd rfl rfl (sw_true rfl rfl rfl (by decide +kernel)) (pi_list (pe_ix ix_list (pv 2) (pv 3) (fun _ _ => rfl))) (blkOk_by (N := N_law_deed) (sc := defScope s_law_deed) (by decide +kernel)) (fun _ _ _ _ _ => (pg_name (i := 13) nd rfl (Or.inl rfl))) (fun _ _ _ _ _ => pts_nil) (fun _ _ _ _ _ => (pe_ix (r := rIxT K) ix_tup (pv 13) pe_int (fun _ _ => rfl))))
      (pss_cons (ps_set (i := 7) nd rfl (Or.inr rfl) (pe_ifExp (PW.pt (pw_and (pt_cmpR (op_neD hr.units) (pv 6) (pe_lst pa_nil) (nomark _)) (pw_and1 (pt_cmpR op_gt (pe_own D_law_take hr (pa_cons (pv 0) (pa_cons pe_int pa_nil))) pe_int (nomark _))))) (pe_own D_law_some hr (pa_cons (pv 0) (pa_cons (pv 6) pa_nil))) (pe_op op_sub (pe_own D_law_take hr (pa_cons (pv 0) (pa_cons pe_int pa_nil))) pe_int)))
      (pss_cons (ps_asg (pe_tup (pa_cons (pe_own D_law_take hr (pa_cons (pv 0) (pa_cons (pe_callB call_len_seq (by rfl) nb.b_len (by decide +kernel) (pa_cons (pv 5) pa_nil)) pa_nil))) (pa_cons (pe_own D_law_take hr (pa_cons (pv 0) (pa_cons pe_int pa_nil))) pa_nil))) (pg_tup rfl (pgs_cons (pg_name (i := 8) nd rfl (Or.inr rfl)) (pgs_cons (pg_name (i := 9) nd rfl (Or.inl rfl)) pgs_nil))))
      (pss_cons (ps_set (i := 10) nd rfl (Or.inl rfl) (pe_op op_cat (pe_lc (own := [("row", 13)]) (g := (gName 13)) (tt := tYes) rfl nd (pi_list (pe_ix ix_list (pv 2) (pv 3) (fun _ _ => rfl))) (blkOk_by (N := N_law_deed) (sc := defScope s_law_deed) (by decide +kernel)) (fun _ _ _ _ _ => (pg_name (i := 13) nd rfl (Or.inl rfl))) (fun _ _ _ _ _ => pts_nil) (fun _ _ _ _ _ => (pe_ix (r := rIxT K) ix_tup (pv 13) (pv 8) (fun _ _ => rfl)))) (pe_lst (pa_cons pe_non (pa_cons pe_int pa_nil)))))
      (pss_cons (ps_if (pt_cmpR op_lt (pv 9) pe_int (nomark _))
        (pss_cons (ps_setLc (i := 11) (own := [("column", 14)]) (g := (gName 14)) (tt := tYes) rfl nd rfl rfl (sw_true rfl rfl rfl (by decide +kernel)) (pi_tup (pe_slice sl_tup (pv 5) (po_some pe_int) po_none)) (blkOk_by (N := N_law_deed) (sc := defScope s_law_deed) (by decide +kernel)) (fun _ _ _ _ _ => (pg_name (i := 14) nd rfl (Or.inl rfl))) (fun _ _ _ _ _ => pts_nil) (fun _ _ _ _ _ => (pe_own D_law_near hr (pa_cons (pv 0) (pa_cons (pv 7) (pa_cons pe_int pa_nil))))))
        (pss_one (ps_ret (pe_tup (pa_cons pe_str (pa_cons (pv 4) (pa_cons (pe_callTy call_tuple_of (by rfl) nb.b_tuple (by decide +kernel) (pa_cons (pe_op op_cat (pe_lst (pa_cons (pe_op op_add (pv 7) (pe_op op_mul (pe_own D_law_take hr (pa_cons (pv 0) (pa_cons pe_int pa_nil))) (pe_own D_law_take hr (pa_cons (pv 0) (pa_cons pe_int pa_nil))))) pa_nil)) (pv 11)) pa_nil)) pa_nil)))))))
        pss_nil)
      (pss_cons (ps_if (pt_cmpR op_lt (pv 9) pe_int (nomark _))
        (pss_one (ps_ret (pe_tup (pa_cons pe_str (pa_cons (pv 4) (pa_cons (pv 7) pa_nil))))))
        pss_nil)
      (pss_cons (ps_if (pt_cmpR op_lt (pv 9) pe_int (nomark _))
        (pss_one (ps_ret (pe_tup (pa_cons pe_str (pa_cons (pv 4) (pa_cons (pe_ix ix_seq (pe_ix ix_tup (pv 5) (pv 8) (fun _ _ => rfl)) pe_int (fun _ _ => rfl)) (pa_cons (pe_own D_law_some hr (pa_cons (pv 0) (pa_cons (pv 10) pa_nil))) pa_nil)))))))
        pss_nil)
      (pss_cons (ps_if (pt_cmpR op_eq (pv 9) pe_int (nomark _))
        (pss_one (ps_ret (pe_tup (pa_cons pe_str (pa_cons (pv 4) (pa_cons (pe_ix ix_seq (pe_ix ix_tup (pv 5) (pv 8) (fun _ _ => rfl)) pe_int (fun _ _ => rfl)) (pa_cons (pe_ix ix_list (pe_lst (pa_cons pe_int (pa_cons (pe_un un_neg pe_int) (pa_cons (pe_op op_sub (pe_own D_law_take hr (pa_cons (pv 0) (pa_cons pe_int pa_nil))) pe_int) (pa_cons pe_int pa_nil))))) (pe_own D_law_take hr (pa_cons (pv 0) (pa_cons pe_int pa_nil))) (fun _ _ => rfl)) pa_nil)))))))
        pss_nil)
      (pss_cons (ps_set (i := 8) nd rfl (Or.inr rfl) (pe_op op_mul (pv 8) (pe_callTy call_int1 (by rfl) nb.b_int (by decide +kernel) (pa_cons (pe_cmpR op_eq (pe_own D_law_take hr (pa_cons (pv 0) (pa_cons pe_int pa_nil))) pe_int (nomark _)) pa_nil))))
      (pss_cons (ps_set (i := 12) nd rfl (Or.inl rfl) (pe_ifExp (pt_cmpR op_eq (pv 8) pe_int (nomark _)) (pe_op op_sub (pe_op op_add (pv 7) (pe_own D_law_take hr (pa_cons (pv 0) (pa_cons pe_int pa_nil)))) pe_int) (pe_own D_law_some hr (pa_cons (pv 0) (pa_cons (pe_op op_cat (pv 10) (pe_lst (pa_cons (pe_own D_law_near hr (pa_cons (pv 0) (pa_cons (pv 7) (pa_cons pe_int pa_nil)))) pa_nil))) pa_nil)))))
      (pss_one (ps_ret (pe_tup (pa_cons pe_str (pa_cons (pv 4) (pa_cons (pv 7) (pa_cons (pe_ix ix_seq (pe_ix ix_tup (pv 5) (pv 8) (fun _ _ => rfl)) pe_int (fun _ _ => rfl)) (pa_cons (pv 12) pa_nil)))))))))))))))))))), ?_⟩
    obtain ⟨xs, hX⟩ : ∃ xs, TabX K (msk [s, c] H) tp ts xs := by
      obtain ⟨xs, h1, h2, _⟩ := hTt.parts
      exact ⟨xs, h1, h2⟩
    have okt := hTt.ok
    have l0 := hTt.l0
    have l8 := hTt.l8
    have lx := hX.len
    have sub := msk_sub [s, c]
    -- at
    refine ⟨.ref s, rfl, .ref tp, rfl, tp, xs, rfl, .inr (sameT (sub _) hX.sq), s, c, _, _, rfl, S, by omega, by omega, by omega, fun at' H1 a0 a1 S1 K1 => ?_⟩
    obtain ⟨j, rfl⟩ : ∃ j : Nat, at' = (j : Int) := ⟨at'.toNat, by omega⟩
    have hj : j < xs.length := by omega
    have m1 := (msk_same K1).trans (sub H1)
    -- table, columns
    obtain ⟨x, hx⟩ : ∃ x, xs[j]? = some x := ⟨_, List.getElem?_eq_getElem hj⟩
    obtain ⟨tb, qq, pc, ys, htb, rfl, h1, h2, h3⟩ := tab_at hX.dp hx
    have htm := List.mem_of_getElem? htb
    obtain ⟨okcol, lcol⟩ := okt.cs tb htm
    have lc5 := okcol.top
    have ly : ys.length = tb.2.length := by rw [dpAll_len h3, List.length_map]
    have ec : colsOf ts tb.1 = tb.2 := colsOf_mem okt.nd htm
    have ht : tb.1 ∈ tns ts := List.mem_map.mpr ⟨tb, htm, rfl⟩
    have lcn : (cns ts tb.1).length = tb.2.length := by rw [List.length_map, ec]
    refine ⟨.ref tp, rfl, .int j, rfl, tp, xs, j, .ref qq, rfl, rfl, sameT m1 hX.sq, atI_nat hx, qq, _, rfl, sameT m1 h1, rfl, .str tb.1, _, rfl, .ref pc, _, rfl, rfl, ?_⟩
    -- keys
    obtain ⟨p0, zs, e0, hCS, hCA, lz⟩ := cont_dp dct
    cases e0
    have lct := okc.len
    obtain ⟨xr, hxr⟩ : ∃ xr, zs[j]? = some xr := ⟨_, List.getElem?_eq_getElem (by omega)⟩
    obtain ⟨rs, hrs, hrd⟩ := cont_at hCA hxr
    obtain ⟨rp, us, rfl, hRS, hRA, lu⟩ := rows_dp hrd
    have okr := okc.rows j tb rs htb hrs
    have lrs := okc.few rs (List.mem_of_getElem? hrs)
    have kbr := kb rs (List.mem_of_getElem? hrs)
    refine ⟨.ref cp, rfl, .int j, rfl, cp, zs, j, .ref rp, rfl, rfl, m1.seq hCS, atI_nat hxr, rp, rfl, ⟨_, m1.seq hRS⟩, fun D nD => ?_⟩
    refine lc_it (walk_list (xs := us)) (PvM H1 D fun i => .int (keyW (rs.getD i []))) (pvm_start ..) (fun i H2 _ hP => (m1.trans (pvm_same hP nD)).seq hRS) (fun i x H2 H3 hi hP hY => ?_) (fun H2 hP => ?_)
    · obtain ⟨rfl, hx⟩ := hY
      obtain ⟨r, pr, hr1, rfl, hr2⟩ := row_at' hRA hx
      obtain ⟨k0, t0, rfl⟩ := (okr.row r (List.mem_of_getElem? hr1)).key
      refine ⟨rfl, ?_⟩
      unfold tYes
      dsimp only
      refine iteT ?_
      refine ⟨.ref pr, rfl, pr, _, 0, .int k0, rfl, rfl, sameT (m1.trans (pvm_same hP nD)) hr2, atI_nat (j := 0) rfl, pvm_step hP (Same.refl _) ?_ (by omega)⟩
      rw [getD_of hr1]; rfl
    have s2 := pvm_same hP nD
    have k2 := Kept.of_same (M := [s, c]) s2
    have eD : H2 D = some (.lst ((rs.map keyW).map V.int)) := by
      rw [hP.1, lu]
      have e := range_map (fun r => V.int (keyW r)) [] rs
      rw [e, List.map_map]; rfl
    have S2 := S1.same s2
    have oD := out2 S1 nD
    have K2 := K1.trans k2
    clear hP nD
    -- key
    have keyE : ∀ k : Int, k ∈ rs.map keyW → -100000000 ≤ k ∧ k < 100000000 := fun k hk => by
      obtain ⟨r, hr, rfl⟩ := List.mem_map.mp hk
      exact kbr r hr
    refine ⟨.ref D, rfl, Nat.zero_le _, fun p1 n1 => ?_⟩
    have s3 := same_upd (o := .lst []) n1
    refine ⟨.list ((rs.map keyW).map PyData.int), .list [], .lst (.inl (.inl (s3 _ _ eD))) (dp_ints _), .lst (.inl (.inl upd_same)) .nil, shaped_ints _, rfl, _, rfl, ?_⟩
    have S3 := S2.same s3
    have k3 := Kept.of_same (M := [s, c]) s3
    rw [eqv_nil]
    have eD3 := s3 _ _ eD
    generalize upd H2 p1 (.lst []) = H3 at s3 S3 k3 eD3 ⊢
    have K3 := K2.trans k3
    refine' (fun (rest : ∀ (key : Int) (H5 : Hp), (-100000000 ≤ key ∧ key < 100000000) → StAt H5 s c (T + 5) → Kept [s, c] H H5 → (_ : Int → Hp → Prop) key H5) => _) _
    rotate_left
    · refine ite2 (fun hE => ?_) (fun hE => ?_)
      · refine ⟨.ref s, rfl, s, c, _, _, rfl, S3, by omega, by decide, by decide, fun d4 H4 d40 d41 S4 K4 => ⟨_, _, rfl, rfl, _, rfl, ?_⟩⟩
        have eD4 := K4.at eD3 oD
        have K4' := K3.trans K4
        have hne : 0 < rs.length := by
          cases rs with
          | nil => cases hE
          | cons a r => exact Nat.zero_lt_succ _
        refine ite2 (fun hd4 => ?_) (fun hd4 => ?_)
        · refine ⟨.ref s, rfl, .ref D, rfl, s, c, D, _, _, rfl, S4, by omega, oD, .inl (.inl (.inl eD4)), by rw [List.length_map, List.length_map]; exact hne, by rw [List.length_map, List.length_map]; omega, fun i5 u5 H5 hu5 S5 K5 => ?_⟩
          obtain ⟨key, rfl, hkm⟩ : ∃ key : Int, u5 = V.int key ∧ key ∈ rs.map keyW := by
            rw [List.getElem?_map] at hu5
            obtain ⟨k, hk, rfl⟩ := Option.map_eq_some_iff.mp hu5
            exact ⟨k, rfl, List.mem_of_getElem? hk⟩
          exact rest key H5 (keyE key hkm) (S5.mono (by omega)) (K4'.trans K5)
        · refine ⟨.ref s, rfl, s, c, _, _, rfl, S4, by omega, by decide, by decide, fun d5 H5 d50 d51 S5 K5 => ⟨_, _, rfl, rfl, ?_⟩⟩
          exact rest (d5 - 3) H5 ⟨by omega, by omega⟩ (S5.mono (by omega)) (K4'.trans K5)
      · refine ⟨.ref s, rfl, s, c, _, _, rfl, S3, by omega, by decide, by decide, fun d5 H5 d50 d51 S5 K5 => ⟨_, _, rfl, rfl, ?_⟩⟩
        exact rest (d5 - 3) H5 ⟨by omega, by omega⟩ (S5.mono (by omega)) (K3.trans K5)
    · intro key H5 kk S5 K5'
      obtain ⟨kl, kh⟩ := kk
      show tSeq _ _ _ [some (.ref s), some (.ref tp), some (.ref cp), some (.int j), some (.str tb.1), some (.ref pc), some (.ref D), some (.int key), none, none, none, none, none, none, none] H5
      clear K3 k3 s3 S3 eD3 n1 S2 s2 k2 oD eD K2 m1
      have m5 := (msk_same K5').trans (sub H5)
      -- place, way
      refine ⟨.ref s, rfl, .ref pc, rfl, pc, ys, rfl, .inr (sameT m5 h2), s, c, _, _, rfl, S5, by omega, by omega, by omega, fun pl' H6 p0 p1 S6 K6 => ⟨.ref s, rfl, s, c, _, _, rfl, S6, by omega, by decide, by decide, fun way H7 w0 w1 S7 K7 => ⟨(by show 2 ≤ sizeLine; decide), fun pt nt => ⟨pt, _, rfl, .inl (.inl upd_same), rfl, .int pl', _, rfl, .int way, _, rfl, rfl, ?_⟩⟩⟩⟩
      obtain ⟨pl, rfl⟩ : ∃ pl : Nat, pl' = (pl : Int) := ⟨pl'.toNat, by omega⟩
      have hpl : pl < tb.2.length := by omega
      have S8 := S7.upd_new (o := .tup [.int pl, .int way]) nt
      have K8 : Kept [s, c] H (upd H7 pt (.tup [.int pl, .int way])) := K5'.trans (K6.trans (K7.trans (Kept.upd_new nt)))
      generalize upd H7 pt (.tup [.int pl, .int way]) = H8 at S8 K8 ⊢
      clear S7 S6 K7 K6 S5 K5' m5 nt
      have m8 := (msk_same K8).trans (sub H8)
      -- others
      refine ⟨.ref cp, rfl, .int j, rfl, cp, zs, j, .ref rp, rfl, rfl, m8.seq hCS, atI_nat hxr, rp, rfl, ⟨_, m8.seq hRS⟩, fun D2 nD2 => ?_⟩
      refine lc_it (walk_list (xs := us)) (PvM H8 D2 fun i => wV ((rs.getD i []).getD pl none)) (pvm_start ..) (fun i H9 _ hP => (m8.trans (pvm_same hP nD2)).seq hRS) (fun i x H9 H10 hi hP hY => ?_) (fun H9 hP => ?_)
      · obtain ⟨rfl, hx⟩ := hY
        obtain ⟨r, pr, hr1, rfl, hr2⟩ := row_at' hRA hx
        have lr := (okr.row r (List.mem_of_getElem? hr1)).len
        have hw : (r.map wV)[pl]? = some (wV (r.getD pl none)) := by
          have h5 : r[pl]? = some r[pl] := List.getElem?_eq_getElem (by omega)
          rw [List.getElem?_map, getD_of h5, h5]; rfl
        refine ⟨rfl, ?_⟩
        unfold tYes
        dsimp only
        refine iteT ?_
        refine ⟨.ref pr, rfl, .int pl, rfl, pr, _, pl, _, rfl, rfl, sameT (m8.trans (pvm_same hP nD2)) hr2, atI_nat hw, pvm_step hP (Same.refl _) ?_ (by omega)⟩
        rw [getD_of hr1]
      have s9 := pvm_same hP nD2
      obtain ⟨os0, eos⟩ : ∃ os0 : Rw, os0 = rs.map fun r => r.getD pl none := ⟨_, rfl⟩
      have los0 : os0.length = rs.length := by rw [eos, List.length_map]
      have wos0 : ∀ o ∈ os0, WOk o := fun o ho => by
        rw [eos] at ho
        obtain ⟨r, hr, rfl⟩ := List.mem_map.mp ho
        by_cases h5 : pl < r.length
        · rw [getD_of (List.getElem?_eq_getElem h5)]
          exact (okr.row r hr).w _ (List.getElem_mem _)
        · rw [List.getD_eq_getElem?_getD, List.getElem?_eq_none (by omega)]; trivial
      have eD2 : H9 D2 = some (.lst (os0.map wV)) := by
        rw [hP.1, lu, eos]
        have e := range_map (fun r : Rw => wV (r.getD pl none)) [] rs
        rw [e, List.map_map]; rfl
      refine ⟨(by show 2 ≤ sizeLine; decide), fun q1 nq1 => ?_⟩
      have nD21 : D2 ≠ q1 := ne_of_none eD2 nq1
      refine ⟨D2, q1, _, _, rfl, rfl, (by rw [upd_ne nD21]; exact eD2), upd_same, Nat.le_of_lt (small1000 (by rw [List.length_map, los0]; show rs.length + 2 ≤ 1000; omega)), fun O nO => ?_⟩
      have S10 := (S8.same s9).upd_new (o := .lst [.non, .int 0]) nq1 |>.upd_new (o := .lst (os0.map wV ++ [.non, .int 0])) nO
      have K10 : Kept [s, c] H (upd (upd H9 q1 (.lst [.non, .int 0])) O (.lst (os0.map wV ++ [.non, .int 0]))) := K8.trans ((Kept.of_same s9).trans ((Kept.upd_new nq1).trans (Kept.upd_new nO)))
      have oO : O ∉ [s, c] := out2 ((S8.same s9).upd_new (o := .lst [.non, .int 0]) nq1) nO
      have eO : (upd (upd H9 q1 (.lst [.non, .int 0])) O (.lst (os0.map wV ++ [.non, .int 0]))) O = some (.lst ((os0 ++ [none, some 0]).map wV)) := by rw [upd_same, List.map_append]; rfl
      have wos : ∀ o ∈ os0 ++ [none, some 0], WOk o := fun o ho => by
        rcases List.mem_append.mp ho with h | h
        · exact wos0 o h
        · simp only [List.mem_cons, List.not_mem_nil, or_false] at h
          rcases h with rfl | rfl
          · trivial
          · exact ⟨by decide, by decide⟩
      have los : (os0 ++ [none, some 0]).length = rs.length + 2 := by rw [List.length_append, los0]; rfl
      show tSeq _ _ _ [some (.ref s), some (.ref tp), some (.ref cp), some (.int j), some (.str tb.1), some (.ref pc), some (.ref D), some (.int key), some (.int pl), some (.int way), some (.ref O), none, none, none, none] (upd (upd H9 q1 (.lst [.non, .int 0])) O (.lst (os0.map wV ++ [.non, .int 0])))
      generalize upd (upd H9 q1 (.lst [.non, .int 0])) O (.lst (os0.map wV ++ [.non, .int 0])) = H10 at S10 K10 eO ⊢
      generalize os0 ++ [none, some 0] = os at eO wos los
      clear hP nD2 s9 eD2 nD21 nq1 nO S8 K8 m8 los0 wos0 eos
      have m10 := (msk_same K10).trans (sub H10)
      have kW : WOk (some key) := ⟨by omega, by omega⟩
      obtain ⟨y, hy⟩ : ∃ y, ys[pl]? = some y := ⟨_, List.getElem?_eq_getElem (by omega)⟩
      obtain ⟨co, qc, yc, hco, rfl, hqc⟩ := col_at h3 hy
      have hcol : co.1 ∈ cns ts tb.1 := by
        show co.1 ∈ (colsOf ts tb.1).map (·.1)
        rw [ec]
        exact List.mem_map.mpr ⟨co, List.mem_of_getElem? hco, rfl⟩
      -- way < 2
      refine ⟨.int way, rfl, _, _, rfl, rfl, _, rfl, ite2 (fun w2 => ?_) (fun w2 => ?_)⟩
      · -- a put
        refine ⟨.ref pc, rfl, 1, rfl, pc, ys, rfl, sameT m10 h2, ?_, fun p9 n9 => ?_⟩
        · intro z
          have z1 := z.1
          rw [show ((1 : Int)) = ((1 : Nat) : Int) from rfl, HT.sIx_nat] at z1
          omega
        rw [show cutV ys (some 1) none = ys.drop 1 from cutV_hi ys 1]
        have S11 := S10.upd_new (o := .tup (ys.drop 1)) n9
        have e9' : (upd H10 p9 (.tup (ys.drop 1))) p9 = some (.tup (ys.drop 1)) := upd_same
        have k9 : Kept [s, c] H10 (upd H10 p9 (.tup (ys.drop 1))) := Kept.upd_new n9
        generalize upd H10 p9 (.tup (ys.drop 1)) = H11 at S11 e9' k9 ⊢
        refine ⟨p9, rfl, ⟨_, .inl (.inl e9')⟩, fun E' nE => ?_⟩
        have o9 : p9 ∉ [E', s, c] := by
          intro z
          rcases List.mem_cons.mp z with z | z
          · rw [z, nE] at e9'; cases e9'
          · exact outX S11 e9' z
        have ld : (ys.drop 1).length = tb.2.length - 1 := by rw [List.length_drop, ly]
        have oE := out2 S11 nE
        refine lc_it (walk_tup (xs := ys.drop 1)) (fun i H' => (∃ ws : Rw, H' E' = some (.lst (ws.map wV)) ∧ ws.length = i ∧ ∀ o ∈ ws, WOk o) ∧ StAt H' s c (T + 10 + i * 5) ∧ Kept [E', s, c] H11 H')
          ⟨⟨[], upd_same, rfl, fun _ h => absurd h List.not_mem_nil⟩, (S11.upd_new nE).mono (by omega), Kept.upd_new nE⟩ (fun i H' _ hP => .inl (.inl (hP.2.2.at e9' o9))) (fun i x H' H'' hi hP hY => ?_) (fun H12 hP => ?_)
        · obtain ⟨rfl, hx⟩ := hY
          obtain ⟨⟨ws, eE, lws, okw⟩, SS, kk⟩ := hP
          refine ⟨rfl, ?_⟩
          unfold tYes
          dsimp only
          refine iteT ?_
          refine ⟨.ref s, rfl, .int key, rfl, s, c, _, 3, key, rfl, SS, by omega, by decide, by decide, by omega, by omega, fun o H12 wo S12 K12 => ?_⟩
          have eE2 := K12.at eE oE
          refine ⟨_, eE2, by rw [List.length_map, lws]; exact small1000 (by omega), ⟨ws ++ [o], by rw [upd_same, List.map_append]; rfl, by rw [List.length_append, lws]; rfl, fun z hz => ?_⟩, (S12.upd (S11.nes nE) (S11.nec nE)).mono (by omega), kk.trans ((K12.mono sub_push).trans (Kept.upd_in (List.mem_cons_self ..)))⟩
          rcases List.mem_append.mp hz with h | h
          · exact okw z h
          · rw [List.mem_singleton.mp h]; exact wo
        · obtain ⟨⟨ws, eE, lws, okw⟩, SS, kk⟩ := hP
          have K12 := K10.trans (k9.trans (kk.new nE))
          refine ⟨.str tb.1, rfl, .int key, rfl, .ref s, rfl, s, c, _, _, rfl, SS, by omega, by decide, by decide, fun a H13 a0 a1 S13 K13 => ⟨.ref s, rfl, s, c, _, _, rfl, S13, by omega, by decide, by decide, fun b H14 b0 b1 S14 K14 => ?_⟩⟩
          have eE4 := K14.at (K13.at eE oE) oE
          have K14' := K12.trans (K13.trans K14)
          have hb : b = 0 ∨ b = 1 := by omega
          have hab : 0 ≤ a * b ∧ a * b < 9 := by
            rcases hb with rfl | rfl
            · rw [Int.mul_zero]; omega
            · rw [Int.mul_one]; omega
          obtain ⟨ab, eab⟩ : ∃ ab, ab = a * b := ⟨_, rfl⟩
          rw [← eab] at hab
          refine ⟨_, _, rfl, rfl, .inl ⟨by omega, by omega⟩, key, a * b, rfl, rfl, (by show 1 ≤ sizeLine; decide), fun q1 nq1 => ?_⟩
          have nE1 : E' ≠ q1 := ne_of_none eE4 nq1
          refine ⟨.ref E', rfl, q1, E', _, _, rfl, rfl, upd_same, (by rw [upd_ne nE1]; exact eE4), Nat.le_of_lt (small1000 (by rw [List.length_map, lws]; show 1 + _ ≤ 1000; omega)), fun q2 nq2 => ?_⟩
          refine ⟨q2, _, rfl, .inl ⟨.inl (.inl upd_same), fun t nt => ⟨(by show 3 ≤ sizeLine; decide), fun p np => ?_⟩⟩⟩
          have Sy := (S14.upd_new (o := .lst [.int (key + a * b)]) nq1).upd_new (o := .lst ([.int (key + a * b)] ++ ws.map wV)) nq2
          have Sx := Sy.upd_new (o := .tup ([.int (key + a * b)] ++ ws.map wV)) nt
          have Sz := Sx.upd_new (o := .tup [.str "put", .str tb.1, .ref t]) np
          have k3x : Kept [s, c] H14 (upd (upd (upd H14 q1 (.lst [.int (key + a * b)])) q2 (.lst ([.int (key + a * b)] ++ ws.map wV))) t (.tup ([.int (key + a * b)] ++ ws.map wV))) := (Kept.upd_new nq1).trans ((Kept.upd_new nq2).trans (Kept.upd_new nt))
          have npt : t ≠ p := ne_of_none upd_same np
          refine q p (.put tb.1 (some (key + a * b) :: ws)) _ ⟨ht, ⟨by rw [lcn, List.length_cons, lws, ld]; omega, fun o ho => ?_, ⟨_, _, rfl⟩⟩⟩ (fr (K14'.trans k3x) Sx np) ?_ (Sz.mono (by omega)) (K14'.trans (k3x.trans (Kept.upd_new np)))
          · rcases List.mem_cons.mp ho with rfl | ho
            · exact ⟨by omega, by omega⟩
            · exact okw o ho
          · exact .tup (.inl (.inl (msk_at upd_same (out2 Sx np)))) (.cons (.str _) (.cons (.str _) (.cons (.tup (.inl (.inl (msk_at (by rw [upd_ne npt]; exact upd_same) (out2 Sy nt)))) (dp_ws (some (key + a * b) :: ws))) .nil)))
      · have w2 : ¬ way < 2 := fun z => w2 (decide_eq_true z)
        refine ⟨.int way, rfl, _, _, rfl, rfl, _, rfl, ite2 (fun w4 => ?_) (fun w4 => ?_)⟩
        · -- a drop
          refine ⟨.str tb.1, rfl, .int key, rfl, (by show 3 ≤ sizeLine; decide), fun p np => ?_⟩
          exact q p (.drop tb.1 key) _ ⟨ht, by omega, by omega⟩ (fr K10 S10 np) (.tup (.inl (.inl (msk_at upd_same (out2 S10 np)))) (.cons (.str _) (.cons (.str _) (.cons (.int _) .nil)))) ((S10.upd_new np).mono (by omega)) (K10.trans (Kept.upd_new np))
        · refine ⟨.int way, rfl, _, _, rfl, rfl, _, rfl, ite2 (fun w6 => ?_) (fun w6 => ?_)⟩
          · -- a sweep
            refine ⟨.str tb.1, rfl, .ref pc, rfl, .int pl, rfl, pc, ys, pl, .ref qc, rfl, rfl, sameT m10 h2, atI_nat hy, .inr (.inl ⟨qc, _, 0, .str co.1, rfl, rfl, sameT m10 hqc, atI_nat (j := 0) rfl, .ref s, rfl, .ref O, rfl, s, c, O, _, _, rfl, S10, by omega, oO, .inl (.inl (.inl eO)), by rw [List.length_map]; omega, by rw [List.length_map]; omega, fun i u H11 hu' S11 K11 => ?_⟩)⟩
            obtain ⟨o, ho, rfl⟩ : ∃ o, o ∈ os ∧ u = wV o := by
              rw [List.getElem?_map] at hu'
              obtain ⟨o, ho, rfl⟩ := Option.map_eq_some_iff.mp hu'
              exact ⟨o, List.mem_of_getElem? ho, rfl⟩
            refine ⟨(by show 4 ≤ sizeLine; decide), fun p np => ?_⟩
            have K11' := K10.trans K11
            exact q p (.sweep tb.1 co.1 o) _ ⟨ht, hcol, wos o ho⟩ (fr K11' S11 np) (.tup (.inl (.inl (msk_at upd_same (out2 S11 np)))) (.cons (.str _) (.cons (.str _) (.cons (.str _) (.cons (dp_w o) .nil))))) ((S11.upd_new np).mono (by omega)) (K11'.trans (Kept.upd_new np))
          · refine ⟨.int way, rfl, rfl, _, rfl, ite2 (fun w7 => ?_) (fun w7 => ?_)⟩
            · -- a shift
              refine ⟨.str tb.1, rfl, .ref pc, rfl, .int pl, rfl, pc, ys, pl, .ref qc, rfl, rfl, sameT m10 h2, atI_nat hy, .inr (.inl ⟨qc, _, 0, .str co.1, rfl, rfl, sameT m10 hqc, atI_nat (j := 0) rfl, 1, rfl, .ref s, rfl, s, c, _, _, rfl, S10, by omega, by decide, by decide, fun d H11 d0 d1 S11 K11 => ⟨_, _, rfl, rfl, (by show 4 ≤ sizeLine; decide), fun q1 nq1 => ?_⟩⟩)⟩
              have S12 := S11.upd_new (o := .lst [.int 1, .int (-1), .int (d - 4), .int 0]) nq1
              have oq := out2 S11 nq1
              refine ⟨.ref s, rfl, s, c, _, _, rfl, S12, by omega, by decide, by decide, fun e H13 e0 e1 S13 K13 => ?_⟩
              have eq1 := K13.at (upd_same : (upd H11 q1 (.lst [.int 1, .int (-1), .int (d - 4), .int 0])) q1 = _) oq
              obtain ⟨b, hb, hat⟩ : ∃ b : Int, BOk b ∧ atI [V.int 1, V.int (-1), V.int (d - 4), V.int 0] e = some (.int b) := by
                have : e = 0 ∨ e = 1 ∨ e = 2 ∨ e = 3 := by omega
                rcases this with rfl | rfl | rfl | rfl
                · exact ⟨1, ⟨by decide, by decide⟩, rfl⟩
                · exact ⟨-1, ⟨by decide, by decide⟩, rfl⟩
                · exact ⟨d - 4, ⟨by omega, by omega⟩, rfl⟩
                · exact ⟨0, ⟨by decide, by decide⟩, rfl⟩
              refine ⟨q1, _, _, _, rfl, rfl, .inl (.inl eq1), hat, (by show 4 ≤ sizeLine; decide), fun p np => ?_⟩
              have K13' := K10.trans (K11.trans ((Kept.upd_new nq1).trans K13))
              exact q p (.shift tb.1 co.1 b) _ ⟨ht, hcol, hb⟩ (fr K13' S13 np) (.tup (.inl (.inl (msk_at upd_same (out2 S13 np)))) (.cons (.str _) (.cons (.str _) (.cons (.str _) (.cons (.int _) .nil))))) ((S13.upd_new np).mono (by omega)) (K13'.trans (Kept.upd_new np))
            · -- a set
              refine ⟨.int pl, rfl, .ref s, rfl, s, c, _, _, rfl, S10, by omega, by decide, by decide, fun d H11 d0 d1 S11 K11 => ⟨rfl, .inr ⟨_, rfl, ?_⟩⟩⟩
              obtain ⟨p2, hp2, hpp⟩ : ∃ p2 : Nat, (pl : Int) * (if decide (V.int d = V.int 0) = true then 1 else 0) = (p2 : Int) ∧ (p2 = 0 ∨ p2 = pl) := by
                have : d = 0 ∨ d = 1 := by omega
                rcases this with rfl | rfl
                · exact ⟨pl, Int.mul_one _, .inr rfl⟩
                · exact ⟨0, Int.mul_zero _, .inl rfl⟩
              refine ⟨_, _, rfl, rfl, .inl ⟨by omega, by omega⟩, ?_⟩
              show tSeq _ _ _ [some (.ref s), some (.ref tp), some (.ref cp), some (.int j), some (.str tb.1), some (.ref pc), some (.ref D), some (.int key), some (.int ((pl : Int) * (if decide (V.int d = V.int 0) = true then 1 else 0))), some (.int way), some (.ref O), none, none, none, none] H11
              rw [hp2]
              clear hp2 hy hco hqc hcol
              have K11' := K10.trans K11
              have m11 := (msk_same K11').trans (sub H11)
              have eO11 := K11.at eO oO
              obtain ⟨y2, hy⟩ : ∃ y, ys[p2]? = some y := ⟨_, List.getElem?_eq_getElem (by omega)⟩
              obtain ⟨co2, qc2, yc2, hco, rfl, hqc⟩ := col_at h3 hy
              have hcol : co2.1 ∈ cns ts tb.1 := by
                show co2.1 ∈ (colsOf ts tb.1).map (·.1)
                rw [ec]
                exact List.mem_map.mpr ⟨co2, List.mem_of_getElem? hco, rfl⟩
              have hhead : (cns ts tb.1).head? = some co2.1 → p2 = 0 := fun z => by
                have e1 : (tb.2.map (·.1)).head? = some co2.1 := by rw [← ec]; exact z
                have e2 : (tb.2.map (·.1))[0]? = some co2.1 := by rw [← List.head?_eq_getElem?]; exact e1
                have e3 : (tb.2.map (·.1))[p2]? = some co2.1 := by rw [List.getElem?_map, hco]; rfl
                have l1 := (List.getElem?_eq_some_iff.mp e2).1
                have l2 := (List.getElem?_eq_some_iff.mp e3).1
                exact (List.getElem_inj okcol.nd (h₀ := l2) (h₁ := l1)).mp (Option.some.inj ((List.getElem?_eq_getElem l2).symm.trans (e3.trans (e2.symm.trans (List.getElem?_eq_getElem l1)))))
              refine' (fun (rest : ∀ (o : Option Int) (H13 : Hp), WOk o → (p2 = 0 → o ≠ none) → StAt H13 s c (T + 60) → Kept [s, c] H11 H13 → (_ : Option Int → Hp → Prop) o H13) => _) _
              rotate_left
              · refine ⟨.int p2, rfl, rfl, _, rfl, ite2 (fun hz => ?a1) (fun hz => ?a2)⟩
                case a2 =>
                  refine ⟨.ref s, rfl, .ref O, rfl, .ref s, rfl, .int key, rfl, s, c, _, 3, key, rfl, S11, by omega, by decide, by decide, by omega, by omega, fun o1 H12 wo S12 K12 => ⟨(by show 1 ≤ sizeLine; decide), fun q1 nq1 => ?_⟩⟩
                  have eO12 := K12.at eO11 oO
                  have nO1 : O ≠ q1 := ne_of_none eO12 nq1
                  refine ⟨O, q1, _, _, rfl, rfl, (by rw [upd_ne nO1]; exact eO12), upd_same, Nat.le_of_lt (small1000 (by rw [List.length_map, los]; show rs.length + 2 + 1 ≤ 1000; omega)), fun q2 nq2 => ?_⟩
                  have S13 := (S12.upd_new (o := .lst [wV o1]) nq1).upd_new (o := .lst (os.map wV ++ [wV o1])) nq2
                  have oq2 := out2 (S12.upd_new (o := .lst [wV o1]) nq1) nq2
                  refine ⟨s, c, q2, _, _, rfl, S13, by omega, oq2, .inl (.inl (.inl upd_same)), by rw [List.length_append]; show 0 < _ + 1; omega, by rw [List.length_append, List.length_map, los]; show rs.length + 2 + 1 < _; omega, fun i u H14 hu' S14 K14 => ?_⟩
                  obtain ⟨o, wo', rfl⟩ : ∃ o, WOk o ∧ u = wV o := by
                    have e : os.map wV ++ [wV o1] = (os ++ [o1]).map wV := by rw [List.map_append]; rfl
                    rw [e, List.getElem?_map] at hu'
                    obtain ⟨o, ho, rfl⟩ := Option.map_eq_some_iff.mp hu'
                    refine ⟨o, ?_, rfl⟩
                    rcases List.mem_append.mp (List.mem_of_getElem? ho) with h | h
                    · exact wos o h
                    · rw [List.mem_singleton.mp h]; exact wo
                  refine rest o H14 wo' (fun z => absurd (decide_eq_true (by rw [z]; rfl)) hz) (S14.mono (by omega)) (K12.trans ((Kept.upd_new nq1).trans ((Kept.upd_new nq2).trans K14)))
                case a1 =>
                  refine ⟨.int key, rfl, .ref s, rfl, s, c, _, _, rfl, S11, by omega, by decide, by decide, fun e H12 e0 e1 S12 K12 => ⟨_, _, rfl, rfl, _, _, rfl, rfl, ?_⟩⟩
                  exact rest (some (key + e - 4)) H12 ⟨by omega, by omega⟩ (fun _ z => nomatch z) (S12.mono (by omega)) K12
              · intro o H13 wo hne S13 K13
                have K13' := K11'.trans K13
                have m13 := (msk_same K13').trans (sub H13)
                refine ⟨.str tb.1, rfl, .int key, rfl, .ref pc, rfl, .int p2, rfl, pc, ys, p2, .ref qc2, rfl, rfl, sameT m13 h2, atI_nat hy, .inr (.inl ⟨qc2, _, 0, .str co2.1, rfl, rfl, sameT m13 hqc, atI_nat (j := 0) rfl, wV o, rfl, (by show 5 ≤ sizeLine; decide), fun p np => ?_⟩)⟩
                exact q p (.set tb.1 key co2.1 o) _ ⟨ht, ⟨by omega, by omega⟩, hcol, wo, fun z => hne (hhead z)⟩ (fr K13' S13 np) (.tup (.inl (.inl (msk_at upd_same (out2 S13 np)))) (.cons (.str _) (.cons (.str _) (.cons (.int _) (.cons (.str _) (.cons (dp_w o) .nil)))))) ((S13.upd_new np).mono (by omega)) (K13'.trans (Kept.upd_new np))
end
end TT

set_option Elab.async false
set_option linter.all false
set_option maxRecDepth 100000
namespace TT
open PySem PySem.Spec PyProof.Rows L2
/-! ### contents and deeds as they are handed in: lists or tuples -/
def handD (o i r : Bool) (ct : List (List Rw)) : PyData := seqD o (ct.map fun rs => seqD i (rs.map fun row => seqD r (row.map wD)))
def deedF (b : Bool) : Deed → PyData
  | .put t r => seqD b [.str "put", .str t, seqD b (r.map wD)]
  | .drop t k => seqD b [.str "drop", .str t, .int k]
  | .sweep t col o => seqD b [.str "sweep", .str t, .str col, wD o]
  | .shift t col y => seqD b [.str "shift", .str t, .str col, .int y]
  | .set t k col o => seqD b [.str "set", .str t, .int k, .str col, wD o]
def tabOf : Deed → Str
  | .put t _ => t
  | .drop t _ => t
  | .sweep t _ _ => t
  | .shift t _ _ => t
  | .set t _ _ _ => t
def wordOf : Deed → Str
  | .put _ _ => "put"
  | .drop _ _ => "drop"
  | .sweep _ _ _ => "sweep"
  | .shift _ _ _ => "shift"
  | .set _ _ _ _ => "set"
theorem eqv_w (a b : Option Int) : PyData.eqv (wD a) (wD b) = decide (a = b) := by
  cases a <;> cases b
  · exact (decide_eq_true rfl).symm
  · exact (decide_eq_false (fun z => nomatch z)).symm
  · exact (decide_eq_false (fun z => nomatch z)).symm
  · rename_i x y
    show (x == y) = decide (some x = some y)
    by_cases h : x = y
    · rw [decide_eq_true (congrArg some h), h]; exact beq_self_eq_true y
    · rw [decide_eq_false (fun z => h (Option.some.inj z))]; exact beq_eq_false_iff_ne.mpr h
theorem shaped_w (a : Option Int) : SeqAt.shaped (wD a) = true := by cases a <;> rfl
/-- the rows that are handed in, of one table -/
theorem hand_at {K : PySem.W.Frag} {H : Hp} {v : V} {o i r : Bool} {ct : List (List Rw)} (h : Dp K H v (handD o i r ct)) {j : Nat} {rs : List Rw} (hj : ct[j]? = some rs) :
    ∃ p xs q ys, v = .ref p ∧ SqB o K H p xs ∧ xs[j]? = some (.ref q) ∧ SqB i K H q ys ∧ ys.length = rs.length ∧ ∀ (m : Nat) (y : V), ys[m]? = some y → ∃ row rp, rs[m]? = some row ∧ y = .ref rp ∧ SqB r K H rp (row.map wV) := by
  obtain ⟨p, xs, rfl, h1, h2⟩ := seq_dp h
  obtain ⟨x, hx, hd⟩ := dpAll_at (i := j) (d := seqD i (rs.map fun row => seqD r (row.map wD))) h2 (by rw [List.getElem?_map, hj]; rfl)
  obtain ⟨q, ys, rfl, h3, h4⟩ := seq_dp hd
  refine ⟨p, xs, q, ys, rfl, h1, hx, h3, by rw [dpAll_len h4, List.length_map], fun m y hy => ?_⟩
  obtain ⟨d, h5, h6⟩ := dpAll_get m h4 hy
  rw [List.getElem?_map] at h5
  obtain ⟨row, hr, rfl⟩ := Option.map_eq_some_iff.mp h5
  obtain ⟨rp, us, rfl, h7, h8⟩ := seq_dp h6
  have := dpAll_ws h8
  subst this
  exact ⟨row, rp, hr, rfl, h7⟩
/-! ### what a deed does by itself -/
inductive OwnR
  | told (g c r : List PyData)
  | norow (t : Str) (k : Int)
  | taken (t : Str) (k : Int)
def cellAt (zs : List Str) (col : Str) (r : Rw) : Option Int := r.getD (zs.idxOf col) none
def own (zs : List Str) (rs : List Rw) : Deed → OwnR
  | .put t r => if keyW r ∈ rs.map keyW then .taken t (keyW r) else .told [] [] [.tuple [.str t, rowD r]]
  | .drop t k => if k ∈ rs.map keyW then .told [.tuple [.str t, .int k]] [] [] else .norow t k
  | .set t k col o => if k ∈ rs.map keyW then .told [] ((rs.filter fun r => decide (keyW r = k) && !decide (cellAt zs col r = o)).map fun r => .tuple [.str t, .int k, .str col, wD o]) [] else .norow t k
  | .sweep t col o => .told ((rs.filter fun r => decide (cellAt zs col r = o)).map fun r => .tuple [.str t, .int (keyW r)]) [] []
  | .shift t col b => .told [] (if b = 0 then [] else (rs.filter fun r => !decide (cellAt zs col r = none)).map fun r => .tuple [.str t, .int (keyW r), .str col, wD ((cellAt zs col r).map (· + b))]) []
theorem key_one {n : Nat} {rs : List Rw} (h : RwsOk n rs) {i j : Nat} {a b : Rw} (hi : rs[i]? = some a) (hj : rs[j]? = some b) (e : keyW a = keyW b) : i = j := by
  have nd : (rs.map keyW).Nodup := by
    rw [List.nodup_iff_pairwise_ne]
    exact h.up.imp fun h => by omega
  have li := (List.getElem?_eq_some_iff.mp hi).1
  refine (List.getElem?_inj (by rw [List.length_map]; exact li) nd).mp ?_
  rw [List.getElem?_map, List.getElem?_map, hi, hj]
  exact congrArg some e
section
variable {P : Program} {w : World} {K : PySem.W.Frag} {mg : Str → Option Value} {base : Heap}
theorem eqV_str (a b : Str) : eqV (.str a) (.str b) = decide (a = b) := by
  show (a == b) = _
  by_cases h : a = b
  · rw [h, decide_eq_true rfl]; simp
  · rw [decide_eq_false h]; simp [h]
/-- list.index of a text that is there -/
theorem ix_strs {K : PySem.W.Frag} {H : Hp} {D : Addr} {zs : List Str} {c : Str} {Q : VK} (eD : H D = some (.lst (zs.map V.str))) (hm : c ∈ zs) (q : Q (.int (zs.idxOf c : Nat)) H) : rIndex K (.ref D) [.str c] H Q := by
  have hj : zs.idxOf c < zs.length := List.idxOf_lt_length_of_mem hm
  have hg : zs[zs.idxOf c]? = some c := by rw [List.getElem?_eq_getElem hj, List.getElem_idxOf]
  refine ⟨D, _, .str c, zs.idxOf c, .str c, rfl, rfl, .inl (.inl eD), rfl, flat_strs _, by rw [List.getElem?_map, hg]; rfl, by rw [eqV_str]; exact decide_eq_true rfl, fun m z' hm' hz => ?_, q⟩
  rw [List.getElem?_map] at hz
  obtain ⟨y, hy, rfl⟩ := Option.map_eq_some_iff.mp hz
  rw [eqV_str]
  refine decide_eq_false fun e => ?_
  have hl := (List.getElem?_eq_some_iff.mp hy)
  have := List.not_of_lt_findIdx (xs := zs) (p := (· == c)) (i := m) hm'
  rw [hl.2] at this
  simp [e] at this
def spColPlace (K : PySem.W.Frag) : Sp := fun vs H Q _ => ∃ (tp : Addr) (ts : List Tab) (t c : Str), vs = [.ref tp, .str t, .str c] ∧ Tabs K H tp ts ∧ t ∈ tns ts ∧ c ∈ cns ts t ∧ ∀ H', Same H H' → Q (.int ((cns ts t).idxOf c : Nat)) H'
abbrev s_column_place : Stmt := topS 7
abbrev N_column_place : List Str := ["tables", "table", "column", "names"]
theorem sc_column_place : FnScope N_column_place ["tables", "table", "column"] (defScope s_column_place) := ⟨rfl, rfl, rfl, by decide +kernel, rfl, by decide +kernel, by decide +kernel⟩

theorem ok_column_place {f : Addr} {fd : FuncData} (F : Fun K "column_place" "column_place" s_column_place f fd) (D_column_names : Def P w K mg base 2 "column_names" ["tables", "table"] (spColNames K)) : FnOk P w K mg base CX0 3 f fd ["tables", "table", "column"] (spColPlace K) := by
  refine F.ok sc_column_place (fun vs H Q E h => ?_) (fun cdv A outer sh H vs Q E hr h => ?_)
  · obtain ⟨tp, ts, t, c, rfl, _⟩ := h
    rfl
  obtain ⟨tp, ts, t, c, rfl, hT, ht, hc, q⟩ := h
  have nd := sc_column_place.nd
  refine ⟨_, (pss_cons (ps_set (i := 3) nd rfl (Or.inl rfl) (pe_own D_column_names hr (pa_cons (pv 0) (pa_cons (pv 1) pa_nil))))
      (pss_cons (ps_if (pt_cmpR op_notIn_seq (pv 2) (pv 3) (by rfl))
        (pss_one ps_nv)
        pss_nil)
      (pss_one (ps_ret (pe_bm PySem.F.plainAttrs_list PySem.F.slot_list_index PySem.F.type_list_index mt_index (pv 3) (pa_cons (pv 2) pa_nil)))))), ?_⟩
  refine ⟨.ref tp, rfl, .str t, rfl, tp, ts, t, rfl, hT, ht, fun D H1 s1 eD => ?_⟩
  refine ⟨.str c, rfl, .ref D, rfl, D, _, rfl, .inl (.inl (.inl eD)), rfl, flat_strs _, _, rfl, ?_⟩
  rw [if_pos rfl, inV_strs, decide_eq_true hc]
  refine iteF ?_
  exact ⟨.ref D, rfl, .inl ⟨rfl, _, .inl (.inl eD)⟩, .str c, rfl, ix_strs eD hc (q H1 s1)⟩
def spTabPlace (K : PySem.W.Frag) : Sp := fun vs H Q _ => ∃ (tp : Addr) (ts : List Tab) (t : Str), vs = [.ref tp, .str t] ∧ Tabs K H tp ts ∧ t ∈ tns ts ∧ ∀ H', Same H H' → Q (.int ((tns ts).idxOf t : Nat)) H'
abbrev s_table_place : Stmt := topS 9
abbrev N_table_place : List Str := ["tables", "table", "names"]
theorem sc_table_place : FnScope N_table_place ["tables", "table"] (defScope s_table_place) := ⟨rfl, rfl, rfl, by decide +kernel, rfl, by decide +kernel, by decide +kernel⟩

theorem ok_table_place {f : Addr} {fd : FuncData} (F : Fun K "table_place" "table_place" s_table_place f fd) (D_table_names : Def P w K mg base 1 "table_names" ["tables"] (spNamesOf K)) : FnOk P w K mg base CX0 2 f fd ["tables", "table"] (spTabPlace K) := by
  refine F.ok sc_table_place (fun vs H Q E h => ?_) (fun cdv A outer sh H vs Q E hr h => ?_)
  · obtain ⟨tp, ts, t, rfl, _⟩ := h
    rfl
  obtain ⟨tp, ts, t, rfl, hT, ht, q⟩ := h
  have nd := sc_table_place.nd
  refine ⟨_, (pss_cons (ps_set (i := 2) nd rfl (Or.inl rfl) (pe_own D_table_names hr (pa_cons (pv 0) pa_nil)))
      (pss_cons (ps_if (pt_cmpR op_notIn_seq (pv 1) (pv 2) (by rfl))
        (pss_one ps_nv)
        pss_nil)
      (pss_one (ps_ret (pe_bm PySem.F.plainAttrs_list PySem.F.slot_list_index PySem.F.type_list_index mt_index (pv 2) (pa_cons (pv 1) pa_nil)))))), ?_⟩
  obtain ⟨ws, hTS, hTA, lw⟩ := hT.parts
  refine ⟨.ref tp, rfl, tp, ws, ts.map tabD, rfl, hTS, hTA, by rw [List.length_map]; have := hT.l8; omega, strName_tabs ts, fun D H1 s1 eD => ?_⟩
  rw [namesOf_tabs] at eD
  refine ⟨.str t, rfl, .ref D, rfl, D, _, rfl, .inl (.inl (.inl eD)), rfl, flat_strs _, _, rfl, ?_⟩
  rw [if_pos rfl, inV_strs, decide_eq_true ht]
  refine iteF ?_
  exact ⟨.ref D, rfl, .inl ⟨rfl, _, .inl (.inl eD)⟩, .str t, rfl, ix_strs eD ht (q H1 s1)⟩
/-- a table of the tables, and its rows -/
structure At (ts : List Tab) (ct : List (List Rw)) (t : Str) (rs : List Rw) : Prop where
  mem : t ∈ tns ts
  row : ct[(tns ts).idxOf t]? = some rs
  ok : RwsOk (cns ts t).length rs
  few : rs.length ≤ 900
def spRowOf (K : PySem.W.Frag) : Sp := fun vs H Q _ => ∃ (tp : Addr) (ts : List Tab) (v : V) (o i r : Bool) (ct : List (List Rw)) (t : Str) (k : Int) (rs : List Rw), vs = [.ref tp, v, .str t, .int k] ∧ Tabs K H tp ts ∧ Dp K H v (handD o i r ct) ∧ At ts ct t rs ∧
  (∀ (row : Rw) (p : Addr) (H' : Hp), row ∈ rs → keyW row = k → Same H H' → SqT K H' p (row.map wV) → Q (.ref p) H') ∧ (k ∉ rs.map keyW → ∀ H', Same H H' → Q .non H')
abbrev s_row_of : Stmt := topS 13
abbrev N_row_of : List Str := ["tables", "content", "table", "key", "row"]
theorem sc_row_of : FnScope N_row_of ["tables", "content", "table", "key"] (defScope s_row_of) := ⟨rfl, rfl, rfl, by decide +kernel, rfl, by decide +kernel, by decide +kernel⟩

theorem ok_row_of {f : Addr} {fd : FuncData} (F : Fun K "row_of" "row_of" s_row_of f fd) (nb : NB mg) (D_table_place : Def P w K mg base 2 "table_place" ["tables", "table"] (spTabPlace K)) : FnOk P w K mg base CX0 3 f fd ["tables", "content", "table", "key"] (spRowOf K) := by
  refine F.ok sc_row_of (fun vs H Q E h => ?_) (fun cdv A outer sh H vs Q E hr h => ?_)
  · obtain ⟨tp, ts, v, o, i, r, ct, t, k, rs, rfl, _⟩ := h
    rfl
  obtain ⟨tp, ts, v, o, i, r, ct, t, k, rs, rfl, hT, hd, hA, yes, no⟩ := h
  have nd := sc_row_of.nd
  refine ⟨_, (pss_cons (ps_for PassesOwn.never rfl (pi_seqB (pe_ix ix_seq (pv 1) (pe_own D_table_place hr (pa_cons (pv 0) (pa_cons (pv 2) pa_nil))) (fun _ _ => rfl))) (pg_name (i := 4) nd rfl (Or.inl rfl))
        (pss_one (ps_if (pt_cmpR op_eq (pe_ix ix_seq (pv 4) pe_int (fun _ _ => rfl)) (pv 3) (nomark _))
          (pss_one (ps_ret (pe_callTy call_tuple_of (by rfl) nb.b_tuple (by decide +kernel) (pa_cons (pv 4) pa_nil))))
          pss_nil)))
      (pss_one (ps_ret pe_non))), ?_⟩
  obtain ⟨p, xs, q, ys, rfl, h1, h2, h3, h4, h5⟩ := hand_at hd hA.row
  refine ⟨.ref p, rfl, .ref tp, rfl, .str t, rfl, tp, ts, t, rfl, hT, hA.mem, fun H1 s1 => ixB (h1.same s1) h2 ⟨i, q, rfl, ⟨_, h3.same s1⟩, ?_⟩⟩
  refine for_it (walk_seqB (b := i) (xs := ys)) (fun m σ H' => (∃ y4, σ = [some (.ref tp), some (.ref p), some (.str t), some (.int k), y4]) ∧ H' = H1 ∧ ∀ j row, j < m → rs[j]? = some row → keyW row ≠ k) ⟨⟨none, rfl⟩, rfl, fun j _ h => absurd h (Nat.not_lt_zero j)⟩ (fun m σ H' _ hP => by rw [hP.2.1]; exact h3.same s1) (fun m x σ H' H'' hm hP hY => ?_) (fun σ H' hP => ?_)
  · obtain ⟨rfl, hx⟩ := hY
    obtain ⟨⟨y4, rfl⟩, rfl, hn⟩ := hP
    obtain ⟨row, rp, hr1, rfl, hr2⟩ := h5 m x hx
    obtain ⟨k0, t0, rfl⟩ := (hA.ok.row row (List.mem_of_getElem? hr1)).key
    refine ⟨.ref rp, rfl, ixB (i := 0) (hr2.same s1) (show ((some k0 :: t0).map wV)[0]? = some (.int k0) from rfl) ⟨.int k, rfl, rfl, _, rfl, ite2 (fun e => ?_) (fun e => ?_)⟩⟩
    · obtain rfl : k0 = k := V.int.inj (of_decide_eq_true e)
      exact ⟨.ref rp, rfl, tupB' (hr2.same s1) fun l H2 s2 hl => yes _ l H2 (List.mem_of_getElem? hr1) rfl (s1.trans s2) hl⟩
    · refine ⟨⟨_, rfl⟩, rfl, fun j row hj hrow => ?_⟩
      by_cases hjm : j < m
      · exact hn j row hjm hrow
      · obtain rfl : j = m := by omega
        rw [hr1] at hrow
        cases hrow
        exact fun h => e (decide_eq_true (congrArg V.int h))
  · obtain ⟨⟨y4, rfl⟩, rfl, hn⟩ := hP
    refine no (fun hk => ?_) H' s1
    obtain ⟨row, hrow, hk2⟩ := List.mem_map.mp hk
    obtain ⟨j, hj⟩ := List.getElem?_of_mem hrow
    exact hn j row (by have := (List.getElem?_eq_some_iff.mp hj).1; omega) hj hk2
def spRowsOf (K : PySem.W.Frag) : Sp := fun vs H Q _ => ∃ (tp : Addr) (ts : List Tab) (v : V) (o i r : Bool) (ct : List (List Rw)) (t : Str) (rs : List Rw), vs = [.ref tp, v, .str t] ∧ Tabs K H tp ts ∧ Dp K H v (handD o i r ct) ∧ At ts ct t rs ∧
  ∀ (D : Addr) (us : List V) (H' : Hp), Same H H' → H D = none → H' D = some (.lst us) → DpAll K (msk [D] H') us (rs.map rowD) → Q (.ref D) H'
abbrev s_rows_of : Stmt := topS 14
abbrev N_rows_of : List Str := ["tables", "content", "table", "row"]
theorem sc_rows_of : FnScope N_rows_of ["tables", "content", "table"] (defScope s_rows_of) := ⟨rfl, rfl, rfl, by decide +kernel, rfl, by decide +kernel, by decide +kernel⟩

theorem ok_rows_of {f : Addr} {fd : FuncData} (F : Fun K "rows_of" "rows_of" s_rows_of f fd) (nb : NB mg) (D_table_place : Def P w K mg base 2 "table_place" ["tables", "table"] (spTabPlace K)) : FnOk P w K mg base CX0 3 f fd ["tables", "content", "table"] (spRowsOf K) := by
  refine F.ok sc_rows_of (fun vs H Q E h => ?_) (fun cdv A outer sh H vs Q E hr h => ?_)
  · obtain ⟨tp, ts, v, o, i, r, ct, t, rs, rfl, _⟩ := h
    rfl
  obtain ⟨tp, ts, v, o, i, r, ct, t, rs, rfl, hT, hd, hA, yes⟩ := h
  have nd := sc_rows_of.nd
  refine ⟨_, (pss_one (ps_ret (pe_lc (own := [("row", 3)]) (g := (gName 3)) (tt := tYes) rfl nd (pi_seqB (pe_ix ix_seq (pv 1) (pe_own D_table_place hr (pa_cons (pv 0) (pa_cons (pv 2) pa_nil))) (fun _ _ => rfl))) (blkOk_by (N := N_rows_of) (sc := defScope s_rows_of) (by decide +kernel)) (fun _ _ _ _ _ => (pg_name (i := 3) nd rfl (Or.inl rfl))) (fun _ _ _ _ _ => pts_nil) (fun _ _ _ _ _ => (pe_callTy (T := "tuple") (r := rTupQ K) call_tuple_of (by rfl) nb.b_tuple (by decide +kernel) (pa_cons (pv 3) pa_nil)))))), ?_⟩
  obtain ⟨p, xs, q, ys, rfl, h1, h2, h3, h4, h5⟩ := hand_at hd hA.row
  have few := hA.few
  refine ⟨.ref p, rfl, .ref tp, rfl, .str t, rfl, tp, ts, t, rfl, hT, hA.mem, fun H1 s1 => ixB (h1.same s1) h2 ⟨i, q, rfl, ⟨_, h3.same s1⟩, fun D nD => ?_⟩⟩
  refine lc_it (walk_seqB (b := i) (xs := ys)) (fun m H' => ∃ us, Grow K [] H' D us ((rs.take m).map rowD) ∧ Kept [D] H1 H') ⟨[], by rw [List.take_zero]; exact .start, Kept.upd_new nD⟩ (fun m H' _ hP => ?_) (fun m x H' H'' hm hP hY => ?_) (fun H2 hP => ?_)
  · obtain ⟨us, _, kk⟩ := hP
    exact (h3.same s1).same (fun b o e => kk b o e fun z => by rw [List.mem_singleton.mp z, nD] at e; cases e)
  · obtain ⟨rfl, hx⟩ := hY
    obtain ⟨us, g, kk⟩ := hP
    obtain ⟨row, rp, hr1, rfl, hr2⟩ := h5 m x hx
    have sk : Same H1 H'' := fun b o e => kk b o e fun z => by rw [List.mem_singleton.mp z, nD] at e; cases e
    have lu : us.length = m := by
      rw [g.len, List.length_map, List.length_take]
      have := (List.getElem?_eq_some_iff.mp hr1).1
      omega
    have et : (rs.take (m + 1)).map rowD = (rs.take m).map rowD ++ [rowD row] := by
      rw [List.take_add_one, hr1, List.map_append]; rfl
    refine ⟨rfl, ?_⟩
    unfold tYes
    dsimp only
    refine iteT ?_
    have hr3 := (hr2.same s1).same sk
    refine ⟨.ref rp, rfl, rp, row.map wV, rfl, ?_⟩
    cases r
    · refine .inl ⟨hr3, fun l nl => ?_⟩
      have nDl : D ≠ l := ne_of_none g.at' nl
      have g2 := g.kept (Kept.upd_new (o := .tup (row.map wV)) nl) List.not_mem_nil
      refine ⟨us, g2.at', by rw [lu]; exact small1000 (by omega), us ++ [.ref l], ?_, kk.trans ((Kept.upd_new nl).trans (Kept.upd_in (List.mem_cons_self ..)))⟩
      rw [et]
      exact g2.put (.tup (.inl (.inl (msk_at upd_same (by simp [nDl.symm])))) (dp_ws row))
    · refine .inr ⟨hr3, ?_⟩
      refine ⟨us, g.at', by rw [lu]; exact small1000 (by omega), us ++ [.ref rp], ?_, kk.trans (Kept.upd_in (List.mem_cons_self ..))⟩
      rw [et]
      have hm1 : Same H1 (msk [D] H'') := fun b o e => by
        refine msk_at (sk b o e) fun z => ?_
        rw [List.mem_singleton.mp z, nD] at e; cases e
      exact g.put (.tup (sameT hm1 (show SqT K H1 rp (row.map wV) from hr2.same s1)) (dp_ws row))
  · obtain ⟨us, g, kk⟩ := hP
    have sk : Same H1 H2 := fun b o e => kk b o e fun z => by rw [List.mem_singleton.mp z, nD] at e; cases e
    rw [h4, List.take_length] at g
    exact yes D us H2 (s1.trans sk) (Same.free s1 nD) g.at' g.dp
end
end TT

set_option Elab.async false
set_option linter.all false
set_option maxRecDepth 100000
namespace TT
open PySem PySem.Spec PyProof.Rows L2
def kT : Str := "table"
def kK : Str := "key"
/-- raised: an error of that class, with the table and the key -/
def raisedTK (E : XK) (C : Addr) (t : Str) (k : Int) (H : Hp) : Prop := ∀ d H', Same H H' → H' d = none → E (.ref C) (some d) (upd H' d (.xd [(kK, .int k), (kT, .str t)]))
section
variable {P : Program} {w : World} {K : PySem.W.Frag} {mg : Str → Option Value} {base : Heap}
def spRowThere (K : PySem.W.Frag) (CN : Addr) : Sp := fun vs H Q E => ∃ (tp : Addr) (ts : List Tab) (v : V) (o i r : Bool) (ct : List (List Rw)) (t : Str) (k : Int) (rs : List Rw), vs = [.ref tp, v, .str t, .int k] ∧ Tabs K H tp ts ∧ Dp K H v (handD o i r ct) ∧ At ts ct t rs ∧
  (∀ (row : Rw) (p : Addr) (H' : Hp), row ∈ rs → keyW row = k → Same H H' → SqT K H' p (row.map wV) → Q (.ref p) H') ∧ (k ∉ rs.map keyW → raisedTK E CN t k H)
abbrev s_row_there : Stmt := topS 22
abbrev N_row_there : List Str := ["tables", "content", "table", "key", "row"]
theorem sc_row_there : FnScope N_row_there ["tables", "content", "table", "key"] (defScope s_row_there) := ⟨rfl, rfl, rfl, by decide +kernel, rfl, by decide +kernel, by decide +kernel⟩

theorem ok_row_there {CN : Addr} {f : Addr} {fd : FuncData} (N : Ers P w K mg base "NoRow" "table" "key" CN) (F : Fun K "_row_there" "_row_there" s_row_there f fd) (D_row_of : Def P w K mg base 3 "row_of" ["tables", "content", "table", "key"] (spRowOf K)) : FnOk P w K mg base (L2.CX P w) 4 f fd ["tables", "content", "table", "key"] (spRowThere K CN) := by
  refine F.okX sc_row_there (fun vs H Q E h => ?_) (fun cdv A outer sh H vs Q E hr h => ?_)
  · obtain ⟨tp, ts, v, o, i, r, ct, t, k, rs, rfl, _⟩ := h
    rfl
  obtain ⟨tp, ts, v, o, i, r, ct, t, k, rs, rfl, hT, hd, hA, yes, no⟩ := h
  have nd := sc_row_there.nd
  refine ⟨_, (pss_cons (ps_set (i := 4) nd rfl (Or.inl rfl) (pe_own D_row_of hr (pa_cons (pv 0) (pa_cons (pv 1) (pa_cons (pv 2) (pa_cons (pv 3) pa_nil))))))
      (pss_cons (ps_if (pt_cmpR op_isN (pv 4) pe_non (nomark _))
        (pss_one (ps_ers N rfl hr (takes_of rfl rfl rfl rfl) (pa_cons (pv 2) (pa_cons (pv 3) pa_nil))))
        pss_nil)
      (pss_one (ps_ret (pv 4))))), ?_⟩
  refine ⟨.ref tp, rfl, v, rfl, .str t, rfl, .int k, rfl, tp, ts, v, o, i, r, ct, t, k, rs, rfl, hT, hd, hA, fun row p H1 hrow hk s1 hp => ?_, fun hk H1 s1 => ?_⟩
  · refine ⟨.ref p, rfl, rfl, _, rfl, iteF ?_⟩
    exact ⟨.ref p, rfl, yes row p H1 hrow hk s1 hp⟩
  · refine ⟨.non, rfl, rfl, _, rfl, iteT ?_⟩
    exact ⟨.str t, rfl, .int k, rfl, ers_raise fun d hd => no hk d H1 s1 hd⟩
/-- what is told: a new list -/
def toldL (K : PySem.W.Frag) (Q : VK) (ds : List PyData) (H : Hp) : Prop := ∀ (D : Addr) (us : List V) (H' : Hp), Same H H' → H D = none → H' D = some (.lst us) → DpAll K H' us ds → Q (.ref D) H'
def spPart (K : PySem.W.Frag) (C : Addr) (w : Str) (R : List Str → List Rw → Deed → List PyData) (no : List Rw → Deed → Option Int) : Sp := fun vs H Q E => ∃ (tp : Addr) (ts : List Tab) (v u : V) (o i r b : Bool) (ct : List (List Rw)) (dd : Deed) (rs : List Rw), vs = [.ref tp, v, u] ∧ Tabs K H tp ts ∧ Dp K H v (handD o i r ct) ∧ At ts ct (tabOf dd) rs ∧
  DeedOk ts dd ∧ Dp K H u (deedF b dd) ∧ wordOf dd = w ∧ (no rs dd = none → toldL K Q (R (cns ts (tabOf dd)) rs dd) H) ∧ ∀ k, no rs dd = some k → raisedTK E C (tabOf dd) k H
def noPut (rs : List Rw) : Deed → Option Int
  | .put _ r => if keyW r ∈ rs.map keyW then some (keyW r) else none
  | _ => none
def rPut (_ : List Str) (_ : List Rw) : Deed → List PyData
  | .put t r => [.tuple [.str t, rowD r]]
  | _ => []
abbrev s_rows_put : Stmt := topS 17
abbrev N_rows_put : List Str := ["tables", "content", "deed", "_", "table", "row"]
theorem sc_rows_put : FnScope N_rows_put ["tables", "content", "deed"] (defScope s_rows_put) := ⟨rfl, rfl, rfl, by decide +kernel, rfl, by decide +kernel, by decide +kernel⟩

theorem ok_rows_put {CN : Addr} {f : Addr} {fd : FuncData} (N : Ers P w K mg base "Taken" "table" "key" CN) (F : Fun K "_rows_put" "_rows_put" s_rows_put f fd) (nb : NB mg) (D_row_of : Def P w K mg base 3 "row_of" ["tables", "content", "table", "key"] (spRowOf K)) : FnOk P w K mg base (L2.CX P w) 4 f fd ["tables", "content", "deed"] (spPart K CN "put" rPut noPut) := by
  refine F.okX sc_rows_put (fun vs H Q E h => ?_) (fun cdv A outer sh H vs Q E hr h => ?_)
  · obtain ⟨tp, ts, v, u, o, i, r, b, ct, dd, rs, rfl, _⟩ := h
    rfl
  obtain ⟨tp, ts, v, u, o, i, r, b, ct, dd, rs, rfl, hT, hd, hA, okd, hu', hw, yes, no⟩ := h
  have nd := sc_rows_put.nd
  refine ⟨_, (pss_cons (ps_asg (pv 2) (pg_seqB rfl (pgs_cons (pg_name (i := 3) nd rfl (Or.inl rfl)) (pgs_cons (pg_name (i := 4) nd rfl (Or.inl rfl)) (pgs_cons (pg_name (i := 5) nd rfl (Or.inl rfl)) pgs_nil)))))
      (pss_cons (ps_if (pt_cmpR op_notN (pe_own D_row_of hr (pa_cons (pv 0) (pa_cons (pv 1) (pa_cons (pv 4) (pa_cons (pe_ix ix_seq (pv 5) pe_int (fun _ _ => rfl)) pa_nil))))) pe_non (nomark _))
        (pss_one (ps_ers N rfl hr (takes_of rfl rfl rfl rfl) (pa_cons (pv 4) (pa_cons (pe_ix ix_seq (pv 5) pe_int (fun _ _ => rfl)) pa_nil))))
        pss_nil)
      (pss_one (ps_ret (pe_lst (pa_cons (pe_tup (pa_cons (pv 4) (pa_cons (pe_callTy call_tuple_of (by rfl) nb.b_tuple (by decide +kernel) (pa_cons (pv 5) pa_nil)) pa_nil))) pa_nil)))))), ?_⟩
  cases dd with
  | put t row =>
    obtain ⟨q, xs, rfl, g1, g2⟩ := seq_dp hu'
    cases g2 with
    | cons a1 g2 =>
    cases g2 with
    | cons a2 g2 =>
    cases g2 with
    | cons a3 g2 =>
    cases g2
    cases a1
    cases a2
    obtain ⟨rp, us, rfl, g3, g4⟩ := seq_dp a3
    have := dpAll_ws g4
    subst this
    obtain ⟨k, t0, rfl⟩ := okd.2.key
    have h0 : ((some k :: t0).map wV)[0]? = some (.int k) := rfl
    refine ⟨.ref q, rfl, b, q, _, rfl, g1, rfl, .str "put", _, rfl, .str t, _, rfl, .ref rp, _, rfl, rfl, ?_⟩
    refine ⟨.ref tp, rfl, v, rfl, .str t, rfl, .ref rp, rfl, ixB (i := 0) g3 h0 ⟨tp, ts, v, o, i, r, ct, t, k, rs, rfl, hT, hd, hA, fun row2 p H1 hrow hk s1 hp => ?_, fun hk H1 s1 => ?_⟩⟩
    · refine ⟨rfl, _, rfl, iteT ?_⟩
      refine ⟨.str t, rfl, .ref rp, rfl, ixB (i := 0) (g3.same s1) h0 (ers_raise fun d hd => no k ?_ d H1 s1 hd)⟩
      show (if k ∈ rs.map keyW then some k else none) = some k
      rw [if_pos (List.mem_map.mpr ⟨row2, hrow, hk⟩)]
    · refine ⟨rfl, _, rfl, iteF ?_⟩
      refine ⟨.str t, rfl, .ref rp, rfl, ?_⟩
      refine tupB' (Q := fun x H1 => [V.str t, x].length ≤ sizeLine ∧ ∀ p, H1 p = none → [V.ref p].length ≤ sizeLine ∧ ∀ p1, upd H1 p (.tup [.str t, x]) p1 = none → Q (.ref p1) (upd (upd H1 p (.tup [.str t, x])) p1 (.lst [.ref p]))) (g3.same s1) ?_
      intro l H2 s2 hl
      refine ⟨(by show 2 ≤ sizeLine; decide), fun p np => ⟨(by show 1 ≤ sizeLine; decide), fun D nD => ?_⟩⟩
      have s3 := s2.trans ((same_upd (o := .tup [.str t, .ref l]) np).trans (same_upd (o := .lst [.ref p]) nD))
      have npD : p ≠ D := ne_of_none upd_same nD
      refine yes (show (if k ∈ rs.map keyW then some k else none) = none by rw [if_neg hk]) D _ _ (s1.trans s3) (Same.free (s1.trans (s2.trans (same_upd np))) nD) upd_same ?_
      exact .cons (.tup (.inl (.inl (by rw [upd_ne npD, upd_same]))) (.cons (.str _) (.cons (.tup (sameT ((same_upd np).trans (same_upd nD)) hl) (dp_ws (some k :: t0))) .nil))) .nil
  | drop _ _ => exact absurd (show ("drop" : Str) = "put" from hw) (by decide)
  | sweep _ _ _ => exact absurd (show ("sweep" : Str) = "put" from hw) (by decide)
  | shift _ _ _ => exact absurd (show ("shift" : Str) = "put" from hw) (by decide)
  | set _ _ _ _ => exact absurd (show ("set" : Str) = "put" from hw) (by decide)
def noRow' (rs : List Rw) : Deed → Option Int
  | .drop _ k => if k ∈ rs.map keyW then none else some k
  | .set _ k _ _ => if k ∈ rs.map keyW then none else some k
  | _ => none
def rDrop (_ : List Str) (_ : List Rw) : Deed → List PyData
  | .drop t k => [.tuple [.str t, .int k]]
  | _ => []
abbrev s_rows_dropped : Stmt := topS 18
abbrev N_rows_dropped : List Str := ["tables", "content", "deed", "_", "table", "key"]
theorem sc_rows_dropped : FnScope N_rows_dropped ["tables", "content", "deed"] (defScope s_rows_dropped) := ⟨rfl, rfl, rfl, by decide +kernel, rfl, by decide +kernel, by decide +kernel⟩

theorem ok_rows_dropped {CN : Addr} {f : Addr} {fd : FuncData} (F : Fun K "_rows_dropped" "_rows_dropped" s_rows_dropped f fd) (D_row_there : DefX P w K mg base 4 "_row_there" ["tables", "content", "table", "key"] (spRowThere K CN)) : FnOk P w K mg base (L2.CX P w) 5 f fd ["tables", "content", "deed"] (spPart K CN "drop" rDrop noRow') := by
  refine F.okX sc_rows_dropped (fun vs H Q E h => ?_) (fun cdv A outer sh H vs Q E hr h => ?_)
  · obtain ⟨tp, ts, v, u, o, i, r, b, ct, dd, rs, rfl, _⟩ := h
    rfl
  obtain ⟨tp, ts, v, u, o, i, r, b, ct, dd, rs, rfl, hT, hd, hA, okd, hu', hw, yes, no⟩ := h
  have nd := sc_rows_dropped.nd
  refine ⟨_, (pss_cons (ps_asg (pv 2) (pg_seqB rfl (pgs_cons (pg_name (i := 3) nd rfl (Or.inl rfl)) (pgs_cons (pg_name (i := 4) nd rfl (Or.inl rfl)) (pgs_cons (pg_name (i := 5) nd rfl (Or.inl rfl)) pgs_nil)))))
      (pss_cons (ps_expr (pe_ownX D_row_there hr (takes_of rfl rfl rfl rfl) (pa_cons (pv 0) (pa_cons (pv 1) (pa_cons (pv 4) (pa_cons (pv 5) pa_nil))))))
      (pss_one (ps_ret (pe_lst (pa_cons (pe_tup (pa_cons (pv 4) (pa_cons (pv 5) pa_nil))) pa_nil)))))), ?_⟩
  cases dd with
  | drop t k =>
    obtain ⟨q, xs, rfl, g1, g2⟩ := seq_dp hu'
    cases g2 with
    | cons a1 g2 =>
    cases g2 with
    | cons a2 g2 =>
    cases g2 with
    | cons a3 g2 =>
    cases g2
    cases a1
    cases a2
    cases a3
    refine ⟨.ref q, rfl, b, q, _, rfl, g1, rfl, .str "drop", _, rfl, .str t, _, rfl, .int k, _, rfl, rfl, ?_⟩
    refine ⟨.ref tp, rfl, v, rfl, .str t, rfl, .int k, rfl, tp, ts, v, o, i, r, ct, t, k, rs, rfl, hT, hd, hA, fun row2 p H1 hrow hk s1 hp => ?_, fun hk d H1 s1 hd => no k ?_ d H1 s1 hd⟩
    · refine ⟨.str t, rfl, .int k, rfl, (by show 2 ≤ sizeLine; decide), fun p2 np => ⟨(by show 1 ≤ sizeLine; decide), fun D nD => ?_⟩⟩
      have s3 := (same_upd (o := .tup [.str t, .int k]) np).trans (same_upd (o := .lst [.ref p2]) nD)
      have npD : p2 ≠ D := ne_of_none upd_same nD
      refine yes (show (if k ∈ rs.map keyW then none else some k) = none by rw [if_pos (List.mem_map.mpr ⟨row2, hrow, hk⟩)]) D _ _ (s1.trans s3) (Same.free (s1.trans (same_upd np)) nD) upd_same ?_
      exact .cons (.tup (.inl (.inl (by rw [upd_ne npD, upd_same]))) (.cons (.str _) (.cons (.int _) .nil))) .nil
    · show (if k ∈ rs.map keyW then none else some k) = some k
      rw [if_neg hk]
  | put _ _ => exact absurd (show ("put" : Str) = "drop" from hw) (by decide)
  | sweep _ _ _ => exact absurd (show ("sweep" : Str) = "drop" from hw) (by decide)
  | shift _ _ _ => exact absurd (show ("shift" : Str) = "drop" from hw) (by decide)
  | set _ _ _ _ => exact absurd (show ("set" : Str) = "drop" from hw) (by decide)
def rSet (zs : List Str) (rs : List Rw) : Deed → List PyData
  | .set t k col o => (rs.filter fun r => decide (keyW r = k) && !decide (cellAt zs col r = o)).map fun _ => .tuple [.str t, .int k, .str col, wD o]
  | _ => []
theorem filt_key {n : Nat} {rs : List Rw} (h : RwsOk n rs) {row : Rw} (hm : row ∈ rs) (p : Rw → Bool) : (rs.filter fun r => decide (keyW r = keyW row) && p r) = if p row = true then [row] else [] := by
  obtain ⟨i, hi⟩ := List.getElem?_of_mem hm
  have hl := (List.getElem?_eq_some_iff.mp hi).1
  have e : rs = rs.take i ++ row :: rs.drop (i + 1) := by
    rw [← (List.getElem?_eq_some_iff.mp hi).2]
    exact (List.take_append_drop i rs).symm.trans (by rw [List.drop_eq_getElem_cons hl])
  have no1 : ∀ r ∈ rs.take i, (decide (keyW r = keyW row) && p r) = false := fun r hr => by
    obtain ⟨j, hj⟩ := List.getElem?_of_mem hr
    have hji : j < i := by have := (List.getElem?_eq_some_iff.mp hj).1; rw [List.length_take] at this; omega
    rw [List.getElem?_take_of_lt hji] at hj
    rw [decide_eq_false (fun z => by have := key_one h hj hi z; omega)]; rfl
  have no2 : ∀ r ∈ rs.drop (i + 1), (decide (keyW r = keyW row) && p r) = false := fun r hr => by
    obtain ⟨j, hj⟩ := List.getElem?_of_mem hr
    rw [List.getElem?_drop] at hj
    rw [decide_eq_false (fun z => by have := key_one h hj hi z; omega)]; rfl
  have f1 : (rs.take i).filter (fun r => decide (keyW r = keyW row) && p r) = [] := List.filter_eq_nil_iff.mpr fun r hr => by rw [no1 r hr]; exact Bool.false_ne_true
  have f2 : (rs.drop (i + 1)).filter (fun r => decide (keyW r = keyW row) && p r) = [] := List.filter_eq_nil_iff.mpr fun r hr => by rw [no2 r hr]; exact Bool.false_ne_true
  have e2 : rs.filter (fun r => decide (keyW r = keyW row) && p r) = (rs.take i ++ row :: rs.drop (i + 1)).filter (fun r => decide (keyW r = keyW row) && p r) := by rw [← e]
  rw [e2, List.filter_append, List.filter_cons, f1, f2, decide_eq_true rfl, Bool.true_and]
  rfl
theorem cell_row {n : Nat} {r : Rw} (h : RwOk n r) {zs : List Str} (hn : n = zs.length) {col : Str} (hc : col ∈ zs) : (r.map wV)[zs.idxOf col]? = some (wV (cellAt zs col r)) := by
  have hj : zs.idxOf col < r.length := by rw [h.len, hn]; exact List.idxOf_lt_length_of_mem hc
  have e : r[zs.idxOf col]? = some r[zs.idxOf col] := List.getElem?_eq_getElem hj
  unfold cellAt
  rw [getD_of e, List.getElem?_map, e]; rfl
abbrev s_cells_set : Stmt := topS 19
abbrev N_cells_set : List Str := ["tables", "content", "deed", "_", "table", "key", "column", "worth", "row"]
theorem sc_cells_set : FnScope N_cells_set ["tables", "content", "deed"] (defScope s_cells_set) := ⟨rfl, rfl, rfl, by decide +kernel, rfl, by decide +kernel, by decide +kernel⟩

theorem ok_cells_set {CN : Addr} {f : Addr} {fd : FuncData} (F : Fun K "_cells_set" "_cells_set" s_cells_set f fd) (D_row_there : DefX P w K mg base 4 "_row_there" ["tables", "content", "table", "key"] (spRowThere K CN)) (D_column_place : Def P w K mg base 3 "column_place" ["tables", "table", "column"] (spColPlace K)) : FnOk P w K mg base (L2.CX P w) 5 f fd ["tables", "content", "deed"] (spPart K CN "set" rSet noRow') := by
  refine F.okX sc_cells_set (fun vs H Q E h => ?_) (fun cdv A outer sh H vs Q E hr h => ?_)
  · obtain ⟨tp, ts, v, u, o, i, r, b, ct, dd, rs, rfl, _⟩ := h
    rfl
  obtain ⟨tp, ts, v, u, o, i, r, b, ct, dd, rs, rfl, hT, hd, hA, okd, hu', hw, yes, no⟩ := h
  have nd := sc_cells_set.nd
  refine ⟨_, (pss_cons (ps_asg (pv 2) (pg_seqB rfl (pgs_cons (pg_name (i := 3) nd rfl (Or.inl rfl)) (pgs_cons (pg_name (i := 4) nd rfl (Or.inl rfl)) (pgs_cons (pg_name (i := 5) nd rfl (Or.inl rfl)) (pgs_cons (pg_name (i := 6) nd rfl (Or.inl rfl)) (pgs_cons (pg_name (i := 7) nd rfl (Or.inl rfl)) pgs_nil)))))))
      (pss_cons (ps_set (i := 8) nd rfl (Or.inl rfl) (pe_ownX D_row_there hr (takes_of rfl rfl rfl rfl) (pa_cons (pv 0) (pa_cons (pv 1) (pa_cons (pv 4) (pa_cons (pv 5) pa_nil))))))
      (pss_cons (ps_if (pt_cmpR (op_eqD hr.units) (pe_ix ix_tup (pv 8) (pe_own D_column_place hr (pa_cons (pv 0) (pa_cons (pv 4) (pa_cons (pv 6) pa_nil)))) (fun _ _ => rfl)) (pv 7) (nomark _))
        (pss_one (ps_ret (pe_lst pa_nil)))
        pss_nil)
      (pss_one (ps_ret (pe_lst (pa_cons (pe_tup (pa_cons (pv 4) (pa_cons (pv 5) (pa_cons (pv 6) (pa_cons (pv 7) pa_nil))))) pa_nil))))))), ?_⟩
  cases dd with
  | set t k col wo =>
    obtain ⟨q, xs, rfl, g1, g2⟩ := seq_dp hu'
    cases g2 with
    | cons a1 g2 =>
    cases g2 with
    | cons a2 g2 =>
    cases g2 with
    | cons a3 g2 =>
    cases g2 with
    | cons a4 g2 =>
    cases g2 with
    | cons a5 g2 =>
    cases g2
    cases a1
    cases a2
    cases a3
    cases a4
    rename_i w5
    have ew : w5 = wV wo := by cases wo <;> cases a5 <;> rfl
    subst ew
    obtain ⟨ht, _, hc, _⟩ := okd
    refine ⟨.ref q, rfl, b, q, _, rfl, g1, rfl, .str "set", _, rfl, .str t, _, rfl, .int k, _, rfl, .str col, _, rfl, wV wo, _, rfl, rfl, ?_⟩
    refine ⟨.ref tp, rfl, v, rfl, .str t, rfl, .int k, rfl, tp, ts, v, o, i, r, ct, t, k, rs, rfl, hT, hd, hA, fun row2 p H1 hrow hk s1 hp => ?_, fun hk d H1 s1 hd => no k ?_ d H1 s1 hd⟩
    · subst hk
      have okr := hA.ok.row row2 hrow
      refine ⟨.ref p, rfl, .ref tp, rfl, .str t, rfl, .str col, rfl, tp, ts, t, col, rfl, hT.same s1, ht, hc, fun H2 s2 => ?_⟩
      have hno : noRow' rs (.set t (keyW row2) col wo) = none := by
        show (if keyW row2 ∈ rs.map keyW then none else some (keyW row2)) = none
        rw [if_pos (List.mem_map.mpr ⟨row2, hrow, rfl⟩)]
      have eR : rSet (cns ts t) rs (.set t (keyW row2) col wo) = (if (!decide (cellAt (cns ts t) col row2 = wo)) = true then [row2] else []).map fun _ => .tuple [.str t, .int (keyW row2), .str col, wD wo] := by
        show (rs.filter fun r => decide (keyW r = keyW row2) && !decide (cellAt (cns ts t) col r = wo)).map _ = _
        rw [filt_key hA.ok hrow]
      refine ⟨p, _, _, _, rfl, rfl, sameT s2 hp, atI_nat (cell_row okr rfl hc), wV wo, rfl, wD (cellAt (cns ts t) col row2), wD wo, dp_w _, dp_w _, shaped_w _, shaped_w _, _, rfl, ?_⟩
      rw [eqv_w]
      cases hw : decide (cellAt (cns ts t) col row2 = wo) with
      | true =>
        refine iteT ⟨Nat.zero_le _, fun D nD => ?_⟩
        refine yes hno D [] _ ((s1.trans s2).trans (same_upd nD)) (Same.free (s1.trans s2) nD) upd_same ?_
        rw [show tabOf (Deed.set t (keyW row2) col wo) = t from rfl, eR, hw]
        exact .nil
      | false =>
        refine iteF ?_
        refine ⟨.str t, rfl, .int (keyW row2), rfl, .str col, rfl, wV wo, rfl, (by show 4 ≤ sizeLine; decide), fun p2 np => ⟨(by show 1 ≤ sizeLine; decide), fun D nD => ?_⟩⟩
        have s3 := (same_upd (o := .tup [.str t, .int (keyW row2), .str col, wV wo]) np).trans (same_upd (o := .lst [.ref p2]) nD)
        have npD : p2 ≠ D := ne_of_none upd_same nD
        refine yes hno D _ _ ((s1.trans s2).trans s3) (Same.free ((s1.trans s2).trans (same_upd np)) nD) upd_same ?_
        rw [show tabOf (Deed.set t (keyW row2) col wo) = t from rfl, eR, hw]
        exact .cons (.tup (.inl (.inl (by rw [upd_ne npD, upd_same]))) (.cons (.str _) (.cons (.int _) (.cons (.str _) (.cons (dp_w wo) .nil))))) .nil
    · show (if k ∈ rs.map keyW then none else some k) = some k
      rw [if_neg hk]
  | put _ _ => exact absurd (show ("put" : Str) = "set" from hw) (by decide)
  | sweep _ _ _ => exact absurd (show ("sweep" : Str) = "set" from hw) (by decide)
  | shift _ _ _ => exact absurd (show ("shift" : Str) = "set" from hw) (by decide)
  | drop _ _ => exact absurd (show ("drop" : Str) = "set" from hw) (by decide)
end
end TT

set_option Elab.async false
set_option linter.all false
set_option maxRecDepth 100000
namespace TT
open PySem PySem.Spec PyProof.Rows L2
theorem kept_same {H H' : Hp} {D : Addr} (k : Kept [D] H H') (n : H D = none) : Same H H' := fun b o e => k b o e fun z => by rw [List.mem_singleton.mp z, n] at e; cases e
theorem kept_msk {H H' : Hp} {D : Addr} (k : Kept [D] H H') (n : H D = none) : Same H (msk [D] H') := fun b o e => by
  have ne : b ∉ [D] := fun z => by rw [List.mem_singleton.mp z, n] at e; cases e
  exact msk_at (k b o e ne) ne
/-- a comprehension over rows: some of them, of each something -/
theorem lc_rows {K : PySem.W.Frag} {J : It} {n : Nat} {G : Hp → Prop} {xs : List V} (w : Walk J n G (YAt xs)) {rs : List Rw} (hn : n = rs.length) (few : rs.length ≤ 900) (p : Rw → Bool) (f : Rw → PyData)
    {g : TG} {tt : TT} {te : TE} {vs : List Nat} {σ : L2.St} {H1 : Hp} {D : Addr} {Qd : Hp → Prop} (nD : H1 D = none) (hG : ∀ H', Kept [D] H1 H' → G H') (hx : ∀ (i : Nat) (x : V), xs[i]? = some x → ∃ row rp, rs[i]? = some row ∧ x = .ref rp ∧ SqT K H1 rp (row.map wV))
    (step : ∀ (row : Rw) (rp : Addr) (H' : Hp) (C : V → Hp → Prop) (N : Hp → Prop), row ∈ rs → Kept [D] H1 H' → (∃ ws, H' D = some (.lst ws)) → SqT K (msk [D] H') rp (row.map wV) → (p row = true → ∀ y H4, Kept [] H' H4 → Dp K (msk [D] H4) y (f row) → C y H4) → (p row = false → N H') →
      g (.ref rp) (wipe σ vs) H' fun σ2 H2 => wipe σ2 vs = wipe σ vs ∧ tt σ2 H2 fun b H3 => if b = true then te σ2 H3 C else N H3)
    (fin : ∀ us H2, Grow K [] H2 D us ((rs.filter p).map f) → Kept [D] H1 H2 → Qd H2) :
    ∃ W : Nat → Nat → Hp → Prop, (∃ m, W 0 m (upd H1 D (.lst []))) ∧ ∀ i m H, W i m H →
      (J.stop i H ∧ Qd H) ∨ (J.go i H ∧ ∃ Nx : Hp → Prop, (∀ H', Nx H' → ∃ m', m' < m ∧ W (i + 1) m' H') ∧ ∀ x H', J.yld i H x H' → g x (wipe σ vs) H' fun σ2 H2 => wipe σ2 vs = wipe σ vs ∧ tt σ2 H2 fun b H3 =>
        if b = true then te σ2 H3 fun y H4 => ∃ acc, H4 D = some (.lst acc) ∧ acc.length < sizeLine ∧ Nx (upd H4 D (.lst (acc ++ [y]))) else Nx H3) := by
  refine lc_it w (fun i H' => ∃ us, Grow K [] H' D us (((rs.take i).filter p).map f) ∧ Kept [D] H1 H') ⟨[], .start, Kept.upd_new nD⟩ (fun i H' _ hP => let ⟨_, _, kk⟩ := hP; hG H' kk) (fun i x H' H'' hi hP hY => ?_) (fun H2 hP => ?_)
  · obtain ⟨rfl, hx1⟩ := hY
    obtain ⟨us, gr, kk⟩ := hP
    obtain ⟨row, rp, h1, rfl, h2⟩ := hx i x hx1
    have et : (rs.take (i + 1)).filter p = (rs.take i).filter p ++ (if p row then [row] else []) := by
      rw [List.take_add_one, h1, List.filter_append]
      congr 1
      show List.filter p [row] = _
      rw [List.filter_cons, List.filter_nil]
    refine step row rp H'' _ _ (List.mem_of_getElem? h1) kk ⟨_, gr.at'⟩ (sameT (kept_msk kk nD) h2) (fun hp y H4 k4 hd => ?_) (fun hp => ?_)
    · have g4 := gr.kept k4 List.not_mem_nil
      refine ⟨us, g4.at', ?_, us ++ [y], ?_, kk.trans ((k4.mono (fun _ h => absurd h List.not_mem_nil)).trans (Kept.upd_in (List.mem_cons_self ..)))⟩
      · rw [gr.len, List.length_map]
        have := List.length_filter_le p (rs.take i)
        rw [List.length_take] at this
        exact small1000 (by omega)
      · rw [et, hp, if_pos rfl, List.map_append]
        exact g4.put hd
    · refine ⟨us, ?_, kk⟩
      rw [et, hp, if_neg Bool.false_ne_true, List.append_nil]
      exact gr
  · obtain ⟨us, gr, kk⟩ := hP
    rw [hn, List.take_length] at gr
    exact fin us H2 gr kk
theorem dp_rows {K : PySem.W.Frag} {H : Hp} {us : List V} {rs : List Rw} (h : DpAll K H us (rs.map rowD)) {i : Nat} {x : V} (hx : us[i]? = some x) : ∃ row rp, rs[i]? = some row ∧ x = .ref rp ∧ SqT K H rp (row.map wV) := by
  obtain ⟨d, h1, h2⟩ := dpAll_get i h hx
  rw [List.getElem?_map] at h1
  obtain ⟨row, hr, rfl⟩ := Option.map_eq_some_iff.mp h1
  obtain ⟨rp, xs, rfl, h3, h4⟩ := seq_dp (b := true) (show Dp K H x (seqD true (row.map wD)) from h2)
  have := dpAll_ws h4
  subst this
  exact ⟨row, rp, hr, rfl, h3⟩
section
variable {P : Program} {w : World} {K : PySem.W.Frag} {mg : Str → Option Value} {base : Heap}
def rSweep (zs : List Str) (rs : List Rw) : Deed → List PyData
  | .sweep t col o => (rs.filter fun r => decide (cellAt zs col r = o)).map fun r => .tuple [.str t, .int (keyW r)]
  | _ => []
def noNo (_ : List Rw) (_ : Deed) : Option Int := none
abbrev s_rows_swept : Stmt := topS 20
abbrev N_rows_swept : List Str := ["tables", "content", "deed", "_", "table", "column", "worth", "place", "rows", "row"]
theorem sc_rows_swept : FnScope N_rows_swept ["tables", "content", "deed"] (defScope s_rows_swept) := ⟨rfl, rfl, rfl, by decide +kernel, rfl, by decide +kernel, by decide +kernel⟩

theorem ok_rows_swept {CN : Addr} {f : Addr} {fd : FuncData} (F : Fun K "_rows_swept" "_rows_swept" s_rows_swept f fd) (D_column_place : Def P w K mg base 3 "column_place" ["tables", "table", "column"] (spColPlace K)) (D_rows_of : Def P w K mg base 3 "rows_of" ["tables", "content", "table"] (spRowsOf K)) : FnOk P w K mg base (L2.CX P w) 4 f fd ["tables", "content", "deed"] (spPart K CN "sweep" rSweep noNo) := by
  refine F.okX sc_rows_swept (fun vs H Q E h => ?_) (fun cdv A outer sh H vs Q E hr h => ?_)
  · obtain ⟨tp, ts, v, u, o, i, r, b, ct, dd, rs, rfl, _⟩ := h
    rfl
  obtain ⟨tp, ts, v, u, o, i, r, b, ct, dd, rs, rfl, hT, hd, hA, okd, hu', hw, yes, no⟩ := h
  have nd := sc_rows_swept.nd
  refine ⟨_, (pss_cons (ps_asg (pv 2) (pg_seqB rfl (pgs_cons (pg_name (i := 3) nd rfl (Or.inl rfl)) (pgs_cons (pg_name (i := 4) nd rfl (Or.inr rfl)) (pgs_cons (pg_name (i := 5) nd rfl (Or.inl rfl)) (pgs_cons (pg_name (i := 6) nd rfl (Or.inr rfl)) pgs_nil))))))
      (pss_cons (ps_set (i := 7) nd rfl (Or.inr rfl) (pe_own D_column_place hr (pa_cons (pv 0) (pa_cons (pv 4) (pa_cons (pv 5) pa_nil)))))
      (pss_cons (ps_set (i := 8) nd rfl (Or.inl rfl) (pe_own D_rows_of hr (pa_cons (pv 0) (pa_cons (pv 1) (pa_cons (pv 4) pa_nil)))))
      (pss_one (ps_ret (pe_lc (own := [("row", 9)]) (g := (gName 9)) rfl nd (pi_list (pv 8)) (blkOk_by (N := N_rows_swept) (sc := defScope s_rows_swept) (by decide +kernel)) (fun _ _ _ _ _ => (pg_name (i := 9) nd rfl (Or.inl rfl))) (fun _ _ _ _ _ => (pts_one (pt_cmpR (r := rEqD K) (op_eqD hr.units) (pe_ix (r := rIxT K) ix_tup (pv 9) (pv 7) (fun _ _ => rfl)) (pv 6) (nomark _)))) (fun _ _ _ _ _ => (pe_tup (pa_cons (pv 4) (pa_cons (pe_ix (r := rIxT K) ix_tup (pv 9) pe_int (fun _ _ => rfl)) pa_nil)))))))))), ?_⟩
  cases dd with
  | sweep t col wo =>
    obtain ⟨q, xs, rfl, g1, g2⟩ := seq_dp hu'
    cases g2 with
    | cons a1 g2 =>
    cases g2 with
    | cons a2 g2 =>
    cases g2 with
    | cons a3 g2 =>
    cases g2 with
    | cons a4 g2 =>
    cases g2
    cases a1
    cases a2
    cases a3
    rename_i w5
    have ew : w5 = wV wo := by cases wo <;> cases a4 <;> rfl
    subst ew
    obtain ⟨ht, hc, _⟩ := okd
    refine ⟨.ref q, rfl, b, q, _, rfl, g1, rfl, .str "sweep", _, rfl, .str t, _, rfl, .str col, _, rfl, wV wo, _, rfl, rfl, ?_⟩
    refine ⟨.ref tp, rfl, .str t, rfl, .str col, rfl, tp, ts, t, col, rfl, hT, ht, hc, fun H1 s1 => ?_⟩
    refine ⟨.ref tp, rfl, v, rfl, .str t, rfl, tp, ts, v, o, i, r, ct, t, rs, rfl, hT.same s1, dp_same s1 hd, hA, fun D0 us H2 s2 n0 e0 hus => ?_⟩
    refine ⟨.ref D0, rfl, D0, rfl, ⟨us, .inl (.inl e0)⟩, fun D nD => ?_⟩
    have n0D : D0 ≠ D := ne_of_none e0 nD
    refine lc_rows (K := K) (walk_list (xs := us)) (by rw [dpAll_len hus, List.length_map]) hA.few (fun r => decide (cellAt (cns ts t) col r = wo)) (fun r => .tuple [.str t, .int (keyW r)]) nD (fun H' k => .inl (.inl (k.at e0 (by simp [n0D])))) (fun i x hx => ?_) (fun row rp H' C N hrow kk eD hS yesC noN => ?_) (fun us2 H3 gr kk => ?_)
    · obtain ⟨row, rp, h1, h2, h3⟩ := dp_rows hus hx
      exact ⟨row, rp, h1, h2, sameT (msk_sub _ _) h3⟩
    · have okr := hA.ok.row row hrow
      have hS' : SqT K H' rp (row.map wV) := sameT (msk_sub _ _) hS
      obtain ⟨k, t0, rfl⟩ := okr.key
      refine ⟨rfl, ?_⟩
      refine ⟨.ref rp, rfl, _, rfl, rp, _, _, _, rfl, rfl, hS', atI_nat (cell_row okr rfl hc), wV wo, rfl, wD (cellAt (cns ts t) col (some k :: t0)), wD wo, dp_w _, dp_w _, shaped_w _, shaped_w _, _, rfl, ?_⟩
      rw [eqv_w]
      refine ite2 (fun e => ?_) (fun e => ?_)
      · refine ⟨.str t, rfl, .ref rp, rfl, rp, _, 0, .int k, rfl, rfl, hS', atI_nat (j := 0) rfl, (by show 2 ≤ sizeLine; decide), fun p np => ?_⟩
        obtain ⟨ws, eD⟩ := eD
        exact yesC e _ _ (Kept.upd_new np) (.tup (.inl (.inl (msk_at upd_same (by simp [(ne_of_none eD np).symm])))) (.cons (.str _) (.cons (.int _) .nil)))
      · exact noN (by simpa using e)
    · exact yes rfl D us2 H3 (s1.trans (s2.trans (kept_same kk nD))) (Same.free (s1.trans s2) nD) gr.at' (dpAll_same (msk_sub _ _) gr.dp)
  | put _ _ => exact absurd (show ("put" : Str) = "sweep" from hw) (by decide)
  | drop _ _ => exact absurd (show ("drop" : Str) = "sweep" from hw) (by decide)
  | shift _ _ _ => exact absurd (show ("shift" : Str) = "sweep" from hw) (by decide)
  | set _ _ _ _ => exact absurd (show ("set" : Str) = "sweep" from hw) (by decide)
def rShift (zs : List Str) (rs : List Rw) : Deed → List PyData
  | .shift t col b => if b = 0 then [] else (rs.filter fun r => !decide (cellAt zs col r = none)).map fun r => .tuple [.str t, .int (keyW r), .str col, wD ((cellAt zs col r).map (· + b))]
  | _ => []
abbrev s_cells_shifted : Stmt := topS 21
abbrev N_cells_shifted : List Str := ["tables", "content", "deed", "_", "table", "column", "by", "place", "rows", "row"]
theorem sc_cells_shifted : FnScope N_cells_shifted ["tables", "content", "deed"] (defScope s_cells_shifted) := ⟨rfl, rfl, rfl, by decide +kernel, rfl, by decide +kernel, by decide +kernel⟩

theorem ok_cells_shifted {CN : Addr} {f : Addr} {fd : FuncData} (F : Fun K "_cells_shifted" "_cells_shifted" s_cells_shifted f fd) (D_column_place : Def P w K mg base 3 "column_place" ["tables", "table", "column"] (spColPlace K)) (D_rows_of : Def P w K mg base 3 "rows_of" ["tables", "content", "table"] (spRowsOf K)) : FnOk P w K mg base (L2.CX P w) 4 f fd ["tables", "content", "deed"] (spPart K CN "shift" rShift noNo) := by
  refine F.okX sc_cells_shifted (fun vs H Q E h => ?_) (fun cdv A outer sh H vs Q E hr h => ?_)
  · obtain ⟨tp, ts, v, u, o, i, r, b, ct, dd, rs, rfl, _⟩ := h
    rfl
  obtain ⟨tp, ts, v, u, o, i, r, b, ct, dd, rs, rfl, hT, hd, hA, okd, hu', hw, yes, no⟩ := h
  have nd := sc_cells_shifted.nd
  refine ⟨_, (pss_cons (ps_asg (pv 2) (pg_seqB rfl (pgs_cons (pg_name (i := 3) nd rfl (Or.inl rfl)) (pgs_cons (pg_name (i := 4) nd rfl (Or.inr rfl)) (pgs_cons (pg_name (i := 5) nd rfl (Or.inr rfl)) (pgs_cons (pg_name (i := 6) nd rfl (Or.inr rfl)) pgs_nil))))))
      (pss_cons (ps_if (pt_cmpR op_eq (pv 6) pe_int (nomark _))
        (pss_one (ps_ret (pe_lst pa_nil)))
        pss_nil)
      (pss_cons (ps_set (i := 7) nd rfl (Or.inr rfl) (pe_own D_column_place hr (pa_cons (pv 0) (pa_cons (pv 4) (pa_cons (pv 5) pa_nil)))))
      (pss_cons (ps_setLc (i := 8) (own := [("row", 9)]) (g := (gName 9)) rfl nd rfl rfl (sw_true rfl rfl rfl (by decide +kernel)) (pi_list (pe_own D_rows_of hr (pa_cons (pv 0) (pa_cons (pv 1) (pa_cons (pv 4) pa_nil))))) (blkOk_by (N := N_cells_shifted) (sc := defScope s_cells_shifted) (by decide +kernel)) (fun _ _ _ _ _ => (pg_name (i := 9) nd rfl (Or.inl rfl))) (fun _ _ _ _ _ => (pts_one (pt_cmpR op_notN (pe_ix (r := rIxT K) ix_tup (pv 9) (pv 7) (fun _ _ => rfl)) pe_non (nomark _)))) (fun _ _ _ _ _ => (pv 9)))
      (pss_one (ps_ret (pe_lc (own := [("row", 9)]) (g := (gName 9)) (tt := tYes) rfl nd (pi_list (pv 8)) (blkOk_by (N := N_cells_shifted) (sc := defScope s_cells_shifted) (by decide +kernel)) (fun _ _ _ _ _ => (pg_name (i := 9) nd rfl (Or.inl rfl))) (fun _ _ _ _ _ => pts_nil) (fun _ _ _ _ _ => (pe_tup (pa_cons (pv 4) (pa_cons (pe_ix (r := rIxT K) ix_tup (pv 9) pe_int (fun _ _ => rfl)) (pa_cons (pv 5) (pa_cons (pe_op op_add (pe_ix (r := rIxT K) ix_tup (pv 9) (pv 7) (fun _ _ => rfl)) (pv 6)) pa_nil))))))))))))), ?_⟩
  cases dd with
  | shift t col by' =>
    obtain ⟨q, xs, rfl, g1, g2⟩ := seq_dp hu'
    cases g2 with
    | cons a1 g2 =>
    cases g2 with
    | cons a2 g2 =>
    cases g2 with
    | cons a3 g2 =>
    cases g2 with
    | cons a4 g2 =>
    cases g2
    cases a1
    cases a2
    cases a3
    cases a4
    obtain ⟨ht, hc, _⟩ := okd
    refine ⟨.ref q, rfl, b, q, _, rfl, g1, rfl, .str "shift", _, rfl, .str t, _, rfl, .str col, _, rfl, .int by', _, rfl, rfl, ?_⟩
    refine ⟨.int by', rfl, rfl, _, rfl, ite2 (fun e => ?_) (fun e => ?_)⟩
    · have e : by' = 0 := V.int.inj (of_decide_eq_true e)
      refine ⟨Nat.zero_le _, fun D nD => ?_⟩
      refine yes rfl D [] _ (same_upd nD) nD upd_same ?_
      rw [show rShift (cns ts (tabOf (Deed.shift t col by'))) rs (Deed.shift t col by') = [] by show (if by' = 0 then _ else _) = _; rw [if_pos e]]
      exact .nil
    have e : ¬ by' = 0 := fun z => e (decide_eq_true (congrArg V.int z))
    refine ⟨.ref tp, rfl, .str t, rfl, .str col, rfl, tp, ts, t, col, rfl, hT, ht, hc, fun H1 s1 => ?_⟩
    refine ⟨.ref tp, rfl, v, rfl, .str t, rfl, tp, ts, v, o, i, r, ct, t, rs, rfl, hT.same s1, dp_same s1 hd, hA, fun D0 us H2 s2 n0 e0 hus => ?_⟩
    refine ⟨D0, rfl, ⟨us, .inl (.inl e0)⟩, fun D nD => ?_⟩
    have n0D : D0 ≠ D := ne_of_none e0 nD
    refine lc_rows (K := K) (walk_list (xs := us)) (by rw [dpAll_len hus, List.length_map]) hA.few (fun r => !decide (cellAt (cns ts t) col r = none)) rowD nD (fun H' k => .inl (.inl (k.at e0 (by simp [n0D])))) (fun i x hx => ?_) (fun row rp H' C N hrow kk eD hS yesC noN => ?_) (fun us2 H3 gr kk => ?_)
    · obtain ⟨row, rp, h1, h2, h3⟩ := dp_rows hus hx
      exact ⟨row, rp, h1, h2, sameT (msk_sub _ _) h3⟩
    · have okr := hA.ok.row row hrow
      have hS' : SqT K H' rp (row.map wV) := sameT (msk_sub _ _) hS
      refine ⟨rfl, ?_⟩
      refine ⟨.ref rp, rfl, _, rfl, rp, _, _, _, rfl, rfl, hS', atI_nat (cell_row okr rfl hc), rfl, _, rfl, ?_⟩
      have ec : (!decide (wV (cellAt (cns ts t) col row) = .non)) = !decide (cellAt (cns ts t) col row = none) := by
        cases cellAt (cns ts t) col row with
        | none => rfl
        | some z => rfl
      refine ite2 (c := (!decide (wV (cellAt (cns ts t) col row) = V.non)) = true) (fun e => ?_) (fun e => ?_) <;> rw [ec] at e
      · exact ⟨_, rfl, yesC e _ _ (Kept.refl _ _) (.tup hS (dp_ws row))⟩
      · exact noN (by simpa using e)
    have s3 : Same H2 H3 := kept_same kk nD
    have hus2 := gr.dp
    refine ⟨.ref D, rfl, D, rfl, ⟨us2, .inl (.inl gr.at')⟩, fun E' nE => ?_⟩
    have nDE : D ≠ E' := ne_of_none gr.at' nE
    have fw := List.length_filter_le (fun r => !decide (cellAt (cns ts t) col r = none)) rs
    have few := hA.few
    refine lc_rows (K := K) (rs := rs.filter fun r => !decide (cellAt (cns ts t) col r = none)) (walk_list (xs := us2)) (by rw [gr.len, List.length_map]) (by omega) (fun _ => true) (fun r => .tuple [.str t, .int (keyW r), .str col, wD ((cellAt (cns ts t) col r).map (· + by'))]) nE (fun H' k => .inl (.inl (k.at gr.at' (by simp [nDE])))) (fun i x hx => ?_) (fun row rp H' C N hrow kk eD hS yesC noN => ?_) (fun us3 H4 gr4 kk4 => ?_)
    · obtain ⟨row, rp, h1, h2, h3⟩ := dp_rows hus2 hx
      exact ⟨row, rp, h1, h2, sameT (msk_sub _ _) h3⟩
    · obtain ⟨hrow, hp⟩ := List.mem_filter.mp hrow
      have okr := hA.ok.row row hrow
      have hS' : SqT K H' rp (row.map wV) := sameT (msk_sub _ _) hS
      have cr : (row.map wV)[(cns ts t).idxOf col]? = some (wV (cellAt (cns ts t) col row)) := cell_row okr rfl hc
      obtain ⟨z, hz⟩ : ∃ z, cellAt (cns ts t) col row = some z := by
        cases h : cellAt (cns ts t) col row with
        | none => rw [h] at hp; exact absurd hp (by decide)
        | some z => exact ⟨z, rfl⟩
      rw [hz] at yesC cr
      obtain ⟨k, t0, rfl⟩ := okr.key
      refine ⟨rfl, ?_⟩
      unfold tYes
      dsimp only
      refine iteT ?_
      refine ⟨.str t, rfl, .ref rp, rfl, rp, _, 0, .int k, rfl, rfl, hS', atI_nat (j := 0) rfl, .str col, rfl, .ref rp, rfl, _, rfl, rp, _, _, _, rfl, rfl, hS', atI_nat cr, .int by', rfl, z, by', rfl, rfl, (by show 4 ≤ sizeLine; decide), fun p np => ?_⟩
      obtain ⟨ws, eD⟩ := eD
      exact yesC rfl _ _ (Kept.upd_new np) (.tup (.inl (.inl (msk_at upd_same (by simp [(ne_of_none eD np).symm])))) (.cons (.str _) (.cons (.int _) (.cons (.str _) (.cons (.int _) .nil)))))
    · refine yes rfl E' us3 H4 (s1.trans (s2.trans (s3.trans (kept_same kk4 nE)))) (Same.free (s1.trans (s2.trans s3)) nE) gr4.at' ?_
      rw [show rShift (cns ts (tabOf (Deed.shift t col by'))) rs (Deed.shift t col by') = ((rs.filter fun r => !decide (cellAt (cns ts t) col r = none)).filter fun _ => true).map fun r => .tuple [.str t, .int (keyW r), .str col, wD ((cellAt (cns ts t) col r).map (· + by'))] by
        show (if by' = 0 then _ else _) = _
        rw [if_neg e, List.filter_eq_self.mpr fun _ _ => rfl]; rfl]
      exact dpAll_same (msk_sub _ _) gr4.dp
  | put _ _ => exact absurd (show ("put" : Str) = "shift" from hw) (by decide)
  | drop _ _ => exact absurd (show ("drop" : Str) = "shift" from hw) (by decide)
  | sweep _ _ _ => exact absurd (show ("sweep" : Str) = "shift" from hw) (by decide)
  | set _ _ _ _ => exact absurd (show ("set" : Str) = "shift" from hw) (by decide)
theorem deed0 {H : Hp} {u : V} {b : Bool} {dd : Deed} (h : Dp K H u (deedF b dd)) : ∃ q xs, u = .ref q ∧ SqB b K H q xs ∧ xs[0]? = some (.str (wordOf dd)) := by
  cases dd with
  | put _ _ => obtain ⟨q, xs, rfl, g1, g2⟩ := seq_dp h; cases g2 with | cons a _ => cases a; exact ⟨q, _, rfl, g1, rfl⟩
  | drop _ _ => obtain ⟨q, xs, rfl, g1, g2⟩ := seq_dp h; cases g2 with | cons a _ => cases a; exact ⟨q, _, rfl, g1, rfl⟩
  | sweep _ _ _ => obtain ⟨q, xs, rfl, g1, g2⟩ := seq_dp h; cases g2 with | cons a _ => cases a; exact ⟨q, _, rfl, g1, rfl⟩
  | shift _ _ _ => obtain ⟨q, xs, rfl, g1, g2⟩ := seq_dp h; cases g2 with | cons a _ => cases a; exact ⟨q, _, rfl, g1, rfl⟩
  | set _ _ _ _ => obtain ⟨q, xs, rfl, g1, g2⟩ := seq_dp h; cases g2 with | cons a _ => cases a; exact ⟨q, _, rfl, g1, rfl⟩
/-- told: a new tuple of three new lists -/
def toldP (K : PySem.W.Frag) (Q : VK) (g c r : List PyData) (H : Hp) : Prop := ∀ (p D1 D2 D3 : Addr) (u1 u2 u3 : List V) (H' : Hp), Same H H' → H p = none → H D1 = none → H D2 = none → H D3 = none →
  H' p = some (.tup [.ref D1, .ref D2, .ref D3]) → H' D1 = some (.lst u1) → H' D2 = some (.lst u2) → H' D3 = some (.lst u3) → DpAll K H' u1 g → DpAll K H' u2 c → DpAll K H' u3 r → Q (.ref p) H'
def spOwn (K : PySem.W.Frag) (CN CT : Addr) : Sp := fun vs H Q E => ∃ (tp : Addr) (ts : List Tab) (v u : V) (o i r b : Bool) (ct : List (List Rw)) (dd : Deed) (rs : List Rw), vs = [.ref tp, v, u] ∧ Tabs K H tp ts ∧ Dp K H v (handD o i r ct) ∧ At ts ct (tabOf dd) rs ∧
  DeedOk ts dd ∧ Dp K H u (deedF b dd) ∧ (∀ g c r, own (cns ts (tabOf dd)) rs dd = .told g c r → toldP K Q g c r H) ∧ (∀ t k, own (cns ts (tabOf dd)) rs dd = .norow t k → raisedTK E CN t k H) ∧ (∀ t k, own (cns ts (tabOf dd)) rs dd = .taken t k → raisedTK E CT t k H)
abbrev s_own_part : Stmt := topS 16
abbrev N_own_part : List Str := ["tables", "content", "deed", "kind"]
theorem sc_own_part : FnScope N_own_part ["tables", "content", "deed"] (defScope s_own_part) := ⟨rfl, rfl, rfl, by decide +kernel, rfl, by decide +kernel, by decide +kernel⟩

theorem ok_own_part {CN CT : Addr} {f : Addr} {fd : FuncData} (F : Fun K "own_part" "own_part" s_own_part f fd)
    (D_rows_put : DefX P w K mg base 4 "_rows_put" ["tables", "content", "deed"] (spPart K CT "put" rPut noPut)) (D_rows_dropped : DefX P w K mg base 5 "_rows_dropped" ["tables", "content", "deed"] (spPart K CN "drop" rDrop noRow'))
    (D_cells_set : DefX P w K mg base 5 "_cells_set" ["tables", "content", "deed"] (spPart K CN "set" rSet noRow')) (D_rows_swept : DefX P w K mg base 4 "_rows_swept" ["tables", "content", "deed"] (spPart K CN "sweep" rSweep noNo))
    (D_cells_shifted : DefX P w K mg base 4 "_cells_shifted" ["tables", "content", "deed"] (spPart K CN "shift" rShift noNo)) : FnOk P w K mg base (L2.CX P w) 6 f fd ["tables", "content", "deed"] (spOwn K CN CT) := by
  refine F.okX sc_own_part (fun vs H Q E h => ?_) (fun cdv A outer sh H vs Q E hr h => ?_)
  · obtain ⟨tp, ts, v, u, o, i, r, b, ct, dd, rs, rfl, _⟩ := h
    rfl
  obtain ⟨tp, ts, v, u, o, i, r, b, ct, dd, rs, rfl, hT, hd, hA, okd, hu', yes, noR, taken⟩ := h
  have nd := sc_own_part.nd
  refine ⟨_, (pss_cons (ps_set (i := 3) nd rfl (Or.inl rfl) (pe_ix ix_seq (pv 2) pe_int (fun _ _ => rfl)))
      (pss_cons (ps_if (pt_cmpR op_eq (pv 3) pe_str (nomark _))
        (pss_one (ps_ret (pe_tup (pa_cons (pe_lst pa_nil) (pa_cons (pe_lst pa_nil) (pa_cons (pe_ownX D_rows_put hr (takes_of rfl rfl rfl rfl) (pa_cons (pv 0) (pa_cons (pv 1) (pa_cons (pv 2) pa_nil)))) pa_nil))))))
        pss_nil)
      (pss_cons (ps_if (pt_cmpR op_eq (pv 3) pe_str (nomark _))
        (pss_one (ps_ret (pe_tup (pa_cons (pe_ownX D_rows_dropped hr (takes_of rfl rfl rfl rfl) (pa_cons (pv 0) (pa_cons (pv 1) (pa_cons (pv 2) pa_nil)))) (pa_cons (pe_lst pa_nil) (pa_cons (pe_lst pa_nil) pa_nil))))))
        pss_nil)
      (pss_cons (ps_if (pt_cmpR op_eq (pv 3) pe_str (nomark _))
        (pss_one (ps_ret (pe_tup (pa_cons (pe_lst pa_nil) (pa_cons (pe_ownX D_cells_set hr (takes_of rfl rfl rfl rfl) (pa_cons (pv 0) (pa_cons (pv 1) (pa_cons (pv 2) pa_nil)))) (pa_cons (pe_lst pa_nil) pa_nil))))))
        pss_nil)
      (pss_cons (ps_if (pt_cmpR op_eq (pv 3) pe_str (nomark _))
        (pss_one (ps_ret (pe_tup (pa_cons (pe_ownX D_rows_swept hr (takes_of rfl rfl rfl rfl) (pa_cons (pv 0) (pa_cons (pv 1) (pa_cons (pv 2) pa_nil)))) (pa_cons (pe_lst pa_nil) (pa_cons (pe_lst pa_nil) pa_nil))))))
        pss_nil)
      (pss_one (ps_ret (pe_tup (pa_cons (pe_lst pa_nil) (pa_cons (pe_ownX D_cells_shifted hr (takes_of rfl rfl rfl rfl) (pa_cons (pv 0) (pa_cons (pv 1) (pa_cons (pv 2) pa_nil)))) (pa_cons (pe_lst pa_nil) pa_nil))))))))))), ?_⟩
  obtain ⟨q, xs, rfl, g1, g0⟩ := deed0 hu'
  refine ⟨.ref q, rfl, ixB (i := 0) g1 g0 ?_⟩
  -- a list of its own, then two empty ones
  have first : ∀ (G : List PyData), toldP K Q G [] [] H → toldL K (fun x H1 => ∀ b, H1 b = none → ∀ c, upd H1 b (.lst []) c = none → ∀ p, upd (upd H1 b (.lst [])) c (.lst []) p = none → Q (.ref p) (upd (upd (upd H1 b (.lst [])) c (.lst [])) p (.tup [x, .ref b, .ref c]))) G H := fun G tp D us H1 s1 n0 e0 hg b nb c nc p np => by
    have s2 := s1.trans (same_upd (o := .lst []) nb)
    have s3 := s2.trans (same_upd (o := .lst []) nc)
    have s4 := s3.trans (same_upd (o := .tup [.ref D, .ref b, .ref c]) np)
    have bc : b ≠ c := ne_of_none upd_same nc
    have k3 := (same_upd (o := .lst []) nb).trans ((same_upd (o := .lst []) nc).trans (same_upd (o := .tup [.ref D, .ref b, .ref c]) np))
    exact tp p D b c us [] [] _ s4 (Same.free s3 np) n0 (Same.free s1 nb) (Same.free s2 nc) upd_same (k3 _ _ e0) (((same_upd (o := .lst []) nc).trans (same_upd (o := .tup [.ref D, .ref b, .ref c]) np)) _ _ upd_same) ((same_upd (o := .tup [.ref D, .ref b, .ref c]) np) _ _ upd_same) (dpAll_same k3 hg) .nil .nil
  have second : ∀ (G : List PyData) (a : Addr), H a = none → toldP K Q [] G [] H → toldL K (fun x H1 => ∀ c, H1 c = none → ∀ p, upd H1 c (.lst []) p = none → Q (.ref p) (upd (upd H1 c (.lst [])) p (.tup [.ref a, x, .ref c]))) G (upd H a (.lst [])) := fun G a na tp D us H1 s1 n0 e0 hg c nc p np => by
    have s1' := (same_upd (o := .lst []) na).trans s1
    have k2 := (same_upd (o := .lst []) nc).trans (same_upd (o := .tup [.ref a, .ref D, .ref c]) np)
    exact tp p a D c [] us [] _ (s1'.trans k2) (Same.free (s1'.trans (same_upd nc)) np) na (Same.free (same_upd na) n0) (Same.free s1' nc) upd_same (k2 _ _ (s1 _ _ upd_same)) (k2 _ _ e0) ((same_upd (o := .tup [.ref a, .ref D, .ref c]) np) _ _ upd_same) .nil (dpAll_same k2 hg) .nil
  have third : ∀ (G : List PyData) (a b : Addr), H a = none → upd H a (.lst []) b = none → toldP K Q [] [] G H → toldL K (fun x H1 => ∀ p, H1 p = none → Q (.ref p) (upd H1 p (.tup [.ref a, .ref b, x]))) G (upd (upd H a (.lst [])) b (.lst [])) := fun G a b na nb tp D us H1 s1 n0 e0 hg p np => by
    have s0 := (same_upd (o := .lst []) na).trans (same_upd (o := .lst []) nb)
    have s1' := s0.trans s1
    have k1 := same_upd (o := .tup [.ref a, .ref b, .ref D]) np
    exact tp p a b D [] [] us _ (s1'.trans k1) (Same.free s1' np) na (Same.free (same_upd na) nb) (Same.free s0 n0) upd_same (k1 _ _ (s1 _ _ ((same_upd (o := .lst []) nb) _ _ upd_same))) (k1 _ _ (s1 _ _ upd_same)) (k1 _ _ e0) .nil .nil (dpAll_same k1 hg)
  cases dd with
  | put t row =>
    refine ⟨.str "put", rfl, rfl, _, rfl, ite2 (fun _ => ?_) (fun e => absurd (decide_eq_true rfl) e)⟩
    refine ⟨Nat.zero_le _, fun a na => ⟨Nat.zero_le _, fun b' nb' => ?_⟩⟩
    have s0 := (same_upd (o := .lst []) na).trans (same_upd (o := .lst []) nb')
    refine ⟨.ref tp, rfl, v, rfl, .ref q, rfl, tp, ts, v, .ref q, o, i, r, b, ct, .put t row, rs, rfl, hT.same s0, dp_same s0 hd, hA, okd, dp_same s0 hu', rfl, fun hn => ?_, fun k hk d H' s n => ?_⟩
    · have hk : ¬ keyW row ∈ rs.map keyW := fun z => by
        have : (if keyW row ∈ rs.map keyW then some (keyW row) else none) = none := hn
        rw [if_pos z] at this; cases this
      intro D us H1 s1 n0 e0 hg
      exact ⟨(by show 3 ≤ sizeLine; decide), fun p np => third _ a b' na nb' (yes _ _ _ (show (if keyW row ∈ rs.map keyW then OwnR.taken t (keyW row) else _) = _ by rw [if_neg hk]; rfl)) D us H1 s1 n0 e0 hg p np⟩
    · have hk2 : (if keyW row ∈ rs.map keyW then some (keyW row) else none) = some k := hk
      by_cases z : keyW row ∈ rs.map keyW
      · rw [if_pos z] at hk2
        cases hk2
        exact taken t _ (show (if keyW row ∈ rs.map keyW then OwnR.taken t (keyW row) else _) = _ by rw [if_pos z]) d H' (s0.trans s) n
      · rw [if_neg z] at hk2; cases hk2
  | drop t k =>
    refine ⟨.str "drop", rfl, rfl, _, rfl, ite2 (fun e => absurd (V.str.inj (of_decide_eq_true e)) (by decide)) (fun _ => ?_)⟩
    refine ⟨.str "drop", rfl, rfl, _, rfl, ite2 (fun _ => ?_) (fun e => absurd (decide_eq_true rfl) e)⟩
    refine ⟨.ref tp, rfl, v, rfl, .ref q, rfl, tp, ts, v, .ref q, o, i, r, b, ct, .drop t k, rs, rfl, hT, hd, hA, okd, hu', rfl, fun hn => ?_, fun k2 hk d H' s n => ?_⟩
    · have hk : k ∈ rs.map keyW := by
        have h2 : (if k ∈ rs.map keyW then none else some k) = none := hn
        by_cases z : k ∈ rs.map keyW
        · exact z
        · rw [if_neg z] at h2; cases h2
      intro D us H1 s1 n0 e0 hg
      exact ⟨Nat.zero_le _, fun b' nb' => ⟨Nat.zero_le _, fun c nc => ⟨(by show 3 ≤ sizeLine; decide), fun p np => first _ (yes _ _ _ (show (if k ∈ rs.map keyW then _ else OwnR.norow t k) = _ by rw [if_pos hk]; rfl)) D us H1 s1 n0 e0 hg b' nb' c nc p np⟩⟩⟩
    · have hk2 : (if k ∈ rs.map keyW then none else some k) = some k2 := hk
      by_cases z : k ∈ rs.map keyW
      · rw [if_pos z] at hk2; cases hk2
      · rw [if_neg z] at hk2
        cases hk2
        exact noR t _ (show (if k ∈ rs.map keyW then _ else OwnR.norow t k) = _ by rw [if_neg z]) d H' s n
  | sweep t col wo =>
    refine ⟨.str "sweep", rfl, rfl, _, rfl, ite2 (fun e => absurd (V.str.inj (of_decide_eq_true e)) (by decide)) (fun _ => ?_)⟩
    refine ⟨.str "sweep", rfl, rfl, _, rfl, ite2 (fun e => absurd (V.str.inj (of_decide_eq_true e)) (by decide)) (fun _ => ?_)⟩
    refine ⟨.str "sweep", rfl, rfl, _, rfl, ite2 (fun e => absurd (V.str.inj (of_decide_eq_true e)) (by decide)) (fun _ => ?_)⟩
    refine ⟨.str "sweep", rfl, rfl, _, rfl, ite2 (fun _ => ?_) (fun e => absurd (decide_eq_true rfl) e)⟩
    refine ⟨.ref tp, rfl, v, rfl, .ref q, rfl, tp, ts, v, .ref q, o, i, r, b, ct, .sweep t col wo, rs, rfl, hT, hd, hA, okd, hu', rfl, fun hn => ?_, fun k2 hk d H' s n => nomatch hk⟩
    intro D us H1 s1 n0 e0 hg
    exact ⟨Nat.zero_le _, fun b' nb' => ⟨Nat.zero_le _, fun c nc => ⟨(by show 3 ≤ sizeLine; decide), fun p np => first _ (yes _ _ _ rfl) D us H1 s1 n0 e0 hg b' nb' c nc p np⟩⟩⟩
  | shift t col y =>
    refine ⟨.str "shift", rfl, rfl, _, rfl, ite2 (fun e => absurd (V.str.inj (of_decide_eq_true e)) (by decide)) (fun _ => ?_)⟩
    refine ⟨.str "shift", rfl, rfl, _, rfl, ite2 (fun e => absurd (V.str.inj (of_decide_eq_true e)) (by decide)) (fun _ => ?_)⟩
    refine ⟨.str "shift", rfl, rfl, _, rfl, ite2 (fun e => absurd (V.str.inj (of_decide_eq_true e)) (by decide)) (fun _ => ?_)⟩
    refine ⟨.str "shift", rfl, rfl, _, rfl, ite2 (fun e => absurd (V.str.inj (of_decide_eq_true e)) (by decide)) (fun _ => ?_)⟩
    refine ⟨Nat.zero_le _, fun a na => ?_⟩
    have s0 := same_upd (o := .lst []) na
    refine ⟨.ref tp, rfl, v, rfl, .ref q, rfl, tp, ts, v, .ref q, o, i, r, b, ct, .shift t col y, rs, rfl, hT.same s0, dp_same s0 hd, hA, okd, dp_same s0 hu', rfl, fun hn => ?_, fun k2 hk d H' s n => nomatch hk⟩
    intro D us H1 s1 n0 e0 hg
    exact ⟨Nat.zero_le _, fun c nc => ⟨(by show 3 ≤ sizeLine; decide), fun p np => second _ a na (yes _ _ _ rfl) D us H1 s1 n0 e0 hg c nc p np⟩⟩
  | set t k col wo =>
    refine ⟨.str "set", rfl, rfl, _, rfl, ite2 (fun e => absurd (V.str.inj (of_decide_eq_true e)) (by decide)) (fun _ => ?_)⟩
    refine ⟨.str "set", rfl, rfl, _, rfl, ite2 (fun e => absurd (V.str.inj (of_decide_eq_true e)) (by decide)) (fun _ => ?_)⟩
    refine ⟨.str "set", rfl, rfl, _, rfl, ite2 (fun _ => ?_) (fun e => absurd (decide_eq_true rfl) e)⟩
    refine ⟨Nat.zero_le _, fun a na => ?_⟩
    have s0 := same_upd (o := .lst []) na
    refine ⟨.ref tp, rfl, v, rfl, .ref q, rfl, tp, ts, v, .ref q, o, i, r, b, ct, .set t k col wo, rs, rfl, hT.same s0, dp_same s0 hd, hA, okd, dp_same s0 hu', rfl, fun hn => ?_, fun k2 hk d H' s n => ?_⟩
    · have hk : k ∈ rs.map keyW := by
        have h2 : (if k ∈ rs.map keyW then none else some k) = none := hn
        by_cases z : k ∈ rs.map keyW
        · exact z
        · rw [if_neg z] at h2; cases h2
      intro D us H1 s1 n0 e0 hg
      exact ⟨Nat.zero_le _, fun c nc => ⟨(by show 3 ≤ sizeLine; decide), fun p np => second _ a na (yes _ _ _ (show (if k ∈ rs.map keyW then _ else OwnR.norow t k) = _ by rw [if_pos hk]; rfl)) D us H1 s1 n0 e0 hg c nc p np⟩⟩
    · have hk2 : (if k ∈ rs.map keyW then none else some k) = some k2 := hk
      by_cases z : k ∈ rs.map keyW
      · rw [if_pos z] at hk2; cases hk2
      · rw [if_neg z] at hk2
        cases hk2
        exact noR t _ (show (if k ∈ rs.map keyW then _ else OwnR.norow t k) = _ by rw [if_neg z]) d H' (s0.trans s) n
end
end TT

set_option Elab.async false
set_option linter.all false
set_option maxRecDepth 100000
namespace TT
open PySem PySem.Spec PyProof.Rows L2
section
variable {P : Program} {w : World} {K : PySem.W.Frag} {mg : Str → Option Value} {base : Heap}
/-- of two of the same data -/
def spSame (n : Nat) (K : PySem.W.Frag) : Sp := fun vs H Q _ => ∃ (v u : V) (d : PyData), vs = [v, u] ∧ Dp K H v d ∧ Dp K H u d ∧ d.depth < n ∧ Nice (10 ^ 12) 900 d ∧ ∀ H', Same H H' → Q (.bl true) H'
abbrev s_law_same : Stmt := topS 34
abbrev N_law_same : List Str := ["found", "due", "one", "other"]
theorem sc_law_same : FnScope N_law_same ["found", "due"] (defScope s_law_same) := ⟨rfl, rfl, rfl, by decide +kernel, rfl, by decide +kernel, by decide +kernel⟩

set_option maxHeartbeats 4000000 in
theorem ok_same1 {n : Nat} {f : Addr} {fd : FuncData} (F : Fun K "_law_same" "_law_same" s_law_same f fd) (nb : NB mg) (D_law_same : Def P w K mg base (1 + n) "_law_same" ["found", "due"] (spSame n K)) : FnOk P w K mg base CX0 (1 + n + 1) f fd ["found", "due"] (spSame (n + 1) K) := by
  refine F.ok sc_law_same (fun vs H Q E h => ?_) (fun cdv A outer sh H vs Q E hr h => ?_)
  · obtain ⟨v, u, d, rfl, _⟩ := h
    rfl
  obtain ⟨v, u, d, rfl, hd, he, hdep, hn, q⟩ := h
  have nd := sc_law_same.nd
  refine ⟨_, (pss_cons (ps_if (pt_val (pe_callB call_isiT (by rfl) nb.b_isinstance (by decide +kernel) (pa_cons (pv 1) (pa_cons (pe_tup (pa_cons (pe_bltn (v := .ty "list") (by rfl) nb.b_list (by decide +kernel) rfl) (pa_cons (pe_bltn (v := .ty "tuple") (by rfl) nb.b_tuple (by decide +kernel) rfl) pa_nil))) pa_nil))))
        (pss_cons (ps_if (PW.pt (pw_or (pt_cmpR op_ne (pe_callB call_isi (by rfl) nb.b_isinstance (by decide +kernel) (pa_cons (pv 0) (pa_cons (pe_bltn (v := .ty "list") (by rfl) nb.b_list (by decide +kernel) rfl) pa_nil))) (pe_callB call_isi (by rfl) nb.b_isinstance (by decide +kernel) (pa_cons (pv 1) (pa_cons (pe_bltn (v := .ty "list") (by rfl) nb.b_list (by decide +kernel) rfl) pa_nil))) (nomark _)) (pw_or1 (pt_cmpR op_ne (pe_callB call_isi (by rfl) nb.b_isinstance (by decide +kernel) (pa_cons (pv 0) (pa_cons (pe_bltn (v := .ty "tuple") (by rfl) nb.b_tuple (by decide +kernel) rfl) pa_nil))) (pe_callB call_isi (by rfl) nb.b_isinstance (by decide +kernel) (pa_cons (pv 1) (pa_cons (pe_bltn (v := .ty "tuple") (by rfl) nb.b_tuple (by decide +kernel) rfl) pa_nil))) (nomark _)))))
          (pss_one (ps_ret pe_bl))
          pss_nil)
        (pss_one (ps_ret (pe_and (pe_cmpR op_eq (pe_callB call_len (by rfl) nb.b_len (by decide +kernel) (pa_cons (pv 0) pa_nil)) (pe_callB call_len (by rfl) nb.b_len (by decide +kernel) (pa_cons (pv 1) pa_nil)) (nomark _)) (pe_one (pe_callB (cr_all rfl) (by rfl) nb.b_all (by decide +kernel) (pa_cons (pe_lc (own := [("one", 2), ("other", 3)]) (g := (gTup _ 2 (gCons (gName 2) (gCons (gName 3) gNil)))) (tt := tYes) rfl nd (pi_zipB (by rfl) nb.b_zip (pa_cons (pv 0) (pa_cons (pv 1) pa_nil))) (blkOk_by (N := N_law_same) (sc := defScope s_law_same) (by decide +kernel)) (fun _ _ _ _ _ => (pg_tup rfl (pgs_cons (pg_name (i := 2) nd rfl (Or.inl rfl)) (pgs_cons (pg_name (i := 3) nd rfl (Or.inl rfl)) pgs_nil)))) (fun _ _ _ _ _ => pts_nil) (fun _ _ _ _ _ => (pe_own D_law_same hr (pa_cons (pv 2) (pa_cons (pv 3) pa_nil)) (by omega)))) pa_nil)))))))
        pss_nil)
      (pss_cons (ps_if (pt_cmpR op_isN (pv 1) pe_non (nomark _))
        (pss_one (ps_ret (pe_cmpR op_isN (pv 0) pe_non (nomark _))))
        pss_nil)
      (pss_cons (ps_if (pt_val (pe_callB call_isi (by rfl) nb.b_isinstance (by decide +kernel) (pa_cons (pv 1) (pa_cons (pe_bltn (v := .ty "bool") (by rfl) nb.b_bool (by decide +kernel) rfl) pa_nil))))
        (pss_one (ps_ret (pe_and (pe_callB call_isi (by rfl) nb.b_isinstance (by decide +kernel) (pa_cons (pv 0) (pa_cons (pe_bltn (v := .ty "bool") (by rfl) nb.b_bool (by decide +kernel) rfl) pa_nil))) (pe_one (pe_cmpR (op_eqD hr.units) (pv 0) (pv 1) (nomark _))))))
        pss_nil)
      (pss_cons (ps_if (pt_val (pe_callB call_isi (by rfl) nb.b_isinstance (by decide +kernel) (pa_cons (pv 1) (pa_cons (pe_bltn (v := .ty "str") (by rfl) nb.b_str (by decide +kernel) rfl) pa_nil))))
        (pss_one (ps_ret (pe_and (pe_callB call_isi (by rfl) nb.b_isinstance (by decide +kernel) (pa_cons (pv 0) (pa_cons (pe_bltn (v := .ty "str") (by rfl) nb.b_str (by decide +kernel) rfl) pa_nil))) (pe_one (pe_cmpR op_eq (pv 0) (pv 1) (nomark _))))))
        pss_nil)
      (pss_one (ps_ret (pe_and (pe_callB call_isi (by rfl) nb.b_isinstance (by decide +kernel) (pa_cons (pv 0) (pa_cons (pe_bltn (v := .ty "int") (by rfl) nb.b_int (by decide +kernel) rfl) pa_nil))) (pe_and (pe_not (pe_callB call_isi (by rfl) nb.b_isinstance (by decide +kernel) (pa_cons (pv 0) (pa_cons (pe_bltn (v := .ty "bool") (by rfl) nb.b_bool (by decide +kernel) rfl) pa_nil)))) (pe_one (pe_cmpR (op_eqD hr.units) (pv 0) (pv 1) (nomark _))))))))))), ?_⟩
  refine ⟨u, rfl, (by show 2 ≤ sizeLine; decide), fun tt ntt => ?_⟩
  have sm := same_upd (o := .tup [.ty "list", .ty "tuple"]) ntt
  refine ⟨u, tt, _, _, [.type "list", .type "tuple"], _, rfl, upd_same, .cons (.ty _) (.cons (.ty _) .nil), dp_ty (dp_same sm he), kit_lt d, _, rfl, ?_⟩
  show (if _ then _ else _)
  generalize upd H tt (.tup [.ty "list", .ty "tuple"]) = H1 at sm ⊢
  cases d with
  | list ds =>
    cases hd with
    | lst hS hA =>
    rename_i p xs
    cases he with
    | lst hS2 hA2 =>
    rename_i p2 ys
    have lx := dpAll_len hA
    have ly := dpAll_len hA2
    have l9 : ds.length ≤ 900 := hn.1
    refine iteT ?_
    refine ⟨.ref p, rfl, .ref p, .ty "list", _, _, _, rfl, .ty "list", dp_ty (.lst (sm.seq hS) (dpAll_same sm hA)), kit_l (.list ds), .ref p2, rfl, .ref p2, .ty "list", _, _, _, rfl, .ty "list", dp_ty (.lst (sm.seq hS2) (dpAll_same sm hA2)), kit_l (.list ds), rfl, _, rfl, ?_⟩
    rw [decide_eq_true rfl]
    refine iteF ?_
    refine ⟨.ref p, rfl, .ref p, .ty "tuple", _, _, _, rfl, .ty "tuple", dp_ty (.lst (sm.seq hS) (dpAll_same sm hA)), kit_t (.list ds), .ref p2, rfl, .ref p2, .ty "tuple", _, _, _, rfl, .ty "tuple", dp_ty (.lst (sm.seq hS2) (dpAll_same sm hA2)), kit_t (.list ds), rfl, _, rfl, ?_⟩
    rw [decide_eq_true rfl]
    refine iteF ?_
    refine ⟨.ref p, rfl, .ref p, xs.length, rfl, .inl ⟨xs, sm.seq hS, rfl⟩, .ref p2, rfl, .ref p2, xs.length, rfl, .inl ⟨ys, sm.seq hS2, by omega⟩, rfl, _, rfl, ?_⟩
    rw [decide_eq_true rfl]
    refine iteT ?_
    refine ⟨.ref p, rfl, .ref p2, rfl, false, false, p, p2, xs, ys, rfl, sm.seq hS, sm.seq hS2, fun D nD => ?_⟩
    refine lc_it (walk_zipB (xs := xs) (ys := ys) (n := xs.length) (by omega)) (PvM H1 D fun _ => .bl true) (pvm_start ..) (fun i H2 _ hP => ⟨(sm.trans (pvm_same hP nD)).seq hS, (sm.trans (pvm_same hP nD)).seq hS2⟩) (fun i x H2 H3 hi hP hY => ?_) (fun H2 hP => ?_)
    · obtain ⟨T, x1, y1, rfl, nT, rfl, h1, h2⟩ := hY
      obtain ⟨e1, k1, k2⟩ := dpAll_get i hA h1
      obtain ⟨e2, k3, k4⟩ := dpAll_get i hA2 h2
      rw [k1] at k3
      cases k3
      have s3 := sm.trans ((pvm_same hP nD).trans (same_upd (o := .tup [x1, y1]) nT))
      have hm := List.mem_of_getElem? k1
      refine ⟨T, _, rfl, .inl (.inl upd_same), rfl, x1, _, rfl, y1, _, rfl, rfl, ?_⟩
      refine ⟨rfl, ?_⟩
      unfold tYes
      dsimp only
      refine iteT ?_
      refine ⟨x1, rfl, y1, rfl, x1, y1, e1, rfl, dp_same s3 k2, dp_same s3 k4, ?_, niceAll_iff.mp hn.2 e1 hm, fun H4 s4 => pvm_step hP ((same_upd nT).trans s4) rfl (by omega)⟩
      have := depth_mem hm
      have hdep' : PyData.depthAll ds + 1 < n + 1 := hdep
      omega
    · refine ⟨D, (List.range xs.length).map fun _ => true, rfl, .inl (.inl ?_), ?_⟩
      · rw [hP.1, List.map_map]; rfl
      · have e : ((List.range xs.length).map fun _ => true).all id = true := List.all_eq_true.mpr fun b hb => by
          obtain ⟨_, _, rfl⟩ := List.mem_map.mp hb
          rfl
        rw [e]
        exact q _ (sm.trans (pvm_same hP nD))
  | tuple ds =>
    cases hd with
    | tup hS hA =>
    rename_i p xs
    cases he with
    | tup hS2 hA2 =>
    rename_i p2 ys
    have lx := dpAll_len hA
    have ly := dpAll_len hA2
    have l9 : ds.length ≤ 900 := hn.1
    refine iteT ?_
    refine ⟨.ref p, rfl, .ref p, .ty "list", _, _, _, rfl, .ty "list", dp_ty (.tup (sameT sm hS) (dpAll_same sm hA)), kit_l (.tuple ds), .ref p2, rfl, .ref p2, .ty "list", _, _, _, rfl, .ty "list", dp_ty (.tup (sameT sm hS2) (dpAll_same sm hA2)), kit_l (.tuple ds), rfl, _, rfl, ?_⟩
    rw [decide_eq_true rfl]
    refine iteF ?_
    refine ⟨.ref p, rfl, .ref p, .ty "tuple", _, _, _, rfl, .ty "tuple", dp_ty (.tup (sameT sm hS) (dpAll_same sm hA)), kit_t (.tuple ds), .ref p2, rfl, .ref p2, .ty "tuple", _, _, _, rfl, .ty "tuple", dp_ty (.tup (sameT sm hS2) (dpAll_same sm hA2)), kit_t (.tuple ds), rfl, _, rfl, ?_⟩
    rw [decide_eq_true rfl]
    refine iteF ?_
    refine ⟨.ref p, rfl, .ref p, xs.length, rfl, .inr ⟨xs, sameT sm hS, rfl⟩, .ref p2, rfl, .ref p2, xs.length, rfl, .inr ⟨ys, sameT sm hS2, by omega⟩, rfl, _, rfl, ?_⟩
    rw [decide_eq_true rfl]
    refine iteT ?_
    refine ⟨.ref p, rfl, .ref p2, rfl, true, true, p, p2, xs, ys, rfl, sameT sm hS, sameT sm hS2, fun D nD => ?_⟩
    refine lc_it (walk_zipB (xs := xs) (ys := ys) (n := xs.length) (by omega)) (PvM H1 D fun _ => .bl true) (pvm_start ..) (fun i H2 _ hP => ⟨sameT (sm.trans (pvm_same hP nD)) hS, sameT (sm.trans (pvm_same hP nD)) hS2⟩) (fun i x H2 H3 hi hP hY => ?_) (fun H2 hP => ?_)
    · obtain ⟨T, x1, y1, rfl, nT, rfl, h1, h2⟩ := hY
      obtain ⟨e1, k1, k2⟩ := dpAll_get i hA h1
      obtain ⟨e2, k3, k4⟩ := dpAll_get i hA2 h2
      rw [k1] at k3
      cases k3
      have s3 := sm.trans ((pvm_same hP nD).trans (same_upd (o := .tup [x1, y1]) nT))
      have hm := List.mem_of_getElem? k1
      refine ⟨T, _, rfl, .inl (.inl upd_same), rfl, x1, _, rfl, y1, _, rfl, rfl, ?_⟩
      refine ⟨rfl, ?_⟩
      unfold tYes
      dsimp only
      refine iteT ?_
      refine ⟨x1, rfl, y1, rfl, x1, y1, e1, rfl, dp_same s3 k2, dp_same s3 k4, ?_, niceAll_iff.mp hn.2 e1 hm, fun H4 s4 => pvm_step hP ((same_upd nT).trans s4) rfl (by omega)⟩
      have := depth_mem hm
      have hdep' : PyData.depthAll ds + 1 < n + 1 := hdep
      omega
    · refine ⟨D, (List.range xs.length).map fun _ => true, rfl, .inl (.inl ?_), ?_⟩
      · rw [hP.1, List.map_map]; rfl
      · have e : ((List.range xs.length).map fun _ => true).all id = true := List.all_eq_true.mpr fun b hb => by
          obtain ⟨_, _, rfl⟩ := List.mem_map.mp hb
          rfl
        rw [e]
        exact q _ (sm.trans (pvm_same hP nD))
  | dict _ => exact hn.elim
  | none =>
    cases hd
    cases he
    refine iteF ?_
    refine ⟨.non, rfl, rfl, _, rfl, ?_⟩
    rw [decide_eq_true rfl]
    refine iteT ⟨.non, rfl, rfl, ?_⟩
    rw [decide_eq_true rfl]
    exact q _ sm
  | bool b =>
    cases hd
    cases he
    refine iteF ⟨.bl b, rfl, rfl, _, rfl, iteF ?_⟩
    refine ⟨.bl b, rfl, .bl b, .ty "bool", _, _, _, rfl, .ty "bool", dp_ty (.bl b), kit_b (.bool b), _, rfl, iteT ?_⟩
    refine ⟨.bl b, rfl, .bl b, .ty "bool", _, _, _, rfl, .ty "bool", dp_ty (.bl b), kit_b (.bool b), _, rfl, iteT ?_⟩
    refine ⟨.bl b, rfl, .bl b, rfl, .bool b, .bool b, .bl b, .bl b, rfl, rfl, ?_⟩
    have e : PyData.eqv (.bool b) (.bool b) = true := by show (b == b) = true; simp
    rw [e]
    exact q _ sm
  | str z =>
    cases hd
    cases he
    refine iteF ⟨.str z, rfl, rfl, _, rfl, iteF ?_⟩
    refine ⟨.str z, rfl, .str z, .ty "bool", _, _, _, rfl, .ty "bool", dp_ty (.str z), kit_b (.str z), _, rfl, iteF ?_⟩
    refine ⟨.str z, rfl, .str z, .ty "str", _, _, _, rfl, .ty "str", dp_ty (.str z), kit_s (.str z), _, rfl, iteT ?_⟩
    refine ⟨.str z, rfl, .str z, .ty "str", _, _, _, rfl, .ty "str", dp_ty (.str z), kit_s (.str z), _, rfl, iteT ?_⟩
    refine ⟨.str z, rfl, .str z, rfl, rfl, ?_⟩
    rw [decide_eq_true rfl]
    exact q _ sm
  | int i =>
    cases hd
    cases he
    refine iteF ⟨.int i, rfl, rfl, _, rfl, iteF ?_⟩
    refine ⟨.int i, rfl, .int i, .ty "bool", _, _, _, rfl, .ty "bool", dp_ty (.int i), kit_b (.int i), _, rfl, iteF ?_⟩
    refine ⟨.int i, rfl, .int i, .ty "str", _, _, _, rfl, .ty "str", dp_ty (.int i), kit_s (.int i), _, rfl, iteF ?_⟩
    refine ⟨.int i, rfl, .int i, .ty "int", _, _, _, rfl, .ty "int", dp_ty (.int i), kit_i (.int i), _, rfl, iteT ?_⟩
    refine ⟨.int i, rfl, .int i, .ty "bool", _, _, _, rfl, .ty "bool", dp_ty (.int i), kit_b (.int i), _, rfl, _, rfl, iteT ?_⟩
    refine ⟨.int i, rfl, .int i, rfl, .int i, .int i, .int i, .int i, rfl, rfl, ?_⟩
    have e : PyData.eqv (.int i) (.int i) = true := by show (i == i) = true; simp
    rw [e]
    exact q _ sm
theorem ok_same {f : Addr} {fd : FuncData} (F : Fun K "_law_same" "_law_same" s_law_same f fd) (nb : NB mg) (hm : mg "_law_same" = some (.ref f)) (hb : Binds K fd ["found", "due"] []) : ∀ n : Nat, FnOk P w K mg base CX0 (1 + n) f fd ["found", "due"] (spSame n K)
  | 0 => ⟨fun vs H Q E h => by obtain ⟨v, u, d, rfl, _⟩ := h; rfl, fun _ _ _ _ _ _ _ _ _ _ _ _ _ h => by
      obtain ⟨v, u, d, rfl, _, _, hd, _⟩ := h
      exact absurd hd (Nat.not_lt_zero _)⟩
  | n + 1 => ok_same1 F nb (.mk hm F.kp hb (ok_same F nb hm hb n))
def spCopied (K : PySem.W.Frag) : Sp := fun vs H Q _ => ∃ (cp : Addr) (ct : List (List Rw)), vs = [.ref cp] ∧ Dp K H (.ref cp) (contD ct) ∧ ct.length ≤ 900 ∧ ∀ (D : Addr) (H' : Hp), Same H H' → Dp K H' (.ref D) (contD ct) → Q (.ref D) H'
abbrev s_law_copied : Stmt := topS 33
abbrev N_law_copied : List Str := ["content", "rows"]
theorem sc_law_copied : FnScope N_law_copied ["content"] (defScope s_law_copied) := ⟨rfl, rfl, rfl, by decide +kernel, rfl, by decide +kernel, by decide +kernel⟩

theorem ok_copied {f : Addr} {fd : FuncData} (F : Fun K "_law_copied" "_law_copied" s_law_copied f fd) (nb : NB mg) : FnOk P w K mg base CX0 1 f fd ["content"] (spCopied K) := by
  refine F.ok sc_law_copied (fun vs H Q E h => ?_) (fun cdv A outer sh H vs Q E hr h => ?_)
  · obtain ⟨cp, ct, rfl, _⟩ := h
    rfl
  obtain ⟨cp, ct, rfl, hc, few, q⟩ := h
  have nd := sc_law_copied.nd
  refine ⟨_, (pss_one (ps_ret (pe_lc (own := [("rows", 1)]) (g := (gName 1)) (tt := tYes) rfl nd (pi_list (pv 0)) (blkOk_by (N := N_law_copied) (sc := defScope s_law_copied) (by decide +kernel)) (fun _ _ _ _ _ => (pg_name (i := 1) nd rfl (Or.inl rfl))) (fun _ _ _ _ _ => pts_nil) (fun _ _ _ _ _ => (pe_callTy (T := "list") (r := rLstQ K) call_list_of (by rfl) nb.b_list (by decide +kernel) (pa_cons (pv 1) pa_nil)))))), ?_⟩
  obtain ⟨p, xs, e, hS, hA, lx⟩ := cont_dp hc
  cases e
  refine ⟨.ref cp, rfl, cp, rfl, ⟨xs, hS⟩, fun D nD => ?_⟩
  refine lc_it (walk_list (xs := xs)) (fun i H' => ∃ us, Grow K [] H' D us ((ct.take i).map rowsD) ∧ Kept [D] H H') ⟨[], .start, Kept.upd_new nD⟩ (fun i H' _ hP => let ⟨_, _, kk⟩ := hP; (kept_same kk nD).seq hS) (fun i x H' H'' hi hP hY => ?_) (fun H2 hP => ?_)
  · obtain ⟨rfl, hx⟩ := hY
    obtain ⟨us, gr, kk⟩ := hP
    obtain ⟨rs, h1, h2⟩ := cont_at hA hx
    obtain ⟨rp, ys, rfl, h3, h4, _⟩ := rows_dp h2
    have et : (ct.take (i + 1)).map rowsD = (ct.take i).map rowsD ++ [rowsD rs] := by
      rw [List.take_add_one, h1, List.map_append]; rfl
    have lu : us.length = i := by rw [gr.len, List.length_map, List.length_take]; have := (List.getElem?_eq_some_iff.mp h1).1; omega
    refine ⟨rfl, ?_⟩
    unfold tYes
    dsimp only
    refine iteT ?_
    refine ⟨.ref rp, rfl, rp, ys, rfl, .inl ((kept_same kk nD).seq h3), fun l nl => ?_⟩
    have nDl : D ≠ l := ne_of_none gr.at' nl
    have g2 := gr.kept (Kept.upd_new (o := .lst ys) nl) List.not_mem_nil
    refine ⟨us, g2.at', small1000 (by omega), us ++ [.ref l], ?_, kk.trans ((Kept.upd_new nl).trans (Kept.upd_in (List.mem_cons_self ..)))⟩
    rw [et]
    have sm : Same H (msk [D] (upd H'' l (.lst ys))) := kept_msk (kk.trans (Kept.upd_new nl)) nD
    exact g2.put (.lst (.inl (.inl (msk_at upd_same (by simp [nDl.symm])))) (dpAll_same sm h4))
  · obtain ⟨us, gr, kk⟩ := hP
    rw [lx, List.take_length] at gr
    exact q D H2 (kept_same kk nD) (gr.done List.not_mem_nil |> dp_same (msk_sub _ _))
end
end TT

set_option Elab.async false
set_option linter.all false
set_option maxRecDepth 100000
namespace TT
open PySem PySem.Spec PyProof.Rows L2
/-- a comprehension with a value for each -/
theorem lc_map {J : It} {n : Nat} {G : Hp → Prop} {xs : List V} (w : Walk J n G (YAt xs)) {ys : List V} (hn : ys.length = n) (few : n ≤ 900)
    {g : TG} {te : TE} {vs : List Nat} {σ : L2.St} {H1 : Hp} {D : Addr} {Qd : Hp → Prop} (nD : H1 D = none) (hG : ∀ H', Kept [D] H1 H' → G H')
    (step : ∀ (i : Nat) (x : V) (H' : Hp) (C : V → Hp → Prop) (N : Hp → Prop), xs[i]? = some x → Same H1 H' → (∀ y, ys[i]? = some y → C y H') →
      g x (wipe σ vs) H' fun σ2 H2 => wipe σ2 vs = wipe σ vs ∧ (if true = true then te σ2 H2 C else N H2))
    (fin : ∀ H2, H2 D = some (.lst ys) → Same H1 H2 → Qd H2) :
    ∃ W : Nat → Nat → Hp → Prop, (∃ m, W 0 m (upd H1 D (.lst []))) ∧ ∀ i m H, W i m H →
      (J.stop i H ∧ Qd H) ∨ (J.go i H ∧ ∃ Nx : Hp → Prop, (∀ H', Nx H' → ∃ m', m' < m ∧ W (i + 1) m' H') ∧ ∀ x H', J.yld i H x H' → g x (wipe σ vs) H' fun σ2 H2 => wipe σ2 vs = wipe σ vs ∧ tYes σ2 H2 fun b H3 =>
        if b = true then te σ2 H3 fun y H4 => ∃ acc, H4 D = some (.lst acc) ∧ acc.length < sizeLine ∧ Nx (upd H4 D (.lst (acc ++ [y]))) else Nx H3) := by
  refine lc_it w (fun i H' => H' D = some (.lst (ys.take i)) ∧ Kept [D] H1 H') ⟨upd_same, Kept.upd_new nD⟩ (fun i H' _ hP => hG H' hP.2) (fun i x H' H'' hi hP hY => ?_) (fun H2 hP => ?_)
  · obtain ⟨rfl, hx⟩ := hY
    obtain ⟨eD, kk⟩ := hP
    refine step i x H'' _ (fun H3 => H3 D = some (.lst (ys.take (i + 1))) ∧ Kept [D] H1 H3) hx (kept_same kk nD) (fun y hy => ?_)
    refine ⟨_, eD, by rw [List.length_take]; exact small1000 (by omega), ?_, kk.trans (Kept.upd_in (List.mem_cons_self ..))⟩
    rw [upd_same, List.take_add_one, hy]; rfl
  · obtain ⟨eD, kk⟩ := hP
    rw [← hn, List.take_length] at eD
    exact fin H2 eD (kept_same kk nD)
def resD : OwnR → PyData
  | .told g c r => .tuple [.list g, .list c, .list r]
  | .norow t k => .tuple [.str "norow", .str t, .int k]
  | .taken t k => .tuple [.str "taken", .str t, .int k]
theorem deedF_eq (dd : Deed) : deedF true dd = deedD dd := by cases dd <;> rfl
theorem flat_ints (l : List Int) : (l.map V.int).all flatV = true := List.all_eq_true.mpr fun x hx => by
  obtain ⟨_, _, rfl⟩ := List.mem_map.mp hx
  rfl
theorem inV_ints (z : Int) (zs : List Int) : inV (.int z) (zs.map V.int) = decide (z ∈ zs) := by
  induction zs with
  | nil => rfl
  | cons y r ih =>
    show (eqV (.int y) (.int z) || inV (.int z) (r.map V.int)) = _
    rw [ih]
    show ((y == z) || decide (z ∈ r)) = _
    by_cases h : y = z
    · subst h; simp
    · have h' : ¬ z = y := fun e => h e.symm
      simp [h, h']
theorem atI_neg {α : Type} {xs : List α} {i : Int} {n j : Nat} {v : α} (h : xs.length = n) (e : ixN n i = some j) (hv : xs[j]? = some v) : atI xs i = some v := by
  unfold atI
  rw [h, e]
  exact hv
theorem dp_wV {K : PySem.W.Frag} {H : Hp} {v : V} {o : Option Int} (h : Dp K H v (wD o)) : v = wV o := by cases o <;> cases h <;> rfl
theorem dp3 {K : PySem.W.Frag} {H : Hp} {r a b c : Addr} {u1 u2 u3 : List V} {g e l : List PyData} (er : H r = some (.tup [.ref a, .ref b, .ref c])) (ea : H a = some (.lst u1)) (eb : H b = some (.lst u2)) (ec : H c = some (.lst u3)) (h1 : DpAll K H u1 g) (h2 : DpAll K H u2 e) (h3 : DpAll K H u3 l) : Dp K H (.ref r) (.tuple [.list g, .list e, .list l]) :=
  .tup (.inl (.inl er)) (.cons (.lst (.inl (.inl ea)) h1) (.cons (.lst (.inl (.inl eb)) h2) (.cons (.lst (.inl (.inl ec)) h3) .nil)))
section
variable {P : Program} {w : World} {K : PySem.W.Frag} {mg : Str → Option Value} {base : Heap}
theorem deed01 {H : Hp} {u : V} {dd : Deed} (h : Dp K H u (deedF true dd)) : ∃ q xs, u = .ref q ∧ SqT K H q xs ∧ xs[0]? = some (.str (wordOf dd)) ∧ xs[1]? = some (.str (tabOf dd)) ∧ ∀ ds, deedF true dd = .tuple ds → DpAll K H xs ds := by
  have key : ∀ {a b : Str} {l : List PyData}, deedF true dd = seqD true (.str a :: .str b :: l) → a = wordOf dd → b = tabOf dd → ∃ q xs, u = .ref q ∧ SqT K H q xs ∧ xs[0]? = some (.str (wordOf dd)) ∧ xs[1]? = some (.str (tabOf dd)) ∧ ∀ ds, deedF true dd = .tuple ds → DpAll K H xs ds := fun {a b l} e ea eb => by
    rw [e] at h
    obtain ⟨q, xs, rfl, g1, g2⟩ := seq_dp (b := true) h
    obtain ⟨x0, h0, d0⟩ := dpAll_at (i := 0) g2 rfl
    obtain ⟨x1, h1, d1⟩ := dpAll_at (i := 1) g2 rfl
    cases d0
    cases d1
    refine ⟨q, xs, rfl, g1, by rw [← ea]; exact h0, by rw [← eb]; exact h1, fun ds e2 => ?_⟩
    rw [e] at e2
    cases e2
    exact g2
  cases dd with
  | put _ _ => exact key rfl rfl rfl
  | drop _ _ => exact key rfl rfl rfl
  | sweep _ _ _ => exact key rfl rfl rfl
  | shift _ _ _ => exact key rfl rfl rfl
  | set _ _ _ _ => exact key rfl rfl rfl
def spDue (K : PySem.W.Frag) : Sp := fun vs H Q _ => ∃ (tp cp : Addr) (ts : List Tab) (u : V) (ct : List (List Rw)) (dd : Deed) (rs : List Rw), vs = [.ref tp, .ref cp, u] ∧ Tabs K H tp ts ∧ Dp K H (.ref cp) (contD ct) ∧ At ts ct (tabOf dd) rs ∧
  DeedOk ts dd ∧ Dp K H u (deedF true dd) ∧ ∀ (r : Addr) (H' : Hp), Same H H' → Dp K H' (.ref r) (resD (own (cns ts (tabOf dd)) rs dd)) → Q (.ref r) H'
abbrev s_law_due : Stmt := topS 35
abbrev N_law_due : List Str := ["tables", "content", "deed", "at", "rows", "names", "table", "keys", "taken", "column", "worth", "place", "cells", "row", "made"]
theorem sc_law_due : FnScope N_law_due ["tables", "content", "deed"] (defScope s_law_due) := ⟨rfl, rfl, rfl, by decide +kernel, rfl, by decide +kernel, by decide +kernel⟩

set_option maxHeartbeats 4000000 in
theorem ok_due {f : Addr} {fd : FuncData} (F : Fun K "_law_due" "_law_due" s_law_due f fd) : FnOk P w K mg base CX0 1 f fd ["tables", "content", "deed"] (spDue K) := by
  refine F.ok sc_law_due (fun vs H Q E h => ?_) (fun cdv A outer sh H vs Q E hr h => ?_)
  · obtain ⟨tp, cp, ts, u, ct, dd, rs, rfl, _⟩ := h
    rfl
  obtain ⟨tp, cp, ts, u, ct, dd, rs, rfl, hT, hc, hA, okd, hu', q⟩ := h
  have nd := sc_law_due.nd
  refine ⟨_, (pss_cons (ps_set (i := 3) nd rfl (Or.inl rfl) (pe_bm PySem.F.plainAttrs_list PySem.F.slot_list_index PySem.F.type_list_index mt_index (pe_lc (own := [("table", 6)]) (g := (gName 6)) (tt := tYes) rfl nd (pi_tup (pv 0)) (blkOk_by (N := N_law_due) (sc := defScope s_law_due) (by decide +kernel)) (fun _ _ _ _ _ => (pg_name (i := 6) nd rfl (Or.inl rfl))) (fun _ _ _ _ _ => pts_nil) (fun _ _ _ _ _ => (pe_ix (r := rIxT K) ix_tup (pv 6) pe_int (fun _ _ => rfl)))) (pa_cons (pe_ix ix_tup (pv 2) pe_int (fun _ _ => rfl)) pa_nil)))
      (pss_cons (ps_par (i := 4) (j := 5) (by rfl) nd rfl rfl (by decide) rfl rfl (pa_cons (pe_ix ix_list (pv 1) (pv 3) (fun _ _ => rfl)) (pa_cons (pe_lc (own := [("column", 9)]) (g := (gName 9)) (tt := tYes) rfl nd (pi_tup (pe_ix ix_seq (pe_ix ix_tup (pv 0) (pv 3) (fun _ _ => rfl)) pe_int (fun _ _ => rfl))) (blkOk_by (N := N_law_due) (sc := defScope s_law_due) (by decide +kernel)) (fun _ _ _ _ _ => (pg_name (i := 9) nd rfl (Or.inl rfl))) (fun _ _ _ _ _ => pts_nil) (fun _ _ _ _ _ => (pe_ix (r := rIxT K) ix_tup (pv 9) pe_int (fun _ _ => rfl)))) pa_nil)) (by rfl))
      (pss_cons (ps_asg (pe_tup (pa_cons (pe_ix ix_tup (pv 2) pe_int (fun _ _ => rfl)) (pa_cons (pe_lc (own := [("row", 13)]) (g := (gName 13)) (tt := tYes) rfl nd (pi_list (pe_ix ix_list (pv 1) (pv 3) (fun _ _ => rfl))) (blkOk_by (N := N_law_due) (sc := defScope s_law_due) (by decide +kernel)) (fun _ _ _ _ _ => (pg_name (i := 13) nd rfl (Or.inl rfl))) (fun _ _ _ _ _ => pts_nil) (fun _ _ _ _ _ => (pe_ix (r := rIxT K) ix_tup (pv 13) pe_int (fun _ _ => rfl)))) pa_nil))) (pg_tup rfl (pgs_cons (pg_name (i := 6) nd rfl (Or.inr rfl)) (pgs_cons (pg_name (i := 7) nd rfl (Or.inl rfl)) pgs_nil))))
      (pss_cons (ps_if (pt_cmpR op_eq (pe_ix ix_tup (pv 2) pe_int (fun _ _ => rfl)) pe_str (nomark _))
        (pss_cons (ps_set (i := 8) nd rfl (Or.inl rfl) (pe_cmpR op_in_seq (pe_ix ix_seq (pe_ix ix_tup (pv 2) pe_int (fun _ _ => rfl)) pe_int (fun _ _ => rfl)) (pv 7) (by rfl)))
        (pss_one (ps_ret (pe_ifExp (pt_val (pv 8)) (pe_tup (pa_cons pe_str (pa_cons (pv 6) (pa_cons (pe_ix ix_seq (pe_ix ix_tup (pv 2) pe_int (fun _ _ => rfl)) pe_int (fun _ _ => rfl)) pa_nil)))) (pe_tup (pa_cons (pe_lst pa_nil) (pa_cons (pe_lst pa_nil) (pa_cons (pe_lst (pa_cons (pe_tup (pa_cons (pv 6) (pa_cons (pe_ix ix_tup (pv 2) pe_int (fun _ _ => rfl)) pa_nil))) pa_nil)) pa_nil))))))))
        pss_nil)
      (pss_cons (ps_if (PW.pt (pw_and (pt_cmpR op_in_seq (pe_ix ix_tup (pv 2) pe_int (fun _ _ => rfl)) (pe_tup (pa_cons pe_str (pa_cons pe_str pa_nil))) (by rfl)) (pw_and1 (pt_cmpR op_notIn_seq (pe_ix ix_tup (pv 2) pe_int (fun _ _ => rfl)) (pv 7) (by rfl)))))
        (pss_one (ps_ret (pe_tup (pa_cons pe_str (pa_cons (pv 6) (pa_cons (pe_ix ix_tup (pv 2) pe_int (fun _ _ => rfl)) pa_nil))))))
        pss_nil)
      (pss_cons (ps_if (pt_cmpR op_eq (pe_ix ix_tup (pv 2) pe_int (fun _ _ => rfl)) pe_str (nomark _))
        (pss_one (ps_ret (pe_tup (pa_cons (pe_lst (pa_cons (pe_tup (pa_cons (pv 6) (pa_cons (pe_ix ix_tup (pv 2) pe_int (fun _ _ => rfl)) pa_nil))) pa_nil)) (pa_cons (pe_lst pa_nil) (pa_cons (pe_lst pa_nil) pa_nil))))))
        pss_nil)
      (pss_cons (ps_asg (pe_tup (pa_cons (pe_ix ix_tup (pv 2) (pe_un un_neg pe_int) (fun _ _ => rfl)) (pa_cons (pe_ix ix_tup (pv 2) (pe_un un_neg pe_int) (fun _ _ => rfl)) pa_nil))) (pg_tup rfl (pgs_cons (pg_name (i := 9) nd rfl (Or.inl rfl)) (pgs_cons (pg_name (i := 10) nd rfl (Or.inr rfl)) pgs_nil))))
      (pss_cons (ps_set (i := 11) nd rfl (Or.inr rfl) (pe_bm PySem.F.plainAttrs_list PySem.F.slot_list_index PySem.F.type_list_index mt_index (pv 5) (pa_cons (pv 9) pa_nil)))
      (pss_cons (ps_if (pt_cmpR op_eq (pe_ix ix_tup (pv 2) pe_int (fun _ _ => rfl)) pe_str (nomark _))
        (pss_one (ps_ret (pe_tup (pa_cons (pe_lc (own := [("row", 13)]) (g := (gName 13)) rfl nd (pi_list (pv 4)) (blkOk_by (N := N_law_due) (sc := defScope s_law_due) (by decide +kernel)) (fun _ _ _ _ _ => (pg_name (i := 13) nd rfl (Or.inl rfl))) (fun _ _ _ _ _ => (pts_one (pt_cmpR (r := rEqD K) (op_eqD hr.units) (pe_ix (r := rIxT K) ix_tup (pv 13) (pv 11) (fun _ _ => rfl)) (pv 10) (nomark _)))) (fun _ _ _ _ _ => (pe_tup (pa_cons (pv 6) (pa_cons (pe_ix (r := rIxT K) ix_tup (pv 13) pe_int (fun _ _ => rfl)) pa_nil))))) (pa_cons (pe_lst pa_nil) (pa_cons (pe_lst pa_nil) pa_nil))))))
        pss_nil)
      (pss_cons (ps_set (i := 12) nd rfl (Or.inl rfl) (pe_lst pa_nil))
      (pss_cons (ps_for PassesOwn.never rfl (pi_list (pv 4)) (pg_name (i := 13) nd rfl (Or.inl rfl))
        (pss_cons (ps_set (i := 14) nd rfl (Or.inl rfl) (pe_ix ix_tup (pv 13) (pv 11) (fun _ _ => rfl)))
        (pss_cons (ps_if (PW.pt (pw_and (pt_cmpR op_eq (pe_ix ix_tup (pv 2) pe_int (fun _ _ => rfl)) pe_str (nomark _)) (pw_and1 (pt_cmpR op_notN (pv 14) pe_non (nomark _)))))
          (pss_one (ps_set (i := 14) nd rfl (Or.inl rfl) (pe_op op_add (pv 14) (pv 10))))
          pss_nil)
        (pss_cons (ps_if (PW.pt (pw_and (pt_cmpR op_eq (pe_ix ix_tup (pv 2) pe_int (fun _ _ => rfl)) pe_str (nomark _)) (pw_and1 (pt_cmpR (op_eqD hr.units) (pe_ix ix_tup (pv 13) pe_int (fun _ _ => rfl)) (pe_ix ix_tup (pv 2) pe_int (fun _ _ => rfl)) (nomark _)))))
          (pss_one (ps_set (i := 14) nd rfl (Or.inl rfl) (pv 10)))
          pss_nil)
        (pss_one (ps_if (pt_cmpR (op_neD hr.units) (pv 14) (pe_ix ix_tup (pv 13) (pv 11) (fun _ _ => rfl)) (nomark _))
          (pss_one (ps_expr (pe_bm PySem.F.plainAttrs_list PySem.F.slot_list_append PySem.F.type_list_append mt_append (pv 12) (pa_cons (pe_tup (pa_cons (pv 6) (pa_cons (pe_ix ix_tup (pv 13) pe_int (fun _ _ => rfl)) (pa_cons (pv 9) (pa_cons (pv 14) pa_nil))))) pa_nil))))
          pss_nil))))))
      (pss_one (ps_ret (pe_tup (pa_cons (pe_lst pa_nil) (pa_cons (pv 12) (pa_cons (pe_lst pa_nil) pa_nil))))))))))))))))), ?_⟩
  obtain ⟨q0, xs, rfl, hS, g0, g1, hDD⟩ := deed01 hu'
  obtain ⟨ws, hTS, hTA, lw⟩ := hT.parts
  have l8 := hT.l8
  have ht := hA.mem
  -- at
  refine ⟨.ref tp, rfl, tp, rfl, ⟨ws, hTS⟩, fun D1 n1 => ?_⟩
  refine lc_map (walk_tup (xs := ws)) (ys := (tns ts).map V.str) (by rw [List.length_map, List.length_map]; omega) (by omega) n1 (fun H' k => sameT (kept_same k n1) hTS) (fun i x H' C N hx sm hC => ?_) (fun H1 e1 s1 => ?_)
  · obtain ⟨tb, qq, pc, ys, htb, rfl, h1, h2, h3⟩ := tab_at hTA hx
    exact ⟨rfl, iteT ⟨.ref qq, rfl, qq, _, 0, .str tb.1, rfl, rfl, sameT sm h1, atI_nat (j := 0) rfl, hC _ (by rw [List.getElem?_map, List.getElem?_map, htb]; rfl)⟩⟩
  obtain ⟨tb, htb, hte, hcol⟩ := tab_of hT.ok.nd ht
  obtain ⟨at', hat⟩ : ∃ j, j = (tns ts).idxOf (tabOf dd) := ⟨_, rfl⟩
  have lat : at' < (tns ts).length := by rw [hat]; exact List.idxOf_lt_length_of_mem ht
  have hrs : ct[at']? = some rs := by rw [hat]; exact hA.row
  refine ⟨.inl ⟨rfl, _, .inl (.inl e1)⟩, .ref q0, rfl, q0, xs, 1, .str (tabOf dd), rfl, rfl, sameT s1 hS, atI_nat (j := 1) g1, ?_⟩
  unfold tNil
  dsimp only
  refine ix_strs e1 ht ?_
  rw [← hat]
  -- rows
  obtain ⟨p, cs, e, hCS, hCA, lx⟩ := cont_dp hc
  cases e
  obtain ⟨x, hx, hd⟩ := dpAll_at (i := at') (d := rowsD rs) hCA (by rw [List.getElem?_map, hrs]; rfl)
  obtain ⟨rp, ys, rfl, hRS, hRA, lr⟩ := rows_dp hd
  refine ⟨.ref cp, rfl, .int at', rfl, cp, cs, at', .ref rp, rfl, rfl, s1.seq hCS, atI_nat hx, ?_⟩
  -- names
  have lw2 : ws.length = ts.length := lw
  have latw : at' < ws.length := by rw [List.length_map] at lat; omega
  obtain ⟨xw, hxw⟩ : ∃ x, ws[at']? = some x := ⟨_, List.getElem?_eq_getElem latw⟩
  obtain ⟨tb2, qq, pc, yc, htb2, rfl, h1, h2, h3⟩ := tab_at hTA hxw
  have etb : tb2.1 = tabOf dd := by
    have h5 : (tns ts)[at']? = some (tabOf dd) := by rw [List.getElem?_eq_getElem lat]; congr 1; subst hat; exact List.getElem_idxOf _
    rw [List.getElem?_map, htb2] at h5
    exact Option.some.inj h5
  have ecn : cns ts (tabOf dd) = tb2.2.map (·.1) := by
    show (colsOf ts (tabOf dd)).map _ = _
    rw [← etb, colsOf_mem hT.ok.nd (List.mem_of_getElem? htb2)]
  have l5 : tb2.2.length ≤ 5 := (hT.ok.cs tb2 (List.mem_of_getElem? htb2)).1.top
  refine ⟨.ref tp, rfl, .int at', rfl, tp, ws, at', .ref qq, rfl, rfl, sameT s1 hTS, atI_nat hxw, ixB (b := true) (i := 1) (sameT s1 h1) rfl ⟨pc, rfl, ⟨yc, sameT s1 h2⟩, fun D2 n2 => ?_⟩⟩
  refine lc_map (walk_tup (xs := yc)) (ys := (cns ts (tabOf dd)).map V.str) (by rw [ecn, List.length_map, List.length_map, dpAll_len h3, List.length_map]) (by rw [dpAll_len h3, List.length_map]; omega) n2 (fun H' k => sameT (s1.trans (kept_same k n2)) h2) (fun i x H' C N hx sm hC => ?_) (fun H2 e2 s2 => ?_)
  · obtain ⟨co, qc, z, hco, rfl, hqc⟩ := col_at h3 hx
    exact ⟨rfl, iteT ⟨.ref qc, rfl, qc, _, 0, .str co.1, rfl, rfl, sameT (s1.trans sm) hqc, atI_nat (j := 0) rfl, hC _ (by rw [ecn, List.getElem?_map, List.getElem?_map, hco]; rfl)⟩⟩
  have s12 := s1.trans s2
  -- table, keys
  refine ⟨_, _, rfl, ?_⟩
  refine ⟨.ref q0, rfl, q0, xs, 1, .str (tabOf dd), rfl, rfl, sameT s12 hS, atI_nat (j := 1) g1, ?_⟩
  refine ⟨.ref cp, rfl, .int at', rfl, cp, cs, at', .ref rp, rfl, rfl, s12.seq hCS, atI_nat hx, rp, rfl, ⟨ys, s12.seq hRS⟩, fun D3 n3 => ?_⟩
  have few := hA.few
  refine lc_map (walk_list (xs := ys)) (ys := (rs.map keyW).map V.int) (by rw [List.length_map, List.length_map, lr]) (by omega) n3 (fun H' k => (s12.trans (kept_same k n3)).seq hRS) (fun i x H' C N hx sm hC => ?_) (fun H3 e3 s3 => ?_)
  · obtain ⟨row, rq, hr1, rfl, hr2⟩ := row_at' hRA hx
    obtain ⟨k, t0, rfl⟩ := (hA.ok.row row (List.mem_of_getElem? hr1)).key
    exact ⟨rfl, iteT ⟨.ref rq, rfl, rq, _, 0, .int k, rfl, rfl, sameT (s12.trans sm) hr2, atI_nat (j := 0) rfl, hC _ (by rw [List.getElem?_map, List.getElem?_map, hr1]; rfl)⟩⟩
  refine ⟨(by show 2 ≤ sizeLine; decide), fun tt ntt => ⟨tt, _, rfl, .inl (.inl upd_same), rfl, .str (tabOf dd), _, rfl, .ref D3, _, rfl, rfl, ?_⟩⟩
  have s4 := same_upd (o := .tup [.str (tabOf dd), .ref D3]) ntt
  have s14 := s12.trans (s3.trans s4)
  generalize hH : upd H3 tt (.tup [.str (tabOf dd), .ref D3]) = H4 at s4 s14 ⊢
  have e34 : H4 D3 = some (.lst ((rs.map keyW).map V.int)) := s4 _ _ e3
  have e24 : H4 D2 = some (.lst ((cns ts (tabOf dd)).map V.str)) := (s3.trans s4) _ _ e2
  have hSd := sameT s14 hS
  have hR4 := s14.seq hRS
  have hRA4 := dpAll_same s14 hRA
  have hu4 := dp_same s14 hu'
  show tSeq _ _ _ [some (.ref tp), some (.ref cp), some (.ref q0), some (.int at'), some (.ref rp), some (.ref D2), some (.str (tabOf dd)), some (.ref D3), none, none, none, none, none, none, none] H4
  have q4 : ∀ (r : Addr) (H' : Hp), Same H4 H' → Dp K H' (.ref r) (resD (own (cns ts (tabOf dd)) rs dd)) → Q (.ref r) H' := fun r H' s h => q r H' (s14.trans s) h
  refine ⟨.ref q0, rfl, q0, xs, 0, .str (wordOf dd), rfl, rfl, hSd, atI_nat (j := 0) g0, rfl, _, rfl, ?_⟩
  have hD4 : ∀ {ds : List PyData}, deedF true dd = .tuple ds → DpAll K H4 xs ds := fun e => dpAll_same s14 (hDD _ e)
  cases dd with
  | put t row =>
    obtain ⟨rq, hrq, hrow⟩ : ∃ rq, xs[2]? = some (.ref rq) ∧ SqT K H4 rq (row.map wV) := by
      obtain ⟨x2, h5, h6⟩ := dpAll_at (i := 2) (d := rowD row) (hD4 rfl) rfl
      obtain ⟨rq, rfl, h7⟩ := row_dp h6
      exact ⟨rq, h5, h7⟩
    obtain ⟨k, t0, rfl⟩ := okd.2.key
    have h0 : ((some k :: t0).map wV)[0]? = some (.int k) := rfl
    refine ite2 (fun _ => ?_) (fun e => absurd (decide_eq_true rfl) e)
    refine ⟨.ref q0, rfl, q0, xs, 2, .ref rq, rfl, rfl, hSd, atI_nat (j := 2) hrq, ixB (b := true) (i := 0) hrow h0 ⟨.ref D3, rfl, D3, _, rfl, .inl (.inl (.inl e34)), rfl, flat_ints _, ?_⟩⟩
    rw [if_neg Bool.false_ne_true, inV_ints]
    refine ⟨.bl _, rfl, _, rfl, ite2 (fun e => ?_) (fun e => ?_)⟩
    · have e := of_decide_eq_true e
      refine ⟨.str t, rfl, .ref q0, rfl, q0, xs, 2, .ref rq, rfl, rfl, hSd, atI_nat (j := 2) hrq, ixB (b := true) (i := 0) hrow h0 ⟨(by show 3 ≤ sizeLine; decide), fun r nr => ?_⟩⟩
      refine q4 r _ (same_upd nr) ?_
      rw [show own (cns ts (tabOf (.put t (some k :: t0)))) rs (.put t (some k :: t0)) = .taken t k by show (if k ∈ rs.map keyW then _ else _) = _; rw [if_pos e]; rfl]
      exact .tup (.inl (.inl upd_same)) (.cons (.str _) (.cons (.str _) (.cons (.int _) .nil)))
    · have e : ¬ k ∈ rs.map keyW := fun z => e (decide_eq_true z)
      refine ⟨Nat.zero_le _, fun a na => ⟨Nat.zero_le _, fun b nb => ⟨.str t, rfl, .ref q0, rfl, q0, xs, 2, .ref rq, rfl, rfl, sameT ((same_upd na).trans (same_upd nb)) hSd, atI_nat (j := 2) hrq, (by show 2 ≤ sizeLine; decide), fun p2 np2 => ⟨(by show 1 ≤ sizeLine; decide), fun c2 nc => ⟨(by show 3 ≤ sizeLine; decide), fun r nr => ?_⟩⟩⟩⟩⟩
      have k1 := same_upd (o := .lst []) na
      have k2 := same_upd (o := .lst []) nb
      have k3 := same_upd (o := .tup [.str t, .ref rq]) np2
      have k4 := same_upd (o := .lst [.ref p2]) nc
      have k5 := same_upd (o := .tup [.ref a, .ref b, .ref c2]) nr
      refine q4 r _ (k1.trans (k2.trans (k3.trans (k4.trans k5)))) ?_
      rw [show own (cns ts (tabOf (.put t (some k :: t0)))) rs (.put t (some k :: t0)) = .told [] [] [.tuple [.str t, rowD (some k :: t0)]] by show (if k ∈ rs.map keyW then _ else _) = _; rw [if_neg e]]
      exact dp3 upd_same (k5 _ _ (k4 _ _ (k3 _ _ (k2 _ _ upd_same)))) (k5 _ _ (k4 _ _ (k3 _ _ upd_same))) (k5 _ _ upd_same) .nil .nil (.cons (.tup (.inl (.inl (k5 _ _ (k4 _ _ upd_same)))) (.cons (.str _) (.cons (.tup (sameT (k1.trans (k2.trans (k3.trans (k4.trans k5)))) hrow) (dp_ws _)) .nil))) .nil)
  | drop t k =>
    have hx2 : xs[2]? = some (.int k) := by
      obtain ⟨x2, h5, h6⟩ := dpAll_at (i := 2) (d := .int k) (hD4 rfl) rfl
      cases h6; exact h5
    refine ite2 (fun e => absurd (V.str.inj (of_decide_eq_true e)) (show ("drop" : Str) ≠ "put" by decide)) (fun _ => ?_)
    refine ⟨.ref q0, rfl, q0, xs, 0, .str "drop", rfl, rfl, hSd, atI_nat (j := 0) g0, (by show 2 ≤ sizeLine; decide), fun t2 nt2 => ⟨t2, _, rfl, .inr (.inl (.inl upd_same)), rfl, rfl, _, rfl, ?_⟩⟩
    have s5 := same_upd (o := .tup [.str "drop", .str "set"]) nt2
    generalize upd H4 t2 (.tup [.str "drop", .str "set"]) = H5 at s5 ⊢
    have hS5 := sameT s5 hSd
    have e35 := s5 _ _ e34
    have e25 := s5 _ _ e24
    have hR5 := s5.seq hR4
    have hRA5 := dpAll_same s5 hRA4
    rw [if_neg Bool.false_ne_true, show [V.str "drop", V.str "set"] = (["drop", "set"] : List Str).map V.str from rfl, inV_strs, decide_eq_true (show ("drop" : Str) ∈ (["drop", "set"] : List Str) by decide)]
    refine iteT ⟨.ref q0, rfl, q0, xs, 2, .int k, rfl, rfl, hS5, atI_nat (j := 2) hx2, .ref D3, rfl, D3, _, rfl, .inl (.inl (.inl e35)), rfl, flat_ints _, _, rfl, ?_⟩
    rw [if_pos rfl, inV_ints]
    by_cases hk : k ∈ rs.map keyW
    case neg =>
      rw [decide_eq_false hk]
      refine iteT ⟨.str t, rfl, .ref q0, rfl, q0, xs, 2, .int k, rfl, rfl, hS5, atI_nat (j := 2) hx2, (by show 3 ≤ sizeLine; decide), fun r nr => ?_⟩
      refine q4 r _ (s5.trans (same_upd nr)) ?_
      rw [show own (cns ts (tabOf (.drop t k))) rs (.drop t k) = .norow t k by show (if k ∈ rs.map keyW then _ else _) = _; rw [if_neg hk]]
      exact .tup (.inl (.inl upd_same)) (.cons (.str _) (.cons (.str _) (.cons (.int _) .nil)))
    rw [decide_eq_true hk]
    refine iteF ?_
    refine ⟨.ref q0, rfl, q0, xs, 0, .str "drop", rfl, rfl, hS5, atI_nat (j := 0) g0, rfl, _, rfl, ite2 (fun _ => ?_) (fun e => absurd (decide_eq_true rfl) e)⟩
    refine ⟨.str t, rfl, .ref q0, rfl, q0, xs, 2, .int k, rfl, rfl, hS5, atI_nat (j := 2) hx2, (by show 2 ≤ sizeLine; decide), fun p2 np2 => ⟨(by show 1 ≤ sizeLine; decide), fun a na => ⟨Nat.zero_le _, fun b nb => ⟨Nat.zero_le _, fun c2 nc => ⟨(by show 3 ≤ sizeLine; decide), fun r nr => ?_⟩⟩⟩⟩⟩
    have k1 := same_upd (o := .tup [.str t, .int k]) np2
    have k2 := same_upd (o := .lst [.ref p2]) na
    have k3 := same_upd (o := .lst []) nb
    have k4 := same_upd (o := .lst []) nc
    have k5 := same_upd (o := .tup [.ref a, .ref b, .ref c2]) nr
    refine q4 r _ (s5.trans (k1.trans (k2.trans (k3.trans (k4.trans k5))))) ?_
    rw [show own (cns ts (tabOf (.drop t k))) rs (.drop t k) = .told [.tuple [.str t, .int k]] [] [] by show (if k ∈ rs.map keyW then _ else _) = _; rw [if_pos hk]]
    exact dp3 upd_same (k5 _ _ (k4 _ _ (k3 _ _ upd_same))) (k5 _ _ (k4 _ _ upd_same)) (k5 _ _ upd_same) (.cons (.tup (.inl (.inl (k5 _ _ (k4 _ _ (k3 _ _ (k2 _ _ upd_same)))))) (.cons (.str _) (.cons (.int _) .nil))) .nil) .nil .nil
  | sweep t col wo =>
    obtain ⟨_, hcol', _⟩ := okd
    have hlen : xs.length = 4 := dpAll_len (hD4 rfl)
    have hxc : xs[2]? = some (.str col) := by
      obtain ⟨x2, h5, h6⟩ := dpAll_at (i := 2) (d := .str col) (hD4 rfl) rfl
      cases h6; exact h5
    have hxw : xs[3]? = some (wV wo) := by
      obtain ⟨x2, h5, h6⟩ := dpAll_at (i := 3) (d := wD wo) (hD4 rfl) rfl
      rw [h5, dp_wV h6]
    refine ite2 (fun e => absurd (V.str.inj (of_decide_eq_true e)) (show ("sweep" : Str) ≠ "put" by decide)) (fun _ => ?_)
    refine ⟨.ref q0, rfl, q0, xs, 0, .str "sweep", rfl, rfl, hSd, atI_nat (j := 0) g0, (by show 2 ≤ sizeLine; decide), fun t2 nt2 => ⟨t2, _, rfl, .inr (.inl (.inl upd_same)), rfl, rfl, _, rfl, ?_⟩⟩
    have s5 := same_upd (o := .tup [.str "drop", .str "set"]) nt2
    generalize upd H4 t2 (.tup [.str "drop", .str "set"]) = H5 at s5 ⊢
    have hS5 := sameT s5 hSd
    have e35 := s5 _ _ e34
    have e25 := s5 _ _ e24
    have hR5 := s5.seq hR4
    have hRA5 := dpAll_same s5 hRA4
    rw [if_neg Bool.false_ne_true, show [V.str "drop", V.str "set"] = (["drop", "set"] : List Str).map V.str from rfl, inV_strs, decide_eq_false (show ¬ ("sweep" : Str) ∈ (["drop", "set"] : List Str) by decide)]
    refine iteF ?_
    refine ⟨.ref q0, rfl, q0, xs, 0, .str "sweep", rfl, rfl, hS5, atI_nat (j := 0) g0, rfl, _, rfl, ite2 (fun e => absurd (V.str.inj (of_decide_eq_true e)) (show ("sweep" : Str) ≠ "drop" by decide)) (fun _ => ?_)⟩
    refine ⟨.ref q0, rfl, 2, rfl, q0, xs, -2, .str col, rfl, rfl, hS5, atI_neg (n := 4) (j := 2) hlen rfl hxc, .ref q0, rfl, 1, rfl, q0, xs, -1, wV wo, rfl, rfl, hS5, atI_neg (n := 4) (j := 3) hlen rfl hxw, (by show 2 ≤ sizeLine; decide), fun t3 nt3 => ⟨t3, _, rfl, .inl (.inl upd_same), rfl, .str col, _, rfl, wV wo, _, rfl, rfl, ?_⟩⟩
    have s6 := same_upd (o := .tup [.str col, wV wo]) nt3
    generalize upd H5 t3 (.tup [.str col, wV wo]) = H6 at s6 ⊢
    have hS6 := sameT s6 hS5
    have e26 := s6 _ _ e25
    have hR6 := s6.seq hR5
    have hRA6 := dpAll_same s6 hRA5
    refine ⟨.ref D2, rfl, .inl ⟨rfl, _, .inl (.inl e26)⟩, .str col, rfl, ?_⟩
    dsimp only
    refine ix_strs e26 hcol' ?_
    refine ⟨.ref q0, rfl, q0, xs, 0, .str "sweep", rfl, rfl, hS6, atI_nat (j := 0) g0, rfl, _, rfl, ite2 (fun _ => ?_) (fun e => absurd (decide_eq_true rfl) e)⟩
    refine ⟨.ref rp, rfl, rp, rfl, ⟨ys, hR6⟩, fun D nD => ?_⟩
    refine lc_rows (K := K) (walk_list (xs := ys)) lr few (fun r => decide (cellAt (cns ts t) col r = wo)) (fun r => .tuple [.str t, .int (keyW r)]) nD (fun H' k => (kept_same k nD).seq hR6) (fun i x hx => row_at' hRA6 hx) (fun row rq H' C N hrow kk eD hS yesC noN => ?_) (fun us2 H7 gr kk => ?_)
    · have okr := hA.ok.row row hrow
      have hS' : SqT K H' rq (row.map wV) := sameT (msk_sub _ _) hS
      obtain ⟨k, t0, rfl⟩ := okr.key
      refine ⟨rfl, ?_⟩
      refine ⟨.ref rq, rfl, _, rfl, rq, _, _, _, rfl, rfl, hS', atI_nat (cell_row okr rfl hcol'), wV wo, rfl, wD (cellAt (cns ts t) col (some k :: t0)), wD wo, dp_w _, dp_w _, shaped_w _, shaped_w _, _, rfl, ?_⟩
      rw [eqv_w]
      refine ite2 (fun e => ?_) (fun e => ?_)
      · refine ⟨.str t, rfl, .ref rq, rfl, rq, _, 0, .int k, rfl, rfl, hS', atI_nat (j := 0) rfl, (by show 2 ≤ sizeLine; decide), fun p np => ?_⟩
        obtain ⟨ws, eD⟩ := eD
        exact yesC e _ _ (Kept.upd_new np) (.tup (.inl (.inl (msk_at upd_same (by simp [(ne_of_none eD np).symm])))) (.cons (.str _) (.cons (.int _) .nil)))
      · exact noN (by simpa using e)
    · refine ⟨Nat.zero_le _, fun b nb => ⟨Nat.zero_le _, fun c2 nc => ⟨(by show 3 ≤ sizeLine; decide), fun r nr => ?_⟩⟩⟩
      have k3 := same_upd (o := .lst []) nb
      have k4 := same_upd (o := .lst []) nc
      have k5 := same_upd (o := .tup [.ref D, .ref b, .ref c2]) nr
      refine q4 r _ (s5.trans (s6.trans ((kept_same kk nD).trans (k3.trans (k4.trans k5))))) ?_
      exact dp3 upd_same (k5 _ _ (k4 _ _ (k3 _ _ gr.at'))) (k5 _ _ (k4 _ _ upd_same)) (k5 _ _ upd_same) (dpAll_same (k3.trans (k4.trans k5)) (dpAll_same (msk_sub _ _) gr.dp)) .nil .nil
  | shift t col by' =>
    obtain ⟨_, hcol', _⟩ := okd
    have hlen : xs.length = 4 := dpAll_len (hD4 rfl)
    have hxc : xs[2]? = some (.str col) := by
      obtain ⟨x2, h5, h6⟩ := dpAll_at (i := 2) (d := .str col) (hD4 rfl) rfl
      cases h6; exact h5
    have hxw : xs[3]? = some (V.int by') := by
      obtain ⟨x2, h5, h6⟩ := dpAll_at (i := 3) (d := .int by') (hD4 rfl) rfl
      cases h6; exact h5
    refine ite2 (fun e => absurd (V.str.inj (of_decide_eq_true e)) (show ("shift" : Str) ≠ "put" by decide)) (fun _ => ?_)
    refine ⟨.ref q0, rfl, q0, xs, 0, .str "shift", rfl, rfl, hSd, atI_nat (j := 0) g0, (by show 2 ≤ sizeLine; decide), fun t2 nt2 => ⟨t2, _, rfl, .inr (.inl (.inl upd_same)), rfl, rfl, _, rfl, ?_⟩⟩
    have s5 := same_upd (o := .tup [.str "drop", .str "set"]) nt2
    generalize upd H4 t2 (.tup [.str "drop", .str "set"]) = H5 at s5 ⊢
    have hS5 := sameT s5 hSd
    have e35 := s5 _ _ e34
    have e25 := s5 _ _ e24
    have hR5 := s5.seq hR4
    have hRA5 := dpAll_same s5 hRA4
    rw [if_neg Bool.false_ne_true, show [V.str "drop", V.str "set"] = (["drop", "set"] : List Str).map V.str from rfl, inV_strs, decide_eq_false (show ¬ ("shift" : Str) ∈ (["drop", "set"] : List Str) by decide)]
    refine iteF ?_
    refine ⟨.ref q0, rfl, q0, xs, 0, .str "shift", rfl, rfl, hS5, atI_nat (j := 0) g0, rfl, _, rfl, ite2 (fun e => absurd (V.str.inj (of_decide_eq_true e)) (show ("shift" : Str) ≠ "drop" by decide)) (fun _ => ?_)⟩
    refine ⟨.ref q0, rfl, 2, rfl, q0, xs, -2, .str col, rfl, rfl, hS5, atI_neg (n := 4) (j := 2) hlen rfl hxc, .ref q0, rfl, 1, rfl, q0, xs, -1, V.int by', rfl, rfl, hS5, atI_neg (n := 4) (j := 3) hlen rfl hxw, (by show 2 ≤ sizeLine; decide), fun t3 nt3 => ⟨t3, _, rfl, .inl (.inl upd_same), rfl, .str col, _, rfl, V.int by', _, rfl, rfl, ?_⟩⟩
    have s6 := same_upd (o := .tup [.str col, V.int by']) nt3
    generalize upd H5 t3 (.tup [.str col, V.int by']) = H6 at s6 ⊢
    have hS6 := sameT s6 hS5
    have e26 := s6 _ _ e25
    have hR6 := s6.seq hR5
    have hRA6 := dpAll_same s6 hRA5
    refine ⟨.ref D2, rfl, .inl ⟨rfl, _, .inl (.inl e26)⟩, .str col, rfl, ?_⟩
    dsimp only
    refine ix_strs e26 hcol' ?_
    refine ⟨.ref q0, rfl, q0, xs, 0, .str "shift", rfl, rfl, hS6, atI_nat (j := 0) g0, rfl, _, rfl, ite2 (fun e => absurd (V.str.inj (of_decide_eq_true e)) (show ("shift" : Str) ≠ "sweep" by decide)) (fun _ => ?_)⟩
    refine ⟨Nat.zero_le _, fun D5 n5 => ?_⟩
    obtain ⟨pp, hpp⟩ : ∃ pp : Rw → Bool, pp = fun r => !decide (cellAt (cns ts t) col r = none) && !decide (by' = 0) := ⟨_, rfl⟩
    obtain ⟨ff, hff⟩ : ∃ ff : Rw → PyData, ff = fun r => .tuple [.str t, .int (keyW r), .str col, wD ((cellAt (cns ts t) col r).map (· + by'))] := ⟨_, rfl⟩
    refine ⟨.ref rp, rfl, rp, rfl, ⟨ys, ((same_upd n5)).seq hR6⟩, ?_⟩
    refine for_it (walk_list (xs := ys)) (fun m σ H' => (∃ y13 y14, σ = [some (.ref tp), some (.ref cp), some (.ref q0), some (.int at'), some (.ref rp), some (.ref D2), some (.str t), some (.ref D3), none, some (.str col), some (V.int by'), some (.int ((cns ts t).idxOf col : Nat)), some (.ref D5), y13, y14]) ∧ ∃ us, Grow K [] H' D5 us (((rs.take m).filter pp).map ff) ∧ Kept [D5] H6 H') ⟨⟨none, none, rfl⟩, [], .start, Kept.upd_new n5⟩ (fun m σ H' _ hP => let ⟨_, _, _, kk⟩ := hP; (kept_same kk n5).seq hR6) (fun m x σ H' H'' hm hP hY => ?_) (fun σ H7 hP => ?_)
    · obtain ⟨rfl, hx⟩ := hY
      obtain ⟨⟨y13, y14, rfl⟩, us, gr, kk⟩ := hP
      obtain ⟨row, rq, hr1, rfl, hr2⟩ := row_at' hRA6 hx
      have okr := hA.ok.row row (List.mem_of_getElem? hr1)
      have sk := kept_same kk n5
      have hS' := sameT sk hr2
      have hQ' := sameT sk hS6
      have et : (rs.take (m + 1)).filter pp = (rs.take m).filter pp ++ (if pp row then [row] else []) := by
        rw [List.take_add_one, hr1, List.filter_append]
        congr 1
        show List.filter pp [row] = _
        rw [List.filter_cons, List.filter_nil]
      have lu : us.length ≤ m := by
        rw [gr.len, List.length_map]
        have := List.length_filter_le pp (rs.take m)
        rw [List.length_take] at this
        omega
      have cr : (row.map wV)[(cns ts t).idxOf col]? = some (wV (cellAt (cns ts t) col row)) := cell_row okr rfl hcol'
      obtain ⟨kr, t0, rfl⟩ := okr.key
      refine ⟨.ref rq, rfl, _, rfl, rq, _, _, _, rfl, rfl, hS', atI_nat cr, ?_⟩
      refine ⟨.ref q0, rfl, q0, xs, 0, .str "shift", rfl, rfl, hQ', atI_nat (j := 0) g0, rfl, _, rfl, ite2 (fun _ => ?_) (fun e => absurd (decide_eq_true rfl) e)⟩
      cases hcell : cellAt (cns ts t) col (some kr :: t0) with
      | none =>
        rw [hcell] at cr
        refine ⟨.non, rfl, rfl, _, rfl, iteF ?_⟩
        refine ⟨.ref q0, rfl, q0, xs, 0, .str "shift", rfl, rfl, hQ', atI_nat (j := 0) g0, rfl, _, rfl, ite2 (fun e => absurd (V.str.inj (of_decide_eq_true e)) (show ("shift" : Str) ≠ "set" by decide)) (fun _ => iteF ?_)⟩
        refine ⟨wV (none), rfl, .ref rq, rfl, _, rfl, rq, _, _, _, rfl, rfl, hS', atI_nat cr, wD (none), wD (none), dp_w _, dp_w _, shaped_w _, shaped_w _, _, rfl, ?_⟩
        rw [eqv_w]
        by_cases hoa : (none : Option Int) = none
        · rw [decide_eq_true hoa]
          refine iteF ⟨⟨_, _, rfl⟩, us, ?_, kk⟩
          rw [et, show pp (some kr :: t0) = false by rw [hpp]; show (!decide (cellAt (cns ts t) col (some kr :: t0) = none) && _) = false; rw [hcell]; rfl, if_neg Bool.false_ne_true, List.append_nil]
          exact gr
        · rw [decide_eq_false hoa]
          refine iteT ?_
          refine ⟨.ref D5, rfl, .inl ⟨rfl, us, .inl (.inl gr.at')⟩, .str t, rfl, .ref rq, rfl, rq, _, 0, .int kr, rfl, rfl, hS', atI_nat (j := 0) rfl, .str col, rfl, wV (none), rfl, (by show 4 ≤ sizeLine; decide), fun p2 np2 => ?_⟩
          have nDp : D5 ≠ p2 := ne_of_none gr.at' np2
          have g2 := gr.kept (Kept.upd_new (o := .tup [.str t, .int kr, .str col, wV (none)]) np2) List.not_mem_nil
          refine ⟨D5, us, .ref p2, rfl, rfl, g2.at', small1000 (by omega), ⟨_, _, rfl⟩, us ++ [.ref p2], ?_, kk.trans ((Kept.upd_new np2).trans (Kept.upd_in (List.mem_cons_self ..)))⟩
          rw [et, show pp (some kr :: t0) = true by exact absurd rfl hoa, if_pos rfl, List.map_append]
          exact g2.put (show Dp K _ (.ref p2) (ff (some kr :: t0)) by exact absurd rfl hoa)
      | some z =>
        rw [hcell] at cr
        refine ⟨.int z, rfl, rfl, _, rfl, iteT ?_⟩
        refine ⟨.int z, rfl, .int by', rfl, z, by', rfl, rfl, ?_⟩
        refine ⟨.ref q0, rfl, q0, xs, 0, .str "shift", rfl, rfl, hQ', atI_nat (j := 0) g0, rfl, _, rfl, ite2 (fun e => absurd (V.str.inj (of_decide_eq_true e)) (show ("shift" : Str) ≠ "set" by decide)) (fun _ => iteF ?_)⟩
        refine ⟨wV (some (z + by')), rfl, .ref rq, rfl, _, rfl, rq, _, _, _, rfl, rfl, hS', atI_nat cr, wD (some (z + by')), wD (some z), dp_w _, dp_w _, shaped_w _, shaped_w _, _, rfl, ?_⟩
        rw [eqv_w]
        by_cases hoa : (some (z + by') : Option Int) = some z
        · rw [decide_eq_true hoa]
          refine iteF ⟨⟨_, _, rfl⟩, us, ?_, kk⟩
          rw [et, show pp (some kr :: t0) = false by rw [hpp]; show (_ && !decide (by' = 0)) = false; rw [decide_eq_true (show by' = 0 by have := Option.some.inj hoa; omega)]; exact Bool.and_false _, if_neg Bool.false_ne_true, List.append_nil]
          exact gr
        · rw [decide_eq_false hoa]
          refine iteT ?_
          refine ⟨.ref D5, rfl, .inl ⟨rfl, us, .inl (.inl gr.at')⟩, .str t, rfl, .ref rq, rfl, rq, _, 0, .int kr, rfl, rfl, hS', atI_nat (j := 0) rfl, .str col, rfl, wV (some (z + by')), rfl, (by show 4 ≤ sizeLine; decide), fun p2 np2 => ?_⟩
          have nDp : D5 ≠ p2 := ne_of_none gr.at' np2
          have g2 := gr.kept (Kept.upd_new (o := .tup [.str t, .int kr, .str col, wV (some (z + by'))]) np2) List.not_mem_nil
          refine ⟨D5, us, .ref p2, rfl, rfl, g2.at', small1000 (by omega), ⟨_, _, rfl⟩, us ++ [.ref p2], ?_, kk.trans ((Kept.upd_new np2).trans (Kept.upd_in (List.mem_cons_self ..)))⟩
          rw [et, show pp (some kr :: t0) = true by rw [hpp]; show (!decide (cellAt (cns ts t) col (some kr :: t0) = none) && !decide (by' = 0)) = true; rw [hcell, decide_eq_false (show ¬ by' = 0 from fun z0 => hoa (by rw [z0, Int.add_zero]))]; rfl, if_pos rfl, List.map_append]
          exact g2.put (show Dp K _ (.ref p2) (ff (some kr :: t0)) by rw [hff]; show Dp K _ (.ref p2) (.tuple [.str t, .int kr, .str col, wD ((cellAt (cns ts t) col (some kr :: t0)).map (· + by'))]); rw [hcell]; exact .tup (.inl (.inl (msk_at upd_same (by simp [nDp.symm])))) (.cons (.str _) (.cons (.int _) (.cons (.str _) (.cons (dp_w _) .nil)))))
    · obtain ⟨⟨y13, y14, rfl⟩, us, gr, kk⟩ := hP
      rw [lr, List.take_length] at gr
      refine ⟨Nat.zero_le _, fun a na => ⟨.ref D5, rfl, Nat.zero_le _, fun c2 nc => ⟨(by show 3 ≤ sizeLine; decide), fun r nr => ?_⟩⟩⟩
      have k3 := same_upd (o := .lst []) na
      have k4 := same_upd (o := .lst []) nc
      have k5 := same_upd (o := .tup [.ref a, .ref D5, .ref c2]) nr
      refine q4 r _ (s5.trans (s6.trans ((kept_same kk n5).trans (k3.trans (k4.trans k5))))) ?_
      have hown : own (cns ts t) rs (.shift t col by') = .told [] ((rs.filter pp).map ff) [] := by
        show OwnR.told [] (if by' = 0 then [] else _) [] = _
        by_cases hb : by' = 0
        · rw [if_pos hb, show rs.filter pp = [] from List.filter_eq_nil_iff.mpr fun r _ => by rw [hpp, hb]; simp]; rfl
        · rw [if_neg hb, show pp = fun r => !decide (cellAt (cns ts t) col r = none) from by rw [hpp]; funext r; rw [decide_eq_false hb, Bool.not_false, Bool.and_true], hff]
      rw [show own (cns ts (tabOf (.shift t col by'))) rs (.shift t col by') = .told [] ((rs.filter pp).map ff) [] from hown]
      exact dp3 upd_same (k5 _ _ (k4 _ _ upd_same)) (k5 _ _ (k4 _ _ (k3 _ _ gr.at'))) (k5 _ _ upd_same) .nil (dpAll_same (k3.trans (k4.trans k5)) (dpAll_same (msk_sub _ _) gr.dp)) .nil
  | set t k col wo =>
    obtain ⟨_, _, hcol', _⟩ := okd
    have hlen : xs.length = 5 := dpAll_len (hD4 rfl)
    have hx2 : xs[2]? = some (.int k) := by
      obtain ⟨x2, h5, h6⟩ := dpAll_at (i := 2) (d := .int k) (hD4 rfl) rfl
      cases h6; exact h5
    have hxc : xs[3]? = some (.str col) := by
      obtain ⟨x2, h5, h6⟩ := dpAll_at (i := 3) (d := .str col) (hD4 rfl) rfl
      cases h6; exact h5
    have hxw : xs[4]? = some (wV wo) := by
      obtain ⟨x2, h5, h6⟩ := dpAll_at (i := 4) (d := wD wo) (hD4 rfl) rfl
      rw [h5, dp_wV h6]
    refine ite2 (fun e => absurd (V.str.inj (of_decide_eq_true e)) (show ("set" : Str) ≠ "put" by decide)) (fun _ => ?_)
    refine ⟨.ref q0, rfl, q0, xs, 0, .str "set", rfl, rfl, hSd, atI_nat (j := 0) g0, (by show 2 ≤ sizeLine; decide), fun t2 nt2 => ⟨t2, _, rfl, .inr (.inl (.inl upd_same)), rfl, rfl, _, rfl, ?_⟩⟩
    have s5 := same_upd (o := .tup [.str "drop", .str "set"]) nt2
    generalize upd H4 t2 (.tup [.str "drop", .str "set"]) = H5 at s5 ⊢
    have hS5 := sameT s5 hSd
    have e35 := s5 _ _ e34
    have e25 := s5 _ _ e24
    have hR5 := s5.seq hR4
    have hRA5 := dpAll_same s5 hRA4
    rw [if_neg Bool.false_ne_true, show [V.str "drop", V.str "set"] = (["drop", "set"] : List Str).map V.str from rfl, inV_strs, decide_eq_true (show ("set" : Str) ∈ (["drop", "set"] : List Str) by decide)]
    refine iteT ⟨.ref q0, rfl, q0, xs, 2, .int k, rfl, rfl, hS5, atI_nat (j := 2) hx2, .ref D3, rfl, D3, _, rfl, .inl (.inl (.inl e35)), rfl, flat_ints _, _, rfl, ?_⟩
    rw [if_pos rfl, inV_ints]
    by_cases hk : k ∈ rs.map keyW
    case neg =>
      rw [decide_eq_false hk]
      refine iteT ⟨.str t, rfl, .ref q0, rfl, q0, xs, 2, .int k, rfl, rfl, hS5, atI_nat (j := 2) hx2, (by show 3 ≤ sizeLine; decide), fun r nr => ?_⟩
      refine q4 r _ (s5.trans (same_upd nr)) ?_
      rw [show own (cns ts (tabOf (.set t k col wo))) rs (.set t k col wo) = .norow t k by show (if k ∈ rs.map keyW then _ else _) = _; rw [if_neg hk]]
      exact .tup (.inl (.inl upd_same)) (.cons (.str _) (.cons (.str _) (.cons (.int _) .nil)))
    rw [decide_eq_true hk]
    refine iteF ?_
    refine ⟨.ref q0, rfl, q0, xs, 0, .str "set", rfl, rfl, hS5, atI_nat (j := 0) g0, rfl, _, rfl, ite2 (fun e => absurd (V.str.inj (of_decide_eq_true e)) (show ("set" : Str) ≠ "drop" by decide)) (fun _ => ?_)⟩
    refine ⟨.ref q0, rfl, 2, rfl, q0, xs, -2, .str col, rfl, rfl, hS5, atI_neg (n := 5) (j := 3) hlen rfl hxc, .ref q0, rfl, 1, rfl, q0, xs, -1, wV wo, rfl, rfl, hS5, atI_neg (n := 5) (j := 4) hlen rfl hxw, (by show 2 ≤ sizeLine; decide), fun t3 nt3 => ⟨t3, _, rfl, .inl (.inl upd_same), rfl, .str col, _, rfl, wV wo, _, rfl, rfl, ?_⟩⟩
    have s6 := same_upd (o := .tup [.str col, wV wo]) nt3
    generalize upd H5 t3 (.tup [.str col, wV wo]) = H6 at s6 ⊢
    have hS6 := sameT s6 hS5
    have e26 := s6 _ _ e25
    have hR6 := s6.seq hR5
    have hRA6 := dpAll_same s6 hRA5
    refine ⟨.ref D2, rfl, .inl ⟨rfl, _, .inl (.inl e26)⟩, .str col, rfl, ?_⟩
    dsimp only
    refine ix_strs e26 hcol' ?_
    refine ⟨.ref q0, rfl, q0, xs, 0, .str "set", rfl, rfl, hS6, atI_nat (j := 0) g0, rfl, _, rfl, ite2 (fun e => absurd (V.str.inj (of_decide_eq_true e)) (show ("set" : Str) ≠ "sweep" by decide)) (fun _ => ?_)⟩
    refine ⟨Nat.zero_le _, fun D5 n5 => ?_⟩
    obtain ⟨pp, hpp⟩ : ∃ pp : Rw → Bool, pp = fun r => decide (keyW r = k) && !decide (cellAt (cns ts t) col r = wo) := ⟨_, rfl⟩
    obtain ⟨ff, hff⟩ : ∃ ff : Rw → PyData, ff = fun r => .tuple [.str t, .int (keyW r), .str col, wD wo] := ⟨_, rfl⟩
    refine ⟨.ref rp, rfl, rp, rfl, ⟨ys, ((same_upd n5)).seq hR6⟩, ?_⟩
    refine for_it (walk_list (xs := ys)) (fun m σ H' => (∃ y13 y14, σ = [some (.ref tp), some (.ref cp), some (.ref q0), some (.int at'), some (.ref rp), some (.ref D2), some (.str t), some (.ref D3), none, some (.str col), some (wV wo), some (.int ((cns ts t).idxOf col : Nat)), some (.ref D5), y13, y14]) ∧ ∃ us, Grow K [] H' D5 us (((rs.take m).filter pp).map ff) ∧ Kept [D5] H6 H') ⟨⟨none, none, rfl⟩, [], .start, Kept.upd_new n5⟩ (fun m σ H' _ hP => let ⟨_, _, _, kk⟩ := hP; (kept_same kk n5).seq hR6) (fun m x σ H' H'' hm hP hY => ?_) (fun σ H7 hP => ?_)
    · obtain ⟨rfl, hx⟩ := hY
      obtain ⟨⟨y13, y14, rfl⟩, us, gr, kk⟩ := hP
      obtain ⟨row, rq, hr1, rfl, hr2⟩ := row_at' hRA6 hx
      have okr := hA.ok.row row (List.mem_of_getElem? hr1)
      have sk := kept_same kk n5
      have hS' := sameT sk hr2
      have hQ' := sameT sk hS6
      have et : (rs.take (m + 1)).filter pp = (rs.take m).filter pp ++ (if pp row then [row] else []) := by
        rw [List.take_add_one, hr1, List.filter_append]
        congr 1
        show List.filter pp [row] = _
        rw [List.filter_cons, List.filter_nil]
      have lu : us.length ≤ m := by
        rw [gr.len, List.length_map]
        have := List.length_filter_le pp (rs.take m)
        rw [List.length_take] at this
        omega
      have cr : (row.map wV)[(cns ts t).idxOf col]? = some (wV (cellAt (cns ts t) col row)) := cell_row okr rfl hcol'
      obtain ⟨kr, t0, rfl⟩ := okr.key
      refine ⟨.ref rq, rfl, _, rfl, rq, _, _, _, rfl, rfl, hS', atI_nat cr, ?_⟩
      refine ⟨.ref q0, rfl, q0, xs, 0, .str "set", rfl, rfl, hQ', atI_nat (j := 0) g0, rfl, _, rfl, ite2 (fun e => absurd (V.str.inj (of_decide_eq_true e)) (show ("set" : Str) ≠ "shift" by decide)) (fun _ => iteF ?_)⟩
      refine ⟨.ref q0, rfl, q0, xs, 0, .str "set", rfl, rfl, hQ', atI_nat (j := 0) g0, rfl, _, rfl, ite2 (fun _ => ?_) (fun e => absurd (decide_eq_true rfl) e)⟩
      refine ⟨.ref rq, rfl, rq, _, 0, .int kr, rfl, rfl, hS', atI_nat (j := 0) rfl, .ref q0, rfl, q0, xs, 2, .int k, rfl, rfl, hQ', atI_nat (j := 2) hx2, .int kr, .int k, .int _, .int _, rfl, rfl, _, rfl, ?_⟩
      rw [show PyData.eqv (.int kr) (.int k) = decide (kr = k) by show (kr == k) = _; by_cases e : kr = k <;> simp [e]]
      by_cases hkk : kr = k
      · rw [decide_eq_true hkk]
        refine iteT ⟨wV wo, rfl, ?_⟩
        refine ⟨wV (wo), rfl, .ref rq, rfl, _, rfl, rq, _, _, _, rfl, rfl, hS', atI_nat cr, wD (wo), wD (cellAt (cns ts t) col (some kr :: t0)), dp_w _, dp_w _, shaped_w _, shaped_w _, _, rfl, ?_⟩
        rw [eqv_w]
        by_cases hoa : (wo : Option Int) = cellAt (cns ts t) col (some kr :: t0)
        · rw [decide_eq_true hoa]
          refine iteF ⟨⟨_, _, rfl⟩, us, ?_, kk⟩
          rw [et, show pp (some kr :: t0) = false by rw [hpp]; show (decide (kr = k) && !decide (cellAt (cns ts t) col (some kr :: t0) = wo)) = false; rw [decide_eq_true hoa.symm]; exact Bool.and_false _, if_neg Bool.false_ne_true, List.append_nil]
          exact gr
        · rw [decide_eq_false hoa]
          refine iteT ?_
          refine ⟨.ref D5, rfl, .inl ⟨rfl, us, .inl (.inl gr.at')⟩, .str t, rfl, .ref rq, rfl, rq, _, 0, .int kr, rfl, rfl, hS', atI_nat (j := 0) rfl, .str col, rfl, wV (wo), rfl, (by show 4 ≤ sizeLine; decide), fun p2 np2 => ?_⟩
          have nDp : D5 ≠ p2 := ne_of_none gr.at' np2
          have g2 := gr.kept (Kept.upd_new (o := .tup [.str t, .int kr, .str col, wV (wo)]) np2) List.not_mem_nil
          refine ⟨D5, us, .ref p2, rfl, rfl, g2.at', small1000 (by omega), ⟨_, _, rfl⟩, us ++ [.ref p2], ?_, kk.trans ((Kept.upd_new np2).trans (Kept.upd_in (List.mem_cons_self ..)))⟩
          rw [et, show pp (some kr :: t0) = true by rw [hpp]; show (decide (kr = k) && !decide (cellAt (cns ts t) col (some kr :: t0) = wo)) = true; rw [decide_eq_true hkk, decide_eq_false (fun z => hoa z.symm)]; rfl, if_pos rfl, List.map_append]
          exact g2.put (show Dp K _ (.ref p2) (ff (some kr :: t0)) by rw [hff]; exact .tup (.inl (.inl (msk_at upd_same (by simp [nDp.symm])))) (.cons (.str _) (.cons (.int _) (.cons (.str _) (.cons (dp_w _) .nil)))))
      · rw [decide_eq_false hkk]
        refine iteF ?_
        refine ⟨wV (cellAt (cns ts t) col (some kr :: t0)), rfl, .ref rq, rfl, _, rfl, rq, _, _, _, rfl, rfl, hS', atI_nat cr, wD (cellAt (cns ts t) col (some kr :: t0)), wD (cellAt (cns ts t) col (some kr :: t0)), dp_w _, dp_w _, shaped_w _, shaped_w _, _, rfl, ?_⟩
        rw [eqv_w]
        by_cases hoa : (cellAt (cns ts t) col (some kr :: t0) : Option Int) = cellAt (cns ts t) col (some kr :: t0)
        · rw [decide_eq_true hoa]
          refine iteF ⟨⟨_, _, rfl⟩, us, ?_, kk⟩
          rw [et, show pp (some kr :: t0) = false by rw [hpp]; show (decide (kr = k) && !decide (cellAt (cns ts t) col (some kr :: t0) = wo)) = false; rw [decide_eq_false hkk]; rfl, if_neg Bool.false_ne_true, List.append_nil]
          exact gr
        · rw [decide_eq_false hoa]
          refine iteT ?_
          refine ⟨.ref D5, rfl, .inl ⟨rfl, us, .inl (.inl gr.at')⟩, .str t, rfl, .ref rq, rfl, rq, _, 0, .int kr, rfl, rfl, hS', atI_nat (j := 0) rfl, .str col, rfl, wV (cellAt (cns ts t) col (some kr :: t0)), rfl, (by show 4 ≤ sizeLine; decide), fun p2 np2 => ?_⟩
          have nDp : D5 ≠ p2 := ne_of_none gr.at' np2
          have g2 := gr.kept (Kept.upd_new (o := .tup [.str t, .int kr, .str col, wV (cellAt (cns ts t) col (some kr :: t0))]) np2) List.not_mem_nil
          refine ⟨D5, us, .ref p2, rfl, rfl, g2.at', small1000 (by omega), ⟨_, _, rfl⟩, us ++ [.ref p2], ?_, kk.trans ((Kept.upd_new np2).trans (Kept.upd_in (List.mem_cons_self ..)))⟩
          rw [et, show pp (some kr :: t0) = true by exact absurd rfl hoa, if_pos rfl, List.map_append]
          exact g2.put (show Dp K _ (.ref p2) (ff (some kr :: t0)) by exact absurd rfl hoa)
    · obtain ⟨⟨y13, y14, rfl⟩, us, gr, kk⟩ := hP
      rw [lr, List.take_length] at gr
      refine ⟨Nat.zero_le _, fun a na => ⟨.ref D5, rfl, Nat.zero_le _, fun c2 nc => ⟨(by show 3 ≤ sizeLine; decide), fun r nr => ?_⟩⟩⟩
      have k3 := same_upd (o := .lst []) na
      have k4 := same_upd (o := .lst []) nc
      have k5 := same_upd (o := .tup [.ref a, .ref D5, .ref c2]) nr
      refine q4 r _ (s5.trans (s6.trans ((kept_same kk n5).trans (k3.trans (k4.trans k5))))) ?_
      have hown : own (cns ts t) rs (.set t k col wo) = .told [] ((rs.filter pp).map ff) [] := by
        show (if k ∈ rs.map keyW then OwnR.told [] _ [] else _) = _
        rw [if_pos hk, ← hpp, hff]
        congr 1
        refine List.map_congr_left fun r hr => ?_
        have := (List.mem_filter.mp hr).2
        rw [hpp] at this
        have e : keyW r = k := of_decide_eq_true (Bool.and_eq_true_iff.mp this).1
        rw [e]
      rw [show own (cns ts (tabOf (.set t k col wo))) rs (.set t k col wo) = .told [] ((rs.filter pp).map ff) [] from hown]
      exact dp3 upd_same (k5 _ _ (k4 _ _ upd_same)) (k5 _ _ (k4 _ _ (k3 _ _ gr.at'))) (k5 _ _ upd_same) .nil (dpAll_same (k3.trans (k4.trans k5)) (dpAll_same (msk_sub _ _) gr.dp)) .nil
end
end TT

set_option Elab.async false
set_option linter.all false
set_option maxRecDepth 100000
namespace TT
open PySem PySem.Spec PyProof.Rows L2
def rNinT (K : PySem.W.Frag) : R2 := fun x y H Q => ∃ (d : PyData) (ds : List PyData) (p : Addr) (ys : List V), y = .ref p ∧ Dp K H x d ∧ SeqAt.shaped d = true ∧ SqT K H p ys ∧ DpAll K H ys ds ∧ SeqAt.shaped (.list ds) = true ∧ Q (.bl (!ds.any fun z => PyData.eqv z d)) H
theorem op_ninT {X : Cx} (hu : X.A.units + 65 < cLine) : OpR X (compareOp .NotIn) (rNinT X.K) := by
  intro pins s σ H x y v u Q I rx ry h
  obtain ⟨d, ds, p, ys, rfl, hd, sd, he, hds, se, q⟩ := h
  obtain ⟨as, r1⟩ := Dp.reads I d x v hd rx
  obtain ⟨bs, r2⟩ := Dp.reads I (.tuple ds) (.ref p) u (.tup he hds) ry
  exact SeqAt.notIn_tuple_reads r2 r1 (SeqAt.canLay_of_shaped se) (SeqAt.canLay_of_shaped sd) (room_in_shaped sd hu) ⟨.bl _, H, I, rfl, q⟩
structure Cf (K : PySem.W.Frag) (CE CN CT CB CS C : Addr) (b1 b2 : Bool) : Prop where
  kx : KxC K C
  te : PySem.W.exmOne K (.ref C) (.ref CE) = some true
  k1 : PySem.W.kitOne K (.ref C) (.ref CN) = some b1
  k2 : PySem.W.kitOne K (.ref C) (.ref CT) = some b2
  k3 : PySem.W.kitAny K (.ref C) [.ref CB, .ref CS] = some false
  k4 : PySem.W.kitOne K (.ref C) (.type "ValueError") = some true
  ft : PySem.W.findIn K (.ref C) "table" = some none
  fk : PySem.W.findIn K (.ref C) "key" = some none
structure NK (K : PySem.W.Frag) (mg : Str → Option Value) (CE CN CT CB CS : Addr) : Prop where
  b_ValueError : mg "ValueError" = none
  gE : mg "TableError" = some (.ref CE)
  gN : mg "NoRow" = some (.ref CN)
  gT : mg "Taken" = some (.ref CT)
  gB : mg "Barred" = some (.ref CB)
  gS : mg "NoSuch" = some (.ref CS)
  xN : Cf K CE CN CT CB CS CN true false
  xT : Cf K CE CN CT CB CS CT false true
section
variable {P : Program} {w : World} {K : PySem.W.Frag} {mg : Str → Option Value} {base : Heap}
def spTold (K : PySem.W.Frag) : Sp := fun vs H Q _ => ∃ (tp : Addr) (ts : List Tab) (v u : V) (o i r b : Bool) (ct : List (List Rw)) (dd : Deed) (rs : List Rw), vs = [.ref tp, v, u] ∧ Tabs K H tp ts ∧ Dp K H v (handD o i r ct) ∧ At ts ct (tabOf dd) rs ∧
  DeedOk ts dd ∧ Dp K H u (deedF b dd) ∧ (∀ g c r, own (cns ts (tabOf dd)) rs dd = .told g c r → toldP K Q g c r H) ∧
  (∀ t k, own (cns ts (tabOf dd)) rs dd = .norow t k → ∀ (r : Addr) (H' : Hp), Same H H' → SqT K H' r [.str "norow", .str t, .int k] → Q (.ref r) H') ∧
  (∀ t k, own (cns ts (tabOf dd)) rs dd = .taken t k → ∀ (r : Addr) (H' : Hp), Same H H' → SqT K H' r [.str "taken", .str t, .int k] → Q (.ref r) H')
abbrev s_law_told : Stmt := topS 36
abbrev N_law_told : List Str := ["tables", "content", "deed", "found", "caught", "error", "kinds"]
theorem sc_law_told : FnScope N_law_told ["tables", "content", "deed"] (defScope s_law_told) := ⟨rfl, rfl, rfl, by decide +kernel, rfl, by decide +kernel, by decide +kernel⟩

set_option maxHeartbeats 4000000 in
theorem ok_law_told {CE CN CT CB CS : Addr} {f : Addr} {fd : FuncData} (ne : NK K mg CE CN CT CB CS) (F : Fun K "_law_told" "_law_told" s_law_told f fd) (nb : NB mg) (D_own_part : DefX P w K mg base 6 "own_part" ["tables", "content", "deed"] (spOwn K CN CT)) : FnOk P w K mg base CX0 7 f fd ["tables", "content", "deed"] (spTold K) := by
  refine F.ok sc_law_told (fun vs H Q E h => ?_) (fun cdv A outer sh H vs Q E hr h => ?_)
  · obtain ⟨tp, ts, v, u, o, i, r, b, ct, dd, rs, rfl, _⟩ := h
    rfl
  obtain ⟨tp, ts, v, u, o, i, r, b, ct, dd, rs, rfl, hT, hd, hA, okd, hu', qT, qN, qK⟩ := h
  have nd := sc_law_told.nd
  refine ⟨_, (pss_cons (ps_asg (pe_tup (pa_cons pe_non (pa_cons pe_non pa_nil))) (pg_tup rfl (pgs_cons (pg_name (i := 3) nd rfl (Or.inl rfl)) (pgs_cons (pg_name (i := 4) nd rfl (Or.inl rfl)) pgs_nil))))
      (pss_cons (ps_try_keep (i := 5) (j := 4) (c := .ref CE) (Wout := fun _ _ _ _ => False) rfl rfl nd rfl rfl rfl (by decide) rfl ⟨rfl, by decide, Or.inl ne.gE⟩ takes0
        (fun W pn xe tk _ => pss_one (ps_set (i := 3) nd rfl (Or.inl rfl) (by exact (pe_ownX D_own_part hr tk (pa_cons (pv 0) (pa_cons (pv 1) (pa_cons (pv 2) pa_nil)))))))
        (fun a oe pn => pss_one (ps_set (i := 4) nd rfl (Or.inl rfl) (pv 5))))
      (pss_cons (ps_if (pt_cmpR op_isN (pv 4) pe_non (nomark _))
        (pss_one (ps_ret (pv 3)))
        pss_nil)
      (pss_cons (ps_set (i := 6) nd rfl (Or.inl rfl) (pe_lst (pa_cons (pe_callB call_isX (by rfl) nb.b_isinstance (by decide +kernel) (pa_cons (pv 4) (pa_cons (pe_glob (v := .ref CN) (by rfl) ne.gN rfl) pa_nil))) (pa_cons (pe_callB call_isX (by rfl) nb.b_isinstance (by decide +kernel) (pa_cons (pv 4) (pa_cons (pe_glob (v := .ref CT) (by rfl) ne.gT rfl) pa_nil))) (pa_cons (pe_callB call_isXT (by rfl) nb.b_isinstance (by decide +kernel) (pa_cons (pv 4) (pa_cons (pe_tup (pa_cons (pe_glob (v := .ref CB) (by rfl) ne.gB rfl) (pa_cons (pe_glob (v := .ref CS) (by rfl) ne.gS rfl) pa_nil))) pa_nil))) pa_nil)))))
      (pss_cons (ps_if (PW.pt (pw_or (pt_cmpR (op_ninT (u65 hr)) (pv 6) (pe_tup (pa_cons (pe_lst (pa_cons pe_bl (pa_cons pe_bl (pa_cons pe_bl pa_nil)))) (pa_cons (pe_lst (pa_cons pe_bl (pa_cons pe_bl (pa_cons pe_bl pa_nil)))) pa_nil))) (by rfl)) (pw_or1 (pt_not (pt_val (pe_callB call_isX (by rfl) nb.b_isinstance (by decide +kernel) (pa_cons (pv 4) (pa_cons (pe_bltn (v := .ty "ValueError") (by rfl) ne.b_ValueError (by decide +kernel) rfl) pa_nil))))))))
        (pss_one (ps_ret pe_str))
        pss_nil)
      (pss_one (ps_ret (pe_tup (pa_cons (pe_ix ix_list (pe_lst (pa_cons pe_str (pa_cons pe_str pa_nil))) (pe_bm PySem.F.plainAttrs_list PySem.F.slot_list_index PySem.F.type_list_index mt_index (pv 6) (pa_cons pe_bl pa_nil)) (fun _ _ => rfl)) (pa_cons (pe_xk (pv 4)) (pa_cons (pe_xk (pv 4)) pa_nil))))))))))), ?_⟩
  refine ⟨(by show 2 ≤ sizeLine; decide), fun t0 n0 => ⟨t0, _, rfl, .inl (.inl upd_same), rfl, .non, _, rfl, .non, _, rfl, rfl, ?_⟩⟩
  have s0 := same_upd (o := .tup [.non, .non]) n0
  refine ⟨.ref tp, rfl, v, rfl, u, rfl, tp, ts, v, u, o, i, r, b, ct, dd, rs, rfl, hT.same s0, dp_same s0 hd, hA, okd, dp_same s0 hu', fun g c r ho => ?_, fun t k ho => ?_, fun t k ho => ?_⟩
  · intro p D1 D2 D3 u1 u2 u3 H' s n1 n2 n3 n4 e1 e2 e3 e4 d1 d2 d3
    refine ⟨.non, rfl, rfl, _, rfl, iteT ?_⟩
    exact ⟨.ref p, rfl, qT g c r ho p D1 D2 D3 u1 u2 u3 H' (s0.trans s) (Same.free s0 n1) (Same.free s0 n2) (Same.free s0 n3) (Same.free s0 n4) e1 e2 e3 e4 d1 d2 d3⟩
  · intro d H1 s1 hd
    refine ⟨true, ne.xN.te, fun _ a na => ?_, fun z => by cases z⟩
    have hda : d ≠ a := ne_of_none upd_same na
    have sA : Same H (upd (upd H1 d (.xd [(kK, .int k), (kT, .str t)])) a (exk a (.ref CN) (some d))) := (s0.trans s1).trans ((same_upd hd).trans (same_upd na))
    have eD : (upd (upd H1 d (.xd [(kK, .int k), (kT, .str t)])) a (exk a (.ref CN) (some d))) d = some (.xd [(kK, .int k), (kT, .str t)]) := by rw [upd_ne hda, upd_same]
    have eA : (upd (upd H1 d (.xd [(kK, .int k), (kT, .str t)])) a (exk a (.ref CN) (some d))) a = some (exk a (.ref CN) (some d)) := upd_same
    generalize upd (upd H1 d (.xd [(kK, .int k), (kT, .str t)])) a (exk a (.ref CN) (some d)) = HA at sA eD eA ⊢
    refine ⟨.ref a, rfl, rfl, _, rfl, iteF ?_⟩
    refine ⟨.ref a, rfl, a, CN, d, _, .ref CN, _, _, rfl, eA, eD, ne.xN.kx, .own CN, ne.xN.k1, ?_⟩
    refine ⟨.ref a, rfl, a, CN, d, _, .ref CT, _, _, rfl, eA, eD, ne.xN.kx, .own CT, ne.xN.k2, ?_⟩
    refine ⟨.ref a, rfl, (by show 2 ≤ sizeLine; decide), fun tq ntq => ?_⟩
    have sq := same_upd (o := .tup [.ref CB, .ref CS]) ntq
    refine ⟨a, CN, d, tq, _, _, _, _, rfl, sq _ _ eA, sq _ _ eD, ne.xN.kx, upd_same, .cons (.own CB) (.cons (.own CS) .nil), ne.xN.k3, (by show 3 ≤ sizeLine; decide), fun kd nkd => ?_⟩
    have sk := same_upd (o := .lst [.bl true, .bl false, .bl false]) nkd
    have eA2 := sk _ _ (sq _ _ eA)
    have eD2 := sk _ _ (sq _ _ eD)
    have eK : (upd (upd HA tq (.tup [.ref CB, .ref CS])) kd (.lst [.bl true, .bl false, .bl false])) kd = some (.lst [.bl true, .bl false, .bl false]) := upd_same
    have sA2 := sA.trans (sq.trans sk)
    generalize upd (upd HA tq (.tup [.ref CB, .ref CS])) kd (.lst [.bl true, .bl false, .bl false]) = HB at sA2 eA2 eD2 eK ⊢
    refine ⟨.ref kd, rfl, (by show 3 ≤ sizeLine; decide), fun l1 nl1 => ⟨(by show 3 ≤ sizeLine; decide), fun l2 nl2 => ⟨(by show 2 ≤ sizeLine; decide), fun l3 nl3 => ?_⟩⟩⟩
    have m1 := same_upd (o := .lst [.bl true, .bl false, .bl false]) nl1
    have m2 := same_upd (o := .lst [.bl false, .bl true, .bl false]) nl2
    have m3 := same_upd (o := .tup [.ref l1, .ref l2]) nl3
    have e1 := m3 _ _ (m2 _ _ (upd_same (H := HB) (a := l1) (o := .lst [.bl true, .bl false, .bl false])))
    have e2 := m3 _ _ (upd_same (H := upd HB l1 (.lst [.bl true, .bl false, .bl false])) (a := l2) (o := .lst [.bl false, .bl true, .bl false]))
    have mm := m1.trans (m2.trans m3)
    refine ⟨.list [.bool true, .bool false, .bool false], [.list [.bool true, .bool false, .bool false], .list [.bool false, .bool true, .bool false]], l3, _, rfl, .lst (.inl (.inl (mm _ _ eK))) (.cons (.bl _) (.cons (.bl _) (.cons (.bl _) .nil))), rfl, .inl (.inl upd_same),
      .cons (.lst (.inl (.inl e1)) (.cons (.bl _) (.cons (.bl _) (.cons (.bl _) .nil)))) (.cons (.lst (.inl (.inl e2)) (.cons (.bl _) (.cons (.bl _) (.cons (.bl _) .nil)))) .nil), rfl, _, rfl, iteF ?_⟩
    have eA3 := mm _ _ eA2
    have eD3 := mm _ _ eD2
    have eK3 := mm _ _ eK
    have sA3 := sA2.trans mm
    generalize upd (upd (upd HB l1 (.lst [.bl true, .bl false, .bl false])) l2 (.lst [.bl false, .bl true, .bl false])) l3 (.tup [.ref l1, .ref l2]) = HC at sA3 eA3 eD3 eK3 ⊢
    refine ⟨.ref a, rfl, a, CN, d, _, .ty "ValueError", _, _, rfl, eA3, eD3, ne.xN.kx, .ty _, ne.xN.k4, _, rfl, iteF ?_⟩
    refine ⟨(by show 2 ≤ sizeLine; decide), fun w3 nw => ?_⟩
    have sw := same_upd (o := .lst [.str "norow", .str "taken"]) nw
    refine ⟨.ref kd, rfl, .inl ⟨rfl, _, .inl (.inl (sw _ _ eK3))⟩, kd, _, .bl true, 0, .bl true, rfl, rfl, .inl (.inl (sw _ _ eK3)), rfl, rfl, rfl, rfl, (fun m z hm hz => ?_), ?_⟩
    · exact absurd hm (Nat.not_lt_zero m)

    refine ⟨w3, _, _, .str "norow", rfl, rfl, .inl (.inl upd_same), rfl, ?_⟩
    refine ⟨.ref a, rfl, a, CN, d, _, .str t, rfl, sw _ _ eA3, sw _ _ eD3, ne.xN.kx, ne.xN.ft, rfl, .ref a, rfl, a, CN, d, _, .int k, rfl, sw _ _ eA3, sw _ _ eD3, ne.xN.kx, ne.xN.fk, rfl, (by show 3 ≤ sizeLine; decide), fun r2 nr2 => ?_⟩
    exact qN t k ho r2 _ (sA3.trans (sw.trans (same_upd nr2))) (.inl (.inl upd_same))
  · intro d H1 s1 hd
    refine ⟨true, ne.xT.te, fun _ a na => ?_, fun z => by cases z⟩
    have hda : d ≠ a := ne_of_none upd_same na
    have sA : Same H (upd (upd H1 d (.xd [(kK, .int k), (kT, .str t)])) a (exk a (.ref CT) (some d))) := (s0.trans s1).trans ((same_upd hd).trans (same_upd na))
    have eD : (upd (upd H1 d (.xd [(kK, .int k), (kT, .str t)])) a (exk a (.ref CT) (some d))) d = some (.xd [(kK, .int k), (kT, .str t)]) := by rw [upd_ne hda, upd_same]
    have eA : (upd (upd H1 d (.xd [(kK, .int k), (kT, .str t)])) a (exk a (.ref CT) (some d))) a = some (exk a (.ref CT) (some d)) := upd_same
    generalize upd (upd H1 d (.xd [(kK, .int k), (kT, .str t)])) a (exk a (.ref CT) (some d)) = HA at sA eD eA ⊢
    refine ⟨.ref a, rfl, rfl, _, rfl, iteF ?_⟩
    refine ⟨.ref a, rfl, a, CT, d, _, .ref CN, _, _, rfl, eA, eD, ne.xT.kx, .own CN, ne.xT.k1, ?_⟩
    refine ⟨.ref a, rfl, a, CT, d, _, .ref CT, _, _, rfl, eA, eD, ne.xT.kx, .own CT, ne.xT.k2, ?_⟩
    refine ⟨.ref a, rfl, (by show 2 ≤ sizeLine; decide), fun tq ntq => ?_⟩
    have sq := same_upd (o := .tup [.ref CB, .ref CS]) ntq
    refine ⟨a, CT, d, tq, _, _, _, _, rfl, sq _ _ eA, sq _ _ eD, ne.xT.kx, upd_same, .cons (.own CB) (.cons (.own CS) .nil), ne.xT.k3, (by show 3 ≤ sizeLine; decide), fun kd nkd => ?_⟩
    have sk := same_upd (o := .lst [.bl false, .bl true, .bl false]) nkd
    have eA2 := sk _ _ (sq _ _ eA)
    have eD2 := sk _ _ (sq _ _ eD)
    have eK : (upd (upd HA tq (.tup [.ref CB, .ref CS])) kd (.lst [.bl false, .bl true, .bl false])) kd = some (.lst [.bl false, .bl true, .bl false]) := upd_same
    have sA2 := sA.trans (sq.trans sk)
    generalize upd (upd HA tq (.tup [.ref CB, .ref CS])) kd (.lst [.bl false, .bl true, .bl false]) = HB at sA2 eA2 eD2 eK ⊢
    refine ⟨.ref kd, rfl, (by show 3 ≤ sizeLine; decide), fun l1 nl1 => ⟨(by show 3 ≤ sizeLine; decide), fun l2 nl2 => ⟨(by show 2 ≤ sizeLine; decide), fun l3 nl3 => ?_⟩⟩⟩
    have m1 := same_upd (o := .lst [.bl true, .bl false, .bl false]) nl1
    have m2 := same_upd (o := .lst [.bl false, .bl true, .bl false]) nl2
    have m3 := same_upd (o := .tup [.ref l1, .ref l2]) nl3
    have e1 := m3 _ _ (m2 _ _ (upd_same (H := HB) (a := l1) (o := .lst [.bl true, .bl false, .bl false])))
    have e2 := m3 _ _ (upd_same (H := upd HB l1 (.lst [.bl true, .bl false, .bl false])) (a := l2) (o := .lst [.bl false, .bl true, .bl false]))
    have mm := m1.trans (m2.trans m3)
    refine ⟨.list [.bool false, .bool true, .bool false], [.list [.bool true, .bool false, .bool false], .list [.bool false, .bool true, .bool false]], l3, _, rfl, .lst (.inl (.inl (mm _ _ eK))) (.cons (.bl _) (.cons (.bl _) (.cons (.bl _) .nil))), rfl, .inl (.inl upd_same),
      .cons (.lst (.inl (.inl e1)) (.cons (.bl _) (.cons (.bl _) (.cons (.bl _) .nil)))) (.cons (.lst (.inl (.inl e2)) (.cons (.bl _) (.cons (.bl _) (.cons (.bl _) .nil)))) .nil), rfl, _, rfl, iteF ?_⟩
    have eA3 := mm _ _ eA2
    have eD3 := mm _ _ eD2
    have eK3 := mm _ _ eK
    have sA3 := sA2.trans mm
    generalize upd (upd (upd HB l1 (.lst [.bl true, .bl false, .bl false])) l2 (.lst [.bl false, .bl true, .bl false])) l3 (.tup [.ref l1, .ref l2]) = HC at sA3 eA3 eD3 eK3 ⊢
    refine ⟨.ref a, rfl, a, CT, d, _, .ty "ValueError", _, _, rfl, eA3, eD3, ne.xT.kx, .ty _, ne.xT.k4, _, rfl, iteF ?_⟩
    refine ⟨(by show 2 ≤ sizeLine; decide), fun w3 nw => ?_⟩
    have sw := same_upd (o := .lst [.str "norow", .str "taken"]) nw
    refine ⟨.ref kd, rfl, .inl ⟨rfl, _, .inl (.inl (sw _ _ eK3))⟩, kd, _, .bl true, 1, .bl true, rfl, rfl, .inl (.inl (sw _ _ eK3)), rfl, rfl, rfl, rfl, (fun m z hm hz => ?_), ?_⟩
    · obtain rfl : m = 0 := by omega
      cases hz; rfl
    refine ⟨w3, _, _, .str "taken", rfl, rfl, .inl (.inl upd_same), rfl, ?_⟩
    refine ⟨.ref a, rfl, a, CT, d, _, .str t, rfl, sw _ _ eA3, sw _ _ eD3, ne.xT.kx, ne.xT.ft, rfl, .ref a, rfl, a, CT, d, _, .int k, rfl, sw _ _ eA3, sw _ _ eD3, ne.xT.kx, ne.xT.fk, rfl, (by show 3 ≤ sizeLine; decide), fun r2 nr2 => ?_⟩
    exact qK t k ho r2 _ (sA3.trans (sw.trans (same_upd nr2))) (.inl (.inl upd_same))
end
end TT

set_option Elab.async false
set_option linter.all false
set_option maxRecDepth 100000
namespace TT
open PySem PySem.Spec PyProof.Rows L2
theorem deed_nice {ts : List Tab} (okt : TabsOk 5 ts) {dd : Deed} (h : DeedOk ts dd) : Nice 1000000000 61 (deedD dd) ∧ wt (deedD dd) ≤ 600 ∧ (deedD dd).depth ≤ 2 := by
  have nt : ∀ t, t ∈ tns ts → Nice 1000000000 61 (.str t) ∧ wt (.str t) ≤ 92 := fun t ht => name_nice (tns_ok okt t ht) _ _
  have nc : ∀ t col, t ∈ tns ts → col ∈ cns ts t → Nice 1000000000 61 (.str col) ∧ wt (.str col) ≤ 92 := fun t col ht hc => name_nice ((cns_ok okt ht).1 col hc) _ _
  have nw : ∀ s : Str, nameB (.str s) = true → Nice 1000000000 61 (.str s) ∧ wt (.str s) ≤ 92 := fun s hs => name_nice (nameB_ok hs) _ _
  have ni : ∀ i : Int, BOk i → Nice 1000000000 61 (.int i) := fun i hi => by have := hi.1; have := hi.2; show i.natAbs ≤ 1000000000; omega
  cases dd with
  | put t r =>
    obtain ⟨h1, h2⟩ := h
    obtain ⟨a1, a2⟩ := nw "put" (by decide +kernel)
    obtain ⟨b1, b2⟩ := nt t h1
    obtain ⟨c1, c2, c3⟩ := row61 (cns_ok okt h1).2.2.1 h2
    refine ⟨⟨by show 3 ≤ 61; decide, a1, b1, c1, trivial⟩, ?_, ?_⟩
    · show 6 + (wt (.str "put") + 3 + (wt (.str t) + 3 + (wt (rowD r) + 3 + 0))) ≤ 600; omega
    · show max 0 (max 0 (max (rowD r).depth 0)) + 1 ≤ 2; omega
  | drop t k =>
    obtain ⟨h1, h2⟩ := h
    obtain ⟨a1, a2⟩ := nw "drop" (by decide +kernel)
    obtain ⟨b1, b2⟩ := nt t h1
    refine ⟨⟨by show 3 ≤ 61; decide, a1, b1, ni k h2, trivial⟩, ?_, by show max 0 (max 0 (max 0 0)) + 1 ≤ 2; decide⟩
    show 6 + (wt (.str "drop") + 3 + (wt (.str t) + 3 + (25 + 3 + 0))) ≤ 600; omega
  | sweep t col o =>
    obtain ⟨h1, h2, h3⟩ := h
    obtain ⟨a1, a2⟩ := nw "sweep" (by decide +kernel)
    obtain ⟨b1, b2⟩ := nt t h1
    obtain ⟨c1, c2⟩ := nc t col h1 h2
    obtain ⟨d1, d2, d3⟩ := w61 h3 61
    refine ⟨⟨by show 4 ≤ 61; decide, a1, b1, c1, d1, trivial⟩, ?_, ?_⟩
    · show 6 + (wt (.str "sweep") + 3 + (wt (.str t) + 3 + (wt (.str col) + 3 + (wt (wD o) + 3 + 0)))) ≤ 600; omega
    · show max 0 (max 0 (max 0 (max (wD o).depth 0))) + 1 ≤ 2; omega
  | shift t col b =>
    obtain ⟨h1, h2, h3⟩ := h
    obtain ⟨a1, a2⟩ := nw "shift" (by decide +kernel)
    obtain ⟨b1, b2⟩ := nt t h1
    obtain ⟨c1, c2⟩ := nc t col h1 h2
    refine ⟨⟨by show 4 ≤ 61; decide, a1, b1, c1, ni b h3, trivial⟩, ?_, by show max 0 (max 0 (max 0 (max 0 0))) + 1 ≤ 2; decide⟩
    show 6 + (wt (.str "shift") + 3 + (wt (.str t) + 3 + (wt (.str col) + 3 + (25 + 3 + 0)))) ≤ 600; omega
  | set t k col o =>
    obtain ⟨h1, h2, h3, h4, _⟩ := h
    obtain ⟨a1, a2⟩ := nw "set" (by decide +kernel)
    obtain ⟨b1, b2⟩ := nt t h1
    obtain ⟨c1, c2⟩ := nc t col h1 h3
    obtain ⟨d1, d2, d3⟩ := w61 h4 61
    refine ⟨⟨by show 5 ≤ 61; decide, a1, b1, ni k h2, c1, d1, trivial⟩, ?_, ?_⟩
    · show 6 + (wt (.str "set") + 3 + (wt (.str t) + 3 + (25 + 3 + (wt (.str col) + 3 + (wt (wD o) + 3 + 0))))) ≤ 600; omega
    · show max 0 (max 0 (max 0 (max 0 (max (wD o).depth 0)))) + 1 ≤ 2; omega
theorem deedF_nice {ts : List Tab} (okt : TabsOk 5 ts) {dd : Deed} (h : DeedOk ts dd) (b : Bool) : Nice 1000000000 61 (deedF b dd) ∧ wt (deedF b dd) ≤ 600 ∧ (deedF b dd).depth ≤ 2 := by
  have := deed_nice okt h
  cases b with
  | true => rw [deedF_eq]; exact this
  | false => cases dd <;> exact this
theorem sum_few : ∀ {l : List Nat} {n : Nat}, (∀ x ∈ l, x ≤ n) → l.sum ≤ l.length * n
  | [], _, _ => Nat.zero_le _
  | a :: l, n, h => by
    have h1 := h a (List.mem_cons_self ..)
    have h2 := sum_few fun y hy => h y (List.mem_cons_of_mem a hy)
    rw [List.sum_cons, List.length_cons, Nat.add_mul]
    omega
theorem hand_nice {L : Nat} {ts : List Tab} {ct : List (List Rw)} (h : ContOk L ts ct) (okt : TabsOk 5 ts) (l8 : ts.length ≤ 8) (hs : (ct.map List.length).sum ≤ 61) (o i r : Bool) : Nice 1000000000 61 (handD o i r ct) ∧ wt (handD o i r ct) ≤ 9200 ∧ (handD o i r ct).depth ≤ 3 := by
  obtain ⟨h1, h2, h3⟩ := cont_nice h okt l8 hs
  have e1 : ∀ ds : List PyData, (Nice 1000000000 61 (seqD o ds) ↔ Nice 1000000000 61 (.list ds)) ∧ wt (seqD o ds) = wt (.list ds) ∧ (seqD o ds).depth = (PyData.list ds).depth := fun ds => by cases o <;> exact ⟨Iff.rfl, rfl, rfl⟩
  have e2 : ∀ ds : List PyData, (Nice 1000000000 61 (seqD i ds) ↔ Nice 1000000000 61 (.list ds)) ∧ wt (seqD i ds) = wt (.list ds) ∧ (seqD i ds).depth = (PyData.list ds).depth := fun ds => by cases i <;> exact ⟨Iff.rfl, rfl, rfl⟩
  have e3 : ∀ ds : List PyData, (Nice 1000000000 61 (seqD r ds) ↔ Nice 1000000000 61 (.tuple ds)) ∧ wt (seqD r ds) = wt (.tuple ds) ∧ (seqD r ds).depth = (PyData.tuple ds).depth := fun ds => by cases r <;> exact ⟨Iff.rfl, rfl, rfl⟩
  have wA : ∀ {α : Type} (f g : α → PyData) (l : List α), (∀ x, wt (f x) = wt (g x)) → wtAll (l.map f) = wtAll (l.map g) := fun {α} f g l hh => by
    induction l with
    | nil => rfl
    | cons x l ih => show wt (f x) + 3 + wtAll (l.map f) = wt (g x) + 3 + wtAll (l.map g); rw [hh, ih]
  have dA : ∀ {α : Type} (f g : α → PyData) (l : List α), (∀ x, (f x).depth = (g x).depth) → PyData.depthAll (l.map f) = PyData.depthAll (l.map g) := fun {α} f g l hh => by
    induction l with
    | nil => rfl
    | cons x l ih => show max (f x).depth (PyData.depthAll (l.map f)) = max (g x).depth (PyData.depthAll (l.map g)); rw [hh, ih]
  have nA : ∀ {α : Type} (f g : α → PyData) (l : List α), (∀ x, Nice 1000000000 61 (f x) ↔ Nice 1000000000 61 (g x)) → NiceAll 1000000000 61 (l.map g) → NiceAll 1000000000 61 (l.map f) := fun {α} f g l hh hn => niceAll_iff.mpr fun d hd => by
    obtain ⟨x, hx, rfl⟩ := List.mem_map.mp hd
    exact (hh x).mpr (niceAll_iff.mp hn _ (List.mem_map.mpr ⟨x, hx, rfl⟩))
  have r1 : ∀ rs : List Rw, (Nice 1000000000 61 (seqD i (rs.map fun row => seqD r (row.map wD))) ↔ Nice 1000000000 61 (rowsD rs)) ∧ wt (seqD i (rs.map fun row => seqD r (row.map wD))) = wt (rowsD rs) ∧ (seqD i (rs.map fun row => seqD r (row.map wD))).depth = (rowsD rs).depth := fun rs => by
    obtain ⟨a1, a2, a3⟩ := e2 (rs.map fun row => seqD r (row.map wD))
    refine ⟨a1.trans ⟨fun z => ⟨by have := z.1; rw [List.length_map] at this ⊢; exact this, nA _ _ _ (fun x => (e3 _).1.symm) z.2⟩, fun z => ⟨by have := z.1; rw [List.length_map] at this ⊢; exact this, nA _ _ _ (fun x => (e3 _).1) z.2⟩⟩, a2.trans ?_, a3.trans ?_⟩
    · show 6 + wtAll _ = 6 + wtAll _
      rw [wA _ _ _ fun x => (e3 _).2.1]; rfl
    · show PyData.depthAll _ + 1 = PyData.depthAll _ + 1
      rw [dA _ _ _ fun x => (e3 _).2.2]; rfl
  obtain ⟨a1, a2, a3⟩ := e1 (ct.map fun rs => seqD i (rs.map fun row => seqD r (row.map wD)))
  refine ⟨a1.mpr ⟨by have := h1.1; rw [List.length_map] at this ⊢; exact this, nA _ _ _ (fun x => (r1 x).1) h1.2⟩, ?_, ?_⟩
  · refine Nat.le_trans (Nat.le_of_eq (a2.trans ?_)) h2
    show 6 + wtAll _ = 6 + wtAll _
    rw [wA _ _ _ fun x => (r1 x).2.1]
  · refine Nat.le_trans (Nat.le_of_eq (a3.trans ?_)) h3
    show PyData.depthAll _ + 1 = PyData.depthAll _ + 1
    rw [dA _ _ _ fun x => (r1 x).2.2]
theorem key_ok {n : Nat} {r : Rw} (h : RwOk n r) : (keyW r).natAbs ≤ 1000000000 := by
  obtain ⟨k, t, rfl⟩ := h.key
  have hw : WOk (some k) := h.w (some k) (List.mem_cons_self ..)
  have h1 := hw.1
  have h2 := hw.2
  show k.natAbs ≤ 1000000000
  omega
theorem cell_ok {n : Nat} {r : Rw} (h : RwOk n r) (zs : List Str) (col : Str) : WOk (cellAt zs col r) := by
  unfold cellAt
  cases e : r[zs.idxOf col]? with
  | none => rw [List.getD_eq_getElem?_getD, e]; trivial
  | some o => rw [getD_of e]; exact h.w o (List.mem_of_getElem? e)
abbrev Fair (d : PyData) : Prop := Nice (10 ^ 12) 900 d ∧ d.depth ≤ 2
theorem res3 {g c r : List PyData} (hg : ∀ d ∈ g, Fair d) (hc : ∀ d ∈ c, Fair d) (hr : ∀ d ∈ r, Fair d) (lg : g.length ≤ 900) (lc : c.length ≤ 900) (lr : r.length ≤ 900) : Nice (10 ^ 12) 900 (resD (.told g c r)) ∧ (resD (.told g c r)).depth < 6 := by
  have dg : PyData.depthAll g ≤ 2 := depthAll_le fun d hd => (hg d hd).2
  have dc : PyData.depthAll c ≤ 2 := depthAll_le fun d hd => (hc d hd).2
  have dr : PyData.depthAll r ≤ 2 := depthAll_le fun d hd => (hr d hd).2
  refine ⟨⟨by show 3 ≤ 900; decide, ⟨lg, niceAll_iff.mpr fun d hd => (hg d hd).1⟩, ⟨lc, niceAll_iff.mpr fun d hd => (hc d hd).1⟩, ⟨lr, niceAll_iff.mpr fun d hd => (hr d hd).1⟩, trivial⟩, ?_⟩
  show max (PyData.depthAll g + 1) (max (PyData.depthAll c + 1) (max (PyData.depthAll r + 1) 0)) + 1 < 6
  omega
theorem own_nice {ts : List Tab} (okt : TabsOk 5 ts) {dd : Deed} (okd : DeedOk ts dd) {ct : List (List Rw)} {rs : List Rw} (hA : At ts ct (tabOf dd) rs) : Nice (10 ^ 12) 900 (resD (own (cns ts (tabOf dd)) rs dd)) ∧ (resD (own (cns ts (tabOf dd)) rs dd)).depth < 6 := by
  have few := hA.few
  have nt : Nice (10 ^ 12) 900 (.str (tabOf dd)) := (name_nice (tns_ok okt _ hA.mem) _ _).1
  have nc : ∀ col, col ∈ cns ts (tabOf dd) → Nice (10 ^ 12) 900 (.str col) := fun col hc => (name_nice ((cns_ok okt hA.mem).1 col hc) _ _).1
  have ni : ∀ i : Int, i.natAbs ≤ 10 ^ 12 → Nice (10 ^ 12) 900 (.int i) := fun i h => h
  have nk : ∀ r ∈ rs, Nice (10 ^ 12) 900 (.int (keyW r)) := fun r hr => ni _ (Nat.le_trans (key_ok (hA.ok.row r hr)) (by decide))
  have nb : ∀ k : Int, BOk k → Nice (10 ^ 12) 900 (.int k) := fun k h => ni _ (by have := h.1; have := h.2; omega)
  have nw : ∀ {o : Option Int}, WOk o → Nice (10 ^ 12) 900 (wD o) ∧ (wD o).depth = 0 := fun {o} h => ⟨(w61 h 900).1.mono (by decide) (by decide), (w61 h 900).2.2⟩
  have g2 : ∀ {t : Str} {k : Int}, Nice (10 ^ 12) 900 (.str t) → Nice (10 ^ 12) 900 (.int k) → Fair (.tuple [.str t, .int k]) := fun a b => ⟨⟨by show 2 ≤ 900; decide, a, b, trivial⟩, by show max 0 (max 0 0) + 1 ≤ 2; decide⟩
  have g4 : ∀ {t c : Str} {k : Int} {d : PyData}, Nice (10 ^ 12) 900 (.str t) → Nice (10 ^ 12) 900 (.int k) → Nice (10 ^ 12) 900 (.str c) → Nice (10 ^ 12) 900 d → d.depth = 0 → Fair (.tuple [.str t, .int k, .str c, d]) := fun {t c k d} a b e h z => ⟨⟨by show 4 ≤ 900; decide, a, b, e, h, trivial⟩, by show max 0 (max 0 (max 0 (max d.depth 0))) + 1 ≤ 2; omega⟩
  have no : ∀ {w t : Str} {k : Int}, Nice (10 ^ 12) 900 (.str w) → Nice (10 ^ 12) 900 (.str t) → Nice (10 ^ 12) 900 (.int k) → Nice (10 ^ 12) 900 (.tuple [.str w, .str t, .int k]) ∧ (PyData.tuple [.str w, .str t, .int k]).depth < 6 := fun a b c => ⟨⟨by show 3 ≤ 900; decide, a, b, c, trivial⟩, by show max 0 (max 0 (max 0 0)) + 1 < 6; decide⟩
  have nn : Nice (10 ^ 12) 900 (.str "norow") := (name_nice (nameB_ok (z := "norow") (by decide +kernel)) _ _).1
  have nT : Nice (10 ^ 12) 900 (.str "taken") := (name_nice (nameB_ok (z := "taken") (by decide +kernel)) _ _).1
  have nil : ∀ d ∈ ([] : List PyData), Fair d := fun d h => absurd h List.not_mem_nil
  cases dd with
  | put t r =>
    obtain ⟨h1, h2⟩ := okd
    obtain ⟨c1, _, c3⟩ := row61 (cns_ok okt h1).2.2.1 h2
    show Nice _ _ (resD (if keyW r ∈ rs.map keyW then .taken t (keyW r) else .told [] [] [.tuple [.str t, rowD r]])) ∧ _ < 6
    by_cases hk : keyW r ∈ rs.map keyW
    · rw [show own (cns ts (tabOf (.put t r))) rs (.put t r) = .taken t (keyW r) from if_pos hk, if_pos hk]
      exact no nT nt (ni _ (Nat.le_trans (key_ok h2) (by decide)))
    · rw [show own (cns ts (tabOf (.put t r))) rs (.put t r) = .told [] [] [.tuple [.str t, rowD r]] from if_neg hk, if_neg hk]
      refine res3 nil nil (fun d hd => ?_) (Nat.zero_le _) (Nat.zero_le _) (by show 1 ≤ 900; decide)
      rw [List.mem_singleton.mp hd]
      exact ⟨⟨by show 2 ≤ 900; decide, nt, c1.mono (by decide) (by decide), trivial⟩, by show max 0 (max (rowD r).depth 0) + 1 ≤ 2; omega⟩
  | drop t k =>
    obtain ⟨h1, h2⟩ := okd
    by_cases hk : k ∈ rs.map keyW
    · rw [show own (cns ts (tabOf (.drop t k))) rs (.drop t k) = .told [.tuple [.str t, .int k]] [] [] from if_pos hk]
      refine res3 (fun d hd => ?_) nil nil (by show 1 ≤ 900; decide) (Nat.zero_le _) (Nat.zero_le _)
      rw [List.mem_singleton.mp hd]
      exact g2 nt (nb k h2)
    · rw [show own (cns ts (tabOf (.drop t k))) rs (.drop t k) = .norow t k from if_neg hk]
      exact no nn nt (nb k h2)
  | sweep t col o =>
    refine res3 (fun d hd => ?_) nil nil ?_ (Nat.zero_le _) (Nat.zero_le _)
    · obtain ⟨r, hr, rfl⟩ := List.mem_map.mp hd
      exact g2 nt (nk r (List.mem_filter.mp hr).1)
    · rw [List.length_map]
      exact Nat.le_trans (List.length_filter_le _ _) few
  | shift t col b =>
    obtain ⟨h1, h2, h3⟩ := okd
    refine res3 nil (fun d hd => ?_) nil (Nat.zero_le _) ?_ (Nat.zero_le _)
    · by_cases hb : b = 0
      · rw [if_pos hb] at hd; exact absurd hd List.not_mem_nil
      · rw [if_neg hb] at hd
        obtain ⟨r, hr, rfl⟩ := List.mem_map.mp hd
        have hr := (List.mem_filter.mp hr).1
        have hc := cell_ok (hA.ok.row r hr) (cns ts t) col
        have := h3.1
        have := h3.2
        show Fair (.tuple [.str t, .int (keyW r), .str col, wD ((cellAt (cns ts t) col r).map (· + b))])
        cases e : cellAt (cns ts t) col r with
        | none => exact g4 nt (nk r hr) (nc col h2) trivial rfl
        | some z =>
          have hz : WOk (some z) := by rw [← e]; exact hc
          have := hz.1
          have := hz.2
          exact g4 nt (nk r hr) (nc col h2) (ni (z + b) (by omega)) rfl
    · by_cases hb : b = 0
      · rw [if_pos hb]; exact Nat.zero_le _
      · rw [if_neg hb, List.length_map]
        exact Nat.le_trans (List.length_filter_le _ _) few
  | set t k col o =>
    obtain ⟨h1, h2, h3, h4, _⟩ := okd
    by_cases hk : k ∈ rs.map keyW
    · rw [show own (cns ts (tabOf (.set t k col o))) rs (.set t k col o) = .told [] ((rs.filter fun r => decide (keyW r = k) && !decide (cellAt (cns ts t) col r = o)).map fun r => .tuple [.str t, .int k, .str col, wD o]) [] from if_pos hk]
      refine res3 nil (fun d hd => ?_) nil (Nat.zero_le _) ?_ (Nat.zero_le _)
      · obtain ⟨r, hr, rfl⟩ := List.mem_map.mp hd
        exact g4 nt (nb k h2) (nc col h3) (nw h4).1 (nw h4).2
      · rw [List.length_map]
        exact Nat.le_trans (List.length_filter_le _ _) few
    · rw [show own (cns ts (tabOf (.set t k col o))) rs (.set t k col o) = .norow t k from if_neg hk]
      exact no nn nt (nb k h2)
end TT

set_option Elab.async false
set_option linter.all false
set_option maxRecDepth 100000
namespace TT
open PySem PySem.Spec PyProof.Rows L2
/-- a comprehension whose items are data -/
theorem lc_dp {K : PySem.W.Frag} {J : It} {n : Nat} {G : Hp → Prop} {xs : List V} (w : Walk J n G (YAt xs)) {α : Type} {l : List α} (M : List Addr) (hn : n = l.length) (few : l.length ≤ 900) (f : α → PyData)
    {g : TG} {te : TE} {vs : List Nat} {σ : L2.St} {H1 : Hp} {D : Addr} {Qd : Hp → Prop} (nD : H1 D = none) (hG : ∀ H', Kept [D] H1 H' → G H')
    (step : ∀ (i : Nat) (x : V) (a : α) (H' : Hp) (C : V → Hp → Prop) (N : Hp → Prop), xs[i]? = some x → l[i]? = some a → Kept [D] H1 H' → (∃ ws, H' D = some (.lst ws)) → (∀ y H4, Kept [] H' H4 → Dp K (msk (D :: M) H4) y (f a) → C y H4) →
      g x (wipe σ vs) H' fun σ2 H2 => wipe σ2 vs = wipe σ vs ∧ (if true = true then te σ2 H2 C else N H2))
    (fin : ∀ us H2, Grow K M H2 D us (l.map f) → Kept [D] H1 H2 → Qd H2) (oD : D ∉ M) :
    ∃ W : Nat → Nat → Hp → Prop, (∃ m, W 0 m (upd H1 D (.lst []))) ∧ ∀ i m H, W i m H →
      (J.stop i H ∧ Qd H) ∨ (J.go i H ∧ ∃ Nx : Hp → Prop, (∀ H', Nx H' → ∃ m', m' < m ∧ W (i + 1) m' H') ∧ ∀ x H', J.yld i H x H' → g x (wipe σ vs) H' fun σ2 H2 => wipe σ2 vs = wipe σ vs ∧ tYes σ2 H2 fun b H3 =>
        if b = true then te σ2 H3 fun y H4 => ∃ acc, H4 D = some (.lst acc) ∧ acc.length < sizeLine ∧ Nx (upd H4 D (.lst (acc ++ [y]))) else Nx H3) := by
  refine lc_it w (fun i H' => ∃ us, Grow K M H' D us ((l.take i).map f) ∧ Kept [D] H1 H') ⟨[], .start, Kept.upd_new nD⟩ (fun i H' _ hP => let ⟨_, _, kk⟩ := hP; hG H' kk) (fun i x H' H'' hi hP hY => ?_) (fun H2 hP => ?_)
  · obtain ⟨rfl, hx⟩ := hY
    obtain ⟨us, gr, kk⟩ := hP
    obtain ⟨a, ha⟩ : ∃ a, l[i]? = some a := ⟨_, List.getElem?_eq_getElem (by omega)⟩
    have et : (l.take (i + 1)).map f = (l.take i).map f ++ [f a] := by
      rw [List.take_add_one, ha, List.map_append]; rfl
    have lu : us.length = i := by rw [gr.len, List.length_map, List.length_take]; omega
    refine step i x a H'' _ (fun H3 => ∃ us, Grow K M H3 D us ((l.take (i + 1)).map f) ∧ Kept [D] H1 H3) hx ha kk ⟨_, gr.at'⟩ (fun y H4 k4 hd => ?_)
    have g4 := gr.kept (k4.mono fun _ h => absurd h List.not_mem_nil) oD
    refine ⟨us, g4.at', small1000 (by omega), us ++ [y], ?_, kk.trans ((k4.mono (fun _ h => absurd h List.not_mem_nil)).trans (Kept.upd_in (List.mem_cons_self ..)))⟩
    rw [et]
    exact g4.put hd
  · obtain ⟨us, gr, kk⟩ := hP
    rw [hn, List.take_length] at gr
    exact fin us H2 gr kk
theorem splitR {A B R : TS} {D : Ends} {σ0 : L2.St} {H0 : Hp} (Pp : V → V → Hp → Prop) (st : V → V → L2.St) (rest : ∀ v u H, Pp v u H → R D (st v u) H) (main : (∀ v u H, Pp v u H → R D (st v u) H) → tSeq A (tSeq B R) D σ0 H0) : tSeq A (tSeq B R) D σ0 H0 := main rest
def flipD : PyData → PyData
  | .tuple es => .list es
  | d => d
theorem flip_deed (dd : Deed) : ∃ ds, deedF true dd = .tuple ds ∧ deedF false dd = .list (ds.map flipD) ∧ ds.length ≤ 5 := by
  have fw : ∀ o, flipD (wD o) = wD o := fun o => by cases o <;> rfl
  cases dd with
  | put t r => exact ⟨_, rfl, rfl, by show 3 ≤ 5; decide⟩
  | drop t k => exact ⟨_, rfl, rfl, by show 3 ≤ 5; decide⟩
  | sweep t col o => exact ⟨_, rfl, by show _ = PyData.list [_, _, _, flipD (wD o)]; rw [fw]; rfl, by show 4 ≤ 5; decide⟩
  | shift t col b => exact ⟨_, rfl, rfl, by show 4 ≤ 5; decide⟩
  | set t k col o => exact ⟨_, rfl, by show _ = PyData.list [_, _, _, _, flipD (wD o)]; rw [fw]; rfl, by show 5 ≤ 5; decide⟩
section
variable {P : Program} {w : World} {K : PySem.W.Frag} {mg : Str → Option Value} {base : Heap}
def spLaw (K : PySem.W.Frag) : Sp := fun vs H Q _ => ∃ (a : Addr) (ns : List Int), vs = [.ref a] ∧ SqL K H a (ns.map V.int) ∧ ∀ H', Q (.bl true) H'
abbrev s_law : Stmt := topS 37
abbrev N_law : List Str := ["script", "state", "tables", "content", "turn", "deed", "due", "handed", "kept", "found", "one", "rows", "row", "part"]
theorem sc_law : FnScope N_law ["script"] (defScope s_law) := ⟨rfl, rfl, rfl, by decide +kernel, rfl, by decide +kernel, by decide +kernel⟩

set_option maxHeartbeats 4000000 in
theorem ok_law {f : Addr} {fd : FuncData} (F : Fun K "law" "law" s_law f fd) (nb : NB mg) (D_law_begin : Def P w K mg base 1 "_law_begin" ["script"] (spBegin K)) (D_law_take : Def P w K mg base 1 "_law_take" ["state", "many"] spTake) (D_law_tables : Def P w K mg base 3 "_law_tables" ["state", "many", "wide"] (spTables K))
    (D_law_content : Def P w K mg base 4 "_law_content" ["state", "tables", "many"] (spContent K)) (D_law_deed : Def P w K mg base 4 "_law_deed" ["state", "tables", "content"] (spDeed K)) (D_law_due : Def P w K mg base 1 "_law_due" ["tables", "content", "deed"] (spDue K)) (D_law_copied : Def P w K mg base 1 "_law_copied" ["content"] (spCopied K))
    (D_law_told : Def P w K mg base 7 "_law_told" ["tables", "content", "deed"] (spTold K)) (D_law_same : Def P w K mg base 7 "_law_same" ["found", "due"] (spSame 6 K)) :
    FnG P w K mg base CX0 8 f fd ["script"] (spLaw K) := by
  refine okG F sc_law (fun vs H Q E h => ?_) (fun cdv A outer sh H vs Q E hr hg h => ?_)
  · obtain ⟨a, ns, rfl, _⟩ := h
    rfl
  · obtain ⟨a, ns, rfl, hS, q⟩ := h
    have nd := sc_law.nd
    have hu := hu_of hr
    refine ⟨_, (pss_cons (ps_set (i := 1) nd rfl (Or.inl rfl) (pe_own D_law_begin hr (pa_cons (pv 0) pa_nil)))
      (pss_cons (ps_set (i := 2) nd rfl (Or.inl rfl) (pe_own D_law_tables hr (pa_cons (pv 1) (pa_cons (pe_op op_add pe_int (pe_own D_law_take hr (pa_cons (pv 1) (pa_cons pe_int pa_nil)))) (pa_cons pe_int pa_nil)))))
      (pss_cons (ps_set (i := 3) nd rfl (Or.inl rfl) (pe_own D_law_content hr (pa_cons (pv 1) (pa_cons (pv 2) (pa_cons (pe_op op_add pe_int (pe_own D_law_take hr (pa_cons (pv 1) (pa_cons pe_int pa_nil)))) pa_nil)))))
      (pss_cons (ps_for PassesOwn.never rfl (pi_range1 (by rfl) nb.b_range (pa_cons pe_int pa_nil)) (pg_name (i := 4) nd rfl (Or.inl rfl))
        (pss_cons (ps_set (i := 5) nd rfl (Or.inl rfl) (pe_own D_law_deed hr (pa_cons (pv 1) (pa_cons (pv 2) (pa_cons (pv 3) pa_nil)))))
        (pss_cons (ps_par (i := 6) (j := 7) (by rfl) nd rfl rfl (by decide) rfl rfl (pa_cons (pe_own D_law_due hr (pa_cons (pv 2) (pa_cons (pv 3) (pa_cons (pv 5) pa_nil)))) (pa_cons (pe_own D_law_copied hr (pa_cons (pv 3) pa_nil)) pa_nil)) (by rfl))
        (pss_cons (ps_if (pt_cmpR op_eq (pe_op op_mod (pv 4) pe_int) pe_int (nomark _))
          (pss_one (ps_set (i := 7) nd rfl (Or.inl rfl) (pe_callTy call_tuple_of (by rfl) nb.b_tuple (by decide +kernel) (pa_cons (pe_lc (own := [("rows", 11)]) (g := (gName 11)) (tt := tYes) rfl nd (pi_list (pv 3)) (blkOk_by (N := N_law) (sc := defScope s_law) (by decide +kernel)) (fun _ _ _ _ _ => (pg_name (i := 11) nd rfl (Or.inl rfl))) (fun _ _ _ _ _ => pts_nil) (fun _ _ _ _ _ => (pe_callTy (T := "tuple") (r := rTupQ K) call_tuple_of (by rfl) nb.b_tuple (by decide +kernel) (pa_cons (pv 11) pa_nil)))) pa_nil))))
          pss_nil)
        (pss_cons (ps_if (pt_cmpR op_eq (pe_op op_mod (pv 4) pe_int) pe_int (nomark _))
          (pss_cons (ps_setLc (te := tLc (iList K (tVar 11)) (gName 12) tYes (tCB (rLstQ K) (tCons (tVar 12) tNil)) [12]) (i := 7) (own := [("rows", 11)]) (g := (gName 11)) (tt := tYes) rfl nd rfl rfl (sw_true rfl rfl rfl (by decide +kernel)) (pi_list (pv 3)) (blkOk_by (N := N_law) (sc := defScope s_law) (by decide +kernel)) (fun _ _ _ _ _ => (pg_name (i := 11) nd rfl (Or.inl rfl))) (fun _ _ _ _ _ => pts_nil) (fun _ _ _ _ _ => (pe_lc (own := [("row", 12)]) (g := (gName 12)) (tt := tYes) rfl nd (pi_list (pv 11)) (blkOk_by (N := N_law) (sc := relS { kind := ScopeKind.function, names := [(".0", NameKind.local), ("rows", NameKind.local)], isGenerator := false, isCoroutine := false } (defScope s_law)) (by decide +kernel)) (fun _ _ _ _ _ => (pg_name (i := 12) nd rfl (Or.inl rfl))) (fun _ _ _ _ _ => pts_nil) (fun _ _ _ _ _ => (pe_callTy (T := "list") (r := rLstQ K) call_list_of (by rfl) nb.b_list (by decide +kernel) (pa_cons (pv 12) pa_nil))))))
          (pss_one (ps_setLc (i := 5) (own := [("part", 13)]) (g := (gName 13)) (tt := tYes) rfl nd rfl rfl (sw_true rfl rfl rfl (by decide +kernel)) (pi_tup (pv 5)) (blkOk_by (N := N_law) (sc := defScope s_law) (by decide +kernel)) (fun _ _ _ _ _ => (pg_name (i := 13) nd rfl (Or.inl rfl))) (fun _ _ _ _ _ => pts_nil) (fun _ _ _ _ _ => (pe_ifExp (pt_val (pe_callB (id := "isinstance") (r := rIsi K) call_isi (by rfl) nb.b_isinstance (by decide +kernel) (pa_cons (pv 13) (pa_cons (pe_bltn (v := .ty "tuple") (by rfl) nb.b_tuple (by decide +kernel) rfl) pa_nil)))) (pe_callTy (T := "list") (r := rLstQ K) call_list_of (by rfl) nb.b_list (by decide +kernel) (pa_cons (pv 13) pa_nil)) (pv 13))))))
          pss_nil)
        (pss_cons (ps_par (i := 8) (j := 9) (by rfl) nd rfl rfl (by decide) rfl rfl (pa_cons (pe_callB (call_repr_d hg hr) (by rfl) nb.b_repr (by decide +kernel) (pa_cons (pe_lst (pa_cons (pv 7) (pa_cons (pv 5) pa_nil))) pa_nil)) (pa_cons (pe_own D_law_told hr (pa_cons (pv 2) (pa_cons (pv 7) (pa_cons (pv 5) pa_nil)))) pa_nil)) (by rfl))
        (pss_cons (ps_if (PW.pt (pw_or (pt_not (pt_val (pe_own D_law_same hr (pa_cons (pv 9) (pa_cons (pv 6) pa_nil))))) (pw_or1 (pt_cmpR op_ne (pe_callB (call_repr_d hg hr) (by rfl) nb.b_repr (by decide +kernel) (pa_cons (pe_lst (pa_cons (pv 7) (pa_cons (pv 5) pa_nil))) pa_nil)) (pv 8) (nomark _)))))
          (pss_one (ps_ret pe_bl))
          pss_nil)
        (pss_one (ps_if (PW.pt (pw_and (pt_val (pe_callB call_isi (by rfl) nb.b_isinstance (by decide +kernel) (pa_cons (pv 9) (pa_cons (pe_bltn (v := .ty "tuple") (by rfl) nb.b_tuple (by decide +kernel) rfl) pa_nil)))) (pw_and1 (pt_val (pe_callB call_isi (by rfl) nb.b_isinstance (by decide +kernel) (pa_cons (pe_ix ix_seq (pv 9) pe_int (fun _ _ => rfl)) (pa_cons (pe_bltn (v := .ty "list") (by rfl) nb.b_list (by decide +kernel) rfl) pa_nil)))))))
          (pss_cons (ps_for PassesOwn.never rfl (pi_tup (pv 9)) (pg_name (i := 10) nd rfl (Or.inl rfl))
            (pss_one (ps_expr (pe_bm PySem.F.plainAttrs_list PySem.F.slot_list_append PySem.F.type_list_append mt_append (pv 10) (pa_cons pe_str pa_nil)))))
          (pss_one (ps_if (pt_not (pt_val (pe_own D_law_same hr (pa_cons (pe_own D_law_told hr (pa_cons (pv 2) (pa_cons (pv 7) (pa_cons (pv 5) pa_nil)))) (pa_cons (pv 6) pa_nil)))))
            (pss_one (ps_ret pe_bl))
            pss_nil)))
          pss_nil)))))))))
      (pss_one (ps_ret pe_bl)))))), ?_⟩
    -- state
    refine ⟨.ref a, rfl, a, ns, rfl, hS, fun s c H1 S1 _ _ _ => ?_⟩
    -- tables
    refine ⟨.ref s, rfl, .ref s, rfl, s, c, 0, _, rfl, S1, by decide, by decide, by decide, fun d H2 d0 d1 S2 _ => ⟨_, _, rfl, rfl, ?_⟩⟩
    obtain ⟨m, hm⟩ : ∃ m : Nat, 1 + d = (m : Int) := ⟨(1 + d).toNat, by omega⟩
    refine ⟨s, c, 1, m, 5, congrArg (fun z => [V.ref s, V.int z, V.int 5]) hm, S2, by omega, by omega, by decide, by decide, fun tp ts H3 lts okts ftp dts S3 K3 => ?_⟩
    have TM : Tabs K (msk [s, c] H3) tp ts := ⟨dts, okts, by omega, by omega⟩
    -- content
    refine ⟨.ref s, rfl, .ref tp, rfl, .ref s, rfl, s, c, _, _, rfl, S3, by omega, by decide, by decide, fun g H5 g0 g1 S5 K5 => ⟨_, _, rfl, rfl, ?_⟩⟩
    obtain ⟨mm, hmm⟩ : ∃ mm : Nat, 1 + g = (mm : Int) := ⟨(1 + g).toNat, by omega⟩
    refine ⟨s, c, tp, _, mm, ts, congrArg (fun z => [V.ref s, V.ref tp, V.int z]) hmm, S5, by omega, by omega, by omega, TM.same (msk_same K5), fun cp ct H6 okc kb fcp dct S6 K6 => ?_⟩
    have TM6 := TM.same (msk_same (K5.trans K6))
    have kb' : ∀ rs ∈ ct, ∀ r ∈ rs, -100000000 ≤ keyW r ∧ keyW r < 100000000 := fun rs h r hr => by have := kb rs h r hr; omega
    replace S6 : StAt H6 s c 20000 := S6.mono (by omega)
    clear kb TM dts K3 K5 K6
    have l0 := TM6.l0
    have l8 := TM6.l8
    have hsum : (ct.map List.length).sum ≤ 61 := by
      have h1 := sum_few (l := ct.map List.length) (n := mm) fun x hx => by
        obtain ⟨rs, hrs, rfl⟩ := List.mem_map.mp hx
        exact okc.few rs hrs
      rw [List.length_map, okc.len] at h1
      have h2 : ts.length * mm ≤ 4 * 6 := Nat.mul_le_mul (by omega) (by omega)
      omega
    show tSeq _ _ _ [some (.ref a), some (.ref s), some (.ref tp), some (.ref cp), none, none, none, none, none, none, none, none, none, none] H6
    -- for turn in range(30)
    refine ⟨30, rfl, by decide, by decide, ?_⟩
    refine for_range (lo := 0) (n := (30 : Int).toNat) (fun i σ H' => (∃ y4 y5 y6 y7 y8 y9 y10, σ = [some (.ref a), some (.ref s), some (.ref tp), some (.ref cp), y4, y5, y6, y7, y8, y9, y10, none, none, none]) ∧ Tabs K (msk [s, c] H') tp ts ∧ Dp K (msk [s, c] H') (.ref cp) (contD ct) ∧ StAt H' s c (20000 + i * 100)) ⟨⟨_, _, _, _, _, _, _, rfl⟩, TM6, dct, S6.mono (by omega)⟩ (fun i σ H16 hi hP => ?_) (fun σ H16 hP => ?_)
    · obtain ⟨⟨y4, y5, y6, y7, y8, y9, y10, rfl⟩, TT', dT, ST⟩ := hP
      have hi : i < 30 := hi
      -- deed
      refine ⟨.ref s, rfl, .ref tp, rfl, .ref cp, rfl, s, c, tp, cp, _, mm, ts, ct, rfl, ST, by omega, by omega, TT', okc, kb', dT, fun ep dd H17 okd fep dpe S17 K17 => ?_⟩
      have TT17 := TT'.same (msk_same K17)
      have dT17 := dp_same (msk_same K17) dT
      have T17 := TT17.same (msk_sub _ _)
      have D17 : Dp K H17 (.ref ep) (deedF true dd) := by rw [deedF_eq]; exact dp_same (msk_sub _ _) dpe
      have C17 := dp_same (msk_sub _ _) dT17
      obtain ⟨rs, hA⟩ : ∃ rs, At ts ct (tabOf dd) rs := by
        have hmem : tabOf dd ∈ tns ts := by cases dd <;> exact okd.1
        obtain ⟨tb, htb, hte, hcol⟩ := tab_of okts.nd hmem
        have lat : (tns ts).idxOf (tabOf dd) < (tns ts).length := List.idxOf_lt_length_of_mem hmem
        have lat2 : (tns ts).idxOf (tabOf dd) < ts.length := by rw [List.length_map] at lat; exact lat
        have lat3 : (tns ts).idxOf (tabOf dd) < ct.length := by rw [okc.len]; exact lat2
        obtain ⟨tb2, h1⟩ : ∃ t, ts[(tns ts).idxOf (tabOf dd)]? = some t := ⟨_, List.getElem?_eq_getElem lat2⟩
        obtain ⟨rs, h2⟩ : ∃ t, ct[(tns ts).idxOf (tabOf dd)]? = some t := ⟨_, List.getElem?_eq_getElem lat3⟩
        have e1 : tb2.1 = tabOf dd := by
          have h5 : (tns ts)[(tns ts).idxOf (tabOf dd)]? = some (tabOf dd) := by rw [List.getElem?_eq_getElem lat, List.getElem_idxOf]
          rw [List.getElem?_map, h1] at h5
          exact Option.some.inj h5
        have e2 : (cns ts (tabOf dd)).length = tb2.2.length := by
          show ((colsOf ts (tabOf dd)).map _).length = _
          rw [← e1, colsOf_mem okts.nd (List.mem_of_getElem? h1), List.length_map]
        exact ⟨rs, hmem, h2, by rw [e2]; exact okc.rows _ _ _ h1 h2, Nat.le_trans (okc.few _ (List.mem_of_getElem? h2)) (by omega)⟩
      obtain ⟨nR, dR⟩ := own_nice okts okd hA
      obtain ⟨pC, xsC, ePC, hCS, hCA, lxC⟩ := cont_dp C17
      cases ePC
      -- due, handed
      refine ⟨.ref tp, rfl, .ref cp, rfl, .ref ep, rfl, tp, cp, ts, .ref ep, ct, dd, rs, rfl, T17, C17, hA, okd, D17, fun rd H18 s18 hrd => ?_⟩
      refine ⟨.ref cp, rfl, cp, ct, rfl, dp_same s18 C17, by rw [okc.len]; omega, fun D19 H19 s19 hD19 => ⟨_, _, rfl, ?_⟩⟩
      have s179 := s18.trans s19
      have hD' : Dp K H19 (.ref D19) (handD false false true ct) := hD19
      have hE' := dp_same s179 D17
      have hR' := dp_same s19 hrd
      dsimp only
      refine splitR (fun v u H20 => Same H17 H20 ∧ (∃ o i' r, Dp K H20 v (handD o i' r ct)) ∧ (∃ b, Dp K H20 u (deedF b dd)) ∧ Dp K H20 (.ref rd) (resD (own (cns ts (tabOf dd)) rs dd))) (fun v u => [some (.ref a), some (.ref s), some (.ref tp), some (.ref cp), some (.int (0 + (i : Int))), some u, some (.ref rd), some v, y8, y9, y10, none, none, none]) (fun v u H20 hP => ?_) (fun rest => ?_)
      rotate_left
      · refine ⟨.int _, rfl, _, 3, rfl, rfl, (show (0 : Int) < 3 by decide), rfl, _, rfl, ite2 (fun e1 => ?_) (fun e1 => ?_)⟩
        rotate_left
        · refine ⟨.int _, rfl, _, 3, rfl, rfl, (show (0 : Int) < 3 by decide), rfl, _, rfl, ite2 (fun e2 => ?_) (fun e2 => ?_)⟩
          rotate_left
          · exact rest (.ref D19) (.ref ep) H19 ⟨s179, ⟨_, _, _, hD'⟩, ⟨_, hE'⟩, hR'⟩
          · -- lists all within
            have sC := s179.seq (show SqL K H17 cp xsC from hCS)
            refine ⟨.ref cp, rfl, cp, rfl, ⟨xsC, sC⟩, fun D nD => ?_⟩
            refine lc_dp (K := K) (walk_list (xs := xsC)) (l := ct) [] lxC (by rw [okc.len]; omega) (fun rs => .list (rs.map fun row => .list (row.map wD))) nD (fun H' k => (kept_same k nD).seq sC) (fun m x rs' H' C N hx hl kk eD hC => ?_) (fun us H20 gr kk => ?_) List.not_mem_nil
            · obtain ⟨rs2, hr1, hr2⟩ := cont_at (dpAll_same s179 hCA) hx
              rw [hl] at hr1
              cases hr1
              obtain ⟨rp, ys, rfl, g1, g2, g3⟩ := rows_dp hr2
              have sk := kept_same kk nD
              have few9 : rs'.length ≤ 900 := Nat.le_trans (okc.few rs' (List.mem_of_getElem? hl)) (by omega)
              obtain ⟨wsD, eD⟩ := eD
              refine ⟨rfl, iteT ?_⟩
              refine ⟨.ref rp, rfl, rp, rfl, ⟨ys, sk.seq g1⟩, fun D' nD' => ?_⟩
              have nDD : D ≠ D' := ne_of_none eD nD'
              refine lc_dp (K := K) (walk_list (xs := ys)) (l := rs') [D] g3 few9 (fun row => .list (row.map wD)) nD' (fun H'' k => (kept_same k nD').seq (sk.seq g1)) (fun m2 x2 row H'' C2 N2 hx2 hl2 kk2 eD2 hC2 => ?_) (fun us2 H4 gr2 kk2 => ?_) (by simp [nDD.symm])
              · obtain ⟨row2, rq, hr3, rfl, hr4⟩ := row_at' g2 hx2
                rw [hl2] at hr3
                cases hr3
                obtain ⟨wsD2, eD2⟩ := eD2
                have sk2 := kept_same kk2 nD'
                refine ⟨rfl, iteT ?_⟩
                refine ⟨.ref rq, rfl, rq, row.map wV, rfl, .inr (sameT (sk.trans sk2) hr4), fun l nl => ?_⟩
                refine hC2 _ _ (Kept.upd_new nl) (.lst (.inl (.inl (msk_at upd_same ?_))) (dp_ws row))
                have n1 : D' ≠ l := ne_of_none eD2 nl
                have n2 : D ≠ l := ne_of_none (sk2 _ _ eD) nl
                simp [n1.symm, n2.symm]
              · refine hC _ _ ((kk2.mono (fun p h => h)).new nD') ?_
                exact gr2.done (by simp [nDD.symm])
            · have sk := kept_same kk nD
              have s20 := s179.trans sk
              have hv2 : Dp K H20 (.ref D) (handD false false false ct) := dp_same (msk_sub _ _) (gr.done List.not_mem_nil)
              obtain ⟨ds, hds1, hds2, hds3⟩ := flip_deed dd
              have hE20 := dp_same s20 D17
              rw [hds1] at hE20
              obtain ⟨q5, xs5, e5, hS5, hA5⟩ := seq_dp (b := true) hE20
              cases e5
              refine ⟨.ref ep, rfl, ep, rfl, ⟨xs5, hS5⟩, fun D5 n5 => ?_⟩
              refine lc_dp (K := K) (walk_tup (xs := xs5)) (l := ds) [] (dpAll_len hA5) (by omega) flipD n5 (fun H' k => sameT (kept_same k n5) hS5) (fun m x d H' C N hx hl kk eD hC => ?_) (fun us2 H21 gr2 kk2 => ?_) List.not_mem_nil
              · obtain ⟨d2, hd1, hd2⟩ := dpAll_get m hA5 hx
                rw [hl] at hd1
                cases hd1
                have sk5 := kept_same kk n5
                obtain ⟨wsD, eD⟩ := eD
                refine ⟨rfl, iteT ?_⟩
                refine ⟨x, rfl, x, .ty "tuple", _, _, _, rfl, .ty "tuple", dp_ty (dp_same sk5 hd2), kit_t d, _, rfl, ?_⟩
                by_cases ht : isTB d = true
                · cases d with
                  | tuple es =>
                    cases hd2 with
                    | tup t1 t2 =>
                    refine iteT ⟨_, rfl, _, _, rfl, .inr (sameT sk5 t1), fun l nl => ?_⟩
                    have n1 : D5 ≠ l := ne_of_none eD nl
                    exact hC _ _ (Kept.upd_new nl) (.lst (.inl (.inl (msk_at upd_same (by simp [n1.symm])))) (dpAll_same (kept_msk (kk.trans (Kept.upd_new nl)) n5) t2))
                  | _ => cases ht
                · rw [Bool.not_eq_true] at ht
                  rw [ht]
                  refine iteF ⟨x, rfl, ?_⟩
                  refine hC _ _ (Kept.refl _ _) ?_
                  have : flipD d = d := by cases d with
                    | tuple es => cases ht
                    | _ => rfl
                  rw [this]
                  exact dp_same (kept_msk kk n5) hd2
              · have sk5 := kept_same kk2 n5
                have hu5 : Dp K H21 (.ref D5) (deedF false dd) := by rw [hds2]; exact dp_same (msk_sub _ _) (gr2.done List.not_mem_nil)
                have := rest (.ref D) (.ref D5) H21 ⟨s20.trans sk5, ⟨_, _, _, dp_same sk5 hv2⟩, ⟨_, hu5⟩, dp_same (sk.trans sk5) hR'⟩
                exact this
        · -- tuples all within
          have sC := s179.seq (show SqL K H17 cp xsC from hCS)
          refine ⟨.ref cp, rfl, cp, rfl, ⟨xsC, sC⟩, fun D nD => ?_⟩
          refine lc_dp (K := K) (walk_list (xs := xsC)) (l := ct) [] lxC (by rw [okc.len]; omega) (fun rs => .tuple (rs.map rowD)) nD (fun H' k => (kept_same k nD).seq sC) (fun m x rs' H' C N hx hl kk eD hC => ?_) (fun us H20 gr kk => ?_) List.not_mem_nil
          · obtain ⟨rs2, hr1, hr2⟩ := cont_at (dpAll_same s179 hCA) hx
            rw [hl] at hr1
            cases hr1
            obtain ⟨rp, ys, rfl, g1, g2, g3⟩ := rows_dp hr2
            have sk := kept_same kk nD
            obtain ⟨wsD, eD⟩ := eD
            refine ⟨rfl, iteT ?_⟩
            refine ⟨.ref rp, rfl, rp, ys, rfl, .inl ⟨sk.seq g1, fun l nl => ?_⟩⟩
            have n1 : D ≠ l := ne_of_none eD nl
            exact hC _ _ (Kept.upd_new nl) (.tup (.inl (.inl (msk_at upd_same (by simp [n1.symm])))) (dpAll_same (kept_msk (kk.trans (Kept.upd_new nl)) nD) g2))
          · have sk := kept_same kk nD
            refine ⟨D, us, rfl, .inl ⟨.inl (.inl gr.at'), fun l nl => ?_⟩⟩
            have sl := same_upd (o := .tup us) nl
            have hv2 : Dp K (upd H20 l (.tup us)) (.ref l) (handD true true true ct) := .tup (.inl (.inl upd_same)) (dpAll_same sl (dpAll_same (msk_sub _ _) gr.dp))
            refine ⟨.int _, rfl, _, 3, rfl, rfl, (show (0 : Int) < 3 by decide), rfl, _, rfl, ite2 (fun e2 => ?_) (fun e2 => ?_)⟩
            · have h1 := V.int.inj (of_decide_eq_true e1)
              have h2 := V.int.inj (of_decide_eq_true e2)
              omega
            · have := rest (.ref l) (.ref ep) _ ⟨s179.trans (sk.trans sl), ⟨_, _, _, hv2⟩, ⟨_, dp_same (sk.trans sl) hE'⟩, dp_same (sk.trans sl) hR'⟩
              exact this
      · obtain ⟨s20, ⟨o, i', r, hv⟩, ⟨b, hu'⟩, hr'⟩ := hP
        obtain ⟨nH1, nH2, nH3⟩ := hand_nice okc okts l8 hsum o i' r
        obtain ⟨nE1, nE2, nE3⟩ := deedF_nice okts okd b
        have hs : Shows (.list [handD o i' r ct, deedF b dd]) := by
          refine shows_more (B := 1000000000) (L := 61) ⟨by show 2 ≤ 61; decide, nH1, nE1, trivial⟩ (by decide) ?_ ?_
          · show max (handD o i' r ct).depth (max (deedF b dd).depth 0) + 1 ≤ 60
            omega
          · show 6 + (wt (handD o i' r ct) + 3 + (wt (deedF b dd) + 3 + 0)) ≤ 1000000
            omega
        have dl : ∀ {H' : Hp} {L : Addr}, Same H20 H' → H' L = some (.lst [v, u]) → Dp K H' (.ref L) (.list [handD o i' r ct, deedF b dd]) := fun {H' L} s e => .lst (.inl (.inl e)) (.cons (dp_same s hv) (.cons (dp_same s hu') .nil))
        have over : ∀ Hf, Same H20 Hf → Tabs K (msk [s, c] Hf) tp ts ∧ Dp K (msk [s, c] Hf) (.ref cp) (contD ct) ∧ StAt Hf s c (20000 + (i + 1) * 100) := fun Hf sf => by
          have kf := Kept.of_same (M := [s, c]) (s20.trans sf)
          exact ⟨TT17.same (msk_same kf), dp_same (msk_same kf) dT17, (S17.same (s20.trans sf)).mono (by omega)⟩
        refine ⟨v, rfl, u, rfl, (by show 2 ≤ sizeLine; decide), fun L1 n1 => ?_⟩
        have s1 := same_upd (o := .lst [v, u]) n1
        have s201 := s20.trans s1
        refine ⟨.ref L1, _, rfl, dl s1 upd_same, hs.sh, hs.nd, hs.dp, hs.sz, .ref tp, rfl, v, rfl, u, rfl, tp, ts, v, u, o, i', r, b, ct, dd, rs, rfl, T17.same s201, dp_same s1 hv, hA, okd, dp_same s1 hu', fun g c' r' ho => ?_, fun t k ho rr H22 s22 hrr => ?_, fun t k ho rr H22 s22 hrr => ?_⟩
        · intro p D1 D2 D3 u1 u2 u3 H22 s22 np nn1 nn2 nn3 ep' e1 e2 e3 d1 d2 d3
          rw [ho] at hr' nR dR
          have s122 := s1.trans s22
          obtain ⟨l1, l2, l3⟩ : u1.length ≤ 900 ∧ u2.length ≤ 900 ∧ u3.length ≤ 900 := by
            obtain ⟨_, q1, q2, q3, _⟩ := nR
            exact ⟨by rw [dpAll_len d1]; exact q1.1, by rw [dpAll_len d2]; exact q2.1, by rw [dpAll_len d3]; exact q3.1⟩
          refine ⟨_, _, rfl, ?_⟩
          refine ⟨.ref p, rfl, .ref rd, rfl, .ref p, .ref rd, resD (.told g c' r'), rfl, dp3 ep' e1 e2 e3 d1 d2 d3, dp_same s122 hr', dR, nR, fun H23 s23 => ⟨_, rfl, iteF ?_⟩⟩
          refine ⟨v, rfl, u, rfl, (by show 2 ≤ sizeLine; decide), fun L2 n2 => ?_⟩
          have s4 := same_upd (o := .lst [v, u]) n2
          have s24 := s23.trans s4
          have s124 := s122.trans s24
          refine ⟨.ref L2, _, rfl, dl s124 upd_same, hs.sh, hs.nd, hs.dp, hs.sz, _, rfl, rfl, _, rfl, ?_⟩
          rw [decide_eq_true rfl]
          refine iteF ?_
          have dp24 := dp_same s24 (dp3 ep' e1 e2 e3 d1 d2 d3)
          have ep24 := s24 _ _ ep'
          have e124 := s24 _ _ e1
          have e224 := s24 _ _ e2
          have e324 := s24 _ _ e3
          generalize upd H23 L2 (.lst [v, u]) = H24 at s24 s124 dp24 ep24 e124 e224 e324 ⊢
          refine ⟨.ref p, rfl, .ref p, .ty "tuple", _, _, _, rfl, .ty "tuple", dp_ty dp24, kit_t (.tuple _), _, rfl, iteT ?_⟩
          refine ⟨.ref p, rfl, ixB (b := true) (i := 0) (show SqT K H24 p [.ref D1, .ref D2, .ref D3] from .inl (.inl ep24)) rfl ⟨.ref D1, .ty "list", _, _, _, rfl, .ty "list", dp_ty (d := .list g) (.lst (.inl (.inl e124)) (dpAll_same s24 d1)), kit_l (.list g), _, rfl, iteT ?_⟩⟩
          refine ⟨.ref p, rfl, p, rfl, ⟨[.ref D1, .ref D2, .ref D3], .inl (.inl ep24)⟩, ?_⟩
          have hp1 : ∀ D ∈ [D1, D2, D3], p ≠ D := fun D hD z => by
            subst z
            simp only [List.mem_cons, List.not_mem_nil, or_false] at hD
            rcases hD with h | h | h
            · rw [h, e124] at ep24; cases ep24
            · rw [h, e224] at ep24; cases ep24
            · rw [h, e324] at ep24; cases ep24
          refine for_it (walk_tup (xs := [V.ref D1, .ref D2, .ref D3])) (fun m σ H' => (∃ y8 y10, σ = [some (.ref a), some (.ref s), some (.ref tp), some (.ref cp), some (.int (0 + (i : Int))), some u, some (.ref rd), some v, y8, some (.ref p), y10, none, none, none]) ∧ Kept [D1, D2, D3] H24 H' ∧ ∀ D ∈ [D1, D2, D3], ∃ ws, H' D = some (.lst ws) ∧ ws.length ≤ 900 + m)
            ⟨⟨_, _, rfl⟩, Kept.refl _ _, fun D hD => ?_⟩ (fun m σ H' _ hP => .inl (.inl (hP.2.1.at ep24 (fun z => hp1 p z rfl)))) (fun m x σ H' H'' hm hP hY => ?_) (fun σ H25 hP => ?_)
          · simp only [List.mem_cons, List.not_mem_nil, or_false] at hD
            rcases hD with rfl | rfl | rfl
            · exact ⟨_, e124, l1⟩
            · exact ⟨_, e224, l2⟩
            · exact ⟨_, e324, l3⟩
          · obtain ⟨rfl, hx⟩ := hY
            obtain ⟨⟨y8, y10, rfl⟩, kk, hw⟩ := hP
            obtain ⟨D, hD, rfl⟩ : ∃ D ∈ [D1, D2, D3], x = .ref D := by
              have := List.mem_of_getElem? hx
              simp only [List.mem_cons, List.not_mem_nil, or_false] at this
              rcases this with h | h | h
              · exact ⟨D1, by simp, h⟩
              · exact ⟨D2, by simp, h⟩
              · exact ⟨D3, by simp, h⟩
            obtain ⟨ws, hw1, hw2⟩ := hw D hD
            have hm3 : m < 3 := hm
            refine ⟨.ref D, rfl, .inl ⟨rfl, ws, .inl (.inl hw1)⟩, D, ws, .str "more", rfl, rfl, hw1, small1000 (by omega), ⟨_, _, rfl⟩, kk.trans (Kept.upd_in hD), fun D' hD' => ?_⟩
            by_cases hDD : D' = D
            · subst hDD
              exact ⟨_, upd_same, by rw [List.length_append]; show ws.length + 1 ≤ _; omega⟩
            · obtain ⟨ws', hw3, hw4⟩ := hw D' hD'
              exact ⟨ws', by rw [upd_ne hDD]; exact hw3, by omega⟩
          · obtain ⟨⟨y8, y10, rfl⟩, kk, _⟩ := hP
            have s25 : Same H20 H25 := fun q o e => by
              refine kk q o (s124 q o e) fun z => ?_
              simp only [List.mem_cons, List.not_mem_nil, or_false] at z
              have e' := s1 q o e
              rcases z with rfl | rfl | rfl
              · rw [nn1] at e'; cases e'
              · rw [nn2] at e'; cases e'
              · rw [nn3] at e'; cases e'
            refine ⟨.ref tp, rfl, v, rfl, u, rfl, tp, ts, v, u, o, i', r, b, ct, dd, rs, rfl, T17.same (s20.trans s25), dp_same s25 hv, hA, okd, dp_same s25 hu', fun g2 c2 r2 ho2 => ?_, fun t k ho2 => ?_, fun t k ho2 => ?_⟩
            · rw [ho] at ho2
              cases ho2
              intro p' D1' D2' D3' u1' u2' u3' H26 s26 _ _ _ _ ep2 e12 e22 e32 d12 d22 d32
              have s256 := s25.trans s26
              refine ⟨.ref rd, rfl, .ref p', .ref rd, resD (.told g c' r'), rfl, dp3 ep2 e12 e22 e32 d12 d22 d32, dp_same s256 hr', dR, nR, fun H27 s27 => ⟨_, rfl, iteF ?_⟩⟩
              exact ⟨⟨_, _, _, _, _, _, _, rfl⟩, over H27 (s256.trans s27)⟩
            · rw [ho] at ho2; cases ho2
            · rw [ho] at ho2; cases ho2
        · rw [ho] at hr' nR dR
          have s122 := s1.trans s22
          have hdp : Dp K H22 (.ref rr) (resD (.norow t k)) := .tup hrr (.cons (.str _) (.cons (.str _) (.cons (.int _) .nil)))
          refine ⟨_, _, rfl, ?_⟩
          refine ⟨.ref rr, rfl, .ref rd, rfl, .ref rr, .ref rd, resD (.norow t k), rfl, hdp, dp_same s122 hr', dR, nR, fun H23 s23 => ⟨_, rfl, iteF ?_⟩⟩
          refine ⟨v, rfl, u, rfl, (by show 2 ≤ sizeLine; decide), fun L2 n2 => ?_⟩
          have s4 := same_upd (o := .lst [v, u]) n2
          have s24 := s23.trans s4
          have s124 := s122.trans s24
          refine ⟨.ref L2, _, rfl, dl s124 upd_same, hs.sh, hs.nd, hs.dp, hs.sz, _, rfl, rfl, _, rfl, ?_⟩
          rw [decide_eq_true rfl]
          refine iteF ?_
          refine ⟨.ref rr, rfl, .ref rr, .ty "tuple", _, _, _, rfl, .ty "tuple", dp_ty (dp_same s24 hdp), kit_t (.tuple _), _, rfl, iteT ?_⟩
          refine ⟨.ref rr, rfl, ixB (b := true) (i := 0) (sameT s24 hrr) rfl ⟨.str "norow", .ty "list", _, _, _, rfl, .ty "list", dp_ty (.str "norow"), kit_l (.str "norow"), _, rfl, iteF ?_⟩⟩
          exact ⟨⟨_, _, _, _, _, _, _, rfl⟩, over _ s124⟩
        · rw [ho] at hr' nR dR
          have s122 := s1.trans s22
          have hdp : Dp K H22 (.ref rr) (resD (.taken t k)) := .tup hrr (.cons (.str _) (.cons (.str _) (.cons (.int _) .nil)))
          refine ⟨_, _, rfl, ?_⟩
          refine ⟨.ref rr, rfl, .ref rd, rfl, .ref rr, .ref rd, resD (.taken t k), rfl, hdp, dp_same s122 hr', dR, nR, fun H23 s23 => ⟨_, rfl, iteF ?_⟩⟩
          refine ⟨v, rfl, u, rfl, (by show 2 ≤ sizeLine; decide), fun L2 n2 => ?_⟩
          have s4 := same_upd (o := .lst [v, u]) n2
          have s24 := s23.trans s4
          have s124 := s122.trans s24
          refine ⟨.ref L2, _, rfl, dl s124 upd_same, hs.sh, hs.nd, hs.dp, hs.sz, _, rfl, rfl, _, rfl, ?_⟩
          rw [decide_eq_true rfl]
          refine iteF ?_
          refine ⟨.ref rr, rfl, .ref rr, .ty "tuple", _, _, _, rfl, .ty "tuple", dp_ty (dp_same s24 hdp), kit_t (.tuple _), _, rfl, iteT ?_⟩
          refine ⟨.ref rr, rfl, ixB (b := true) (i := 0) (sameT s24 hrr) rfl ⟨.str "taken", .ty "list", _, _, _, rfl, .ty "list", dp_ty (.str "taken"), kit_l (.str "taken"), _, rfl, iteF ?_⟩⟩
          exact ⟨⟨_, _, _, _, _, _, _, rfl⟩, over _ s124⟩
    · exact q _
end
end TT

set_option Elab.async false
set_option linter.all false
set_option maxRecDepth 100000
namespace TT
open PySem PySem.Spec PyProof.Rows L2
/-! ### what the top has written; the law's own head -/
theorem kit_blt {K : PySem.W.Frag} {C : Addr} {T : String} {b : Bool} (h : PySem.W.subIn K (.ref C) (.type T) = some b) (hm : PySem.W.kitMeta T = true) : PySem.W.kitOne K (.ref C) (.type T) = some b := by
  unfold PySem.W.kitOne
  rw [if_neg (fun z => nomatch (beq_iff_eq.mp z : Value.ref C = Value.type T))]
  show (if PySem.W.kitMeta T = true then PySem.W.subIn K (.ref C) (.type T) else none) = some b
  rw [if_pos hm]
  exact h
theorem kit_self {K : PySem.W.Frag} {C : Addr} : PySem.W.kitOne K (.ref C) (.ref C) = some true := by
  unfold PySem.W.kitOne
  rw [if_pos (beq_self_eq_true _)]
theorem kit_own {K : PySem.W.Frag} {C CT : Addr} {b : Bool} (ne : C ≠ CT) (hd : PySem.W.hasDictIn K CT = true) (ht : PySem.W.typeIn K (.ref CT) = some (.type "type")) (h : PySem.W.subIn K (.ref C) (.ref CT) = some b) : PySem.W.kitOne K (.ref C) (.ref CT) = some b := by
  obtain ⟨cd, hc, _⟩ := PySem.W.any_some hd
  unfold PySem.W.kitOne
  rw [if_neg (fun z => ne (Value.ref.inj (beq_iff_eq.mp z)))]
  show (if ((PySem.W.clsIn K CT).isSome && PySem.W.typeIn K (.ref CT) == some (.type "type")) = true then PySem.W.subIn K (.ref C) (.ref CT) else none) = some b
  rw [hc, ht, if_pos (by rfl)]
  exact h
section
variable {P : Program} {w : World} {K : PySem.W.Frag} {mg : Str → Option Value} {base : Heap}
abbrev s_init_NoRow : Stmt := match topS 3 with
  | .ClassDef (body := b) .. => b.getD 0 (.Pass ⟨0, 0, 0, 0⟩)
  | _ => .Pass ⟨0, 0, 0, 0⟩
theorem sc_init_NoRow : FnScope ["self", "table", "key"] ["self", "table", "key"] (defScope s_init_NoRow) := ⟨rfl, rfl, rfl, by decide +kernel, rfl, by decide +kernel, by decide +kernel⟩
theorem ok_init_NoRow {C : Addr} {f : Addr} {fd : FuncData} (F : Fun K "__init__" "NoRow.__init__" s_init_NoRow f fd) (T : OexG K C) (h1 : PySem.W.findIn K (.ref C) "table" = some none) (h2 : PySem.W.findIn K (.ref C) "key" = some none) : FnOk P w K mg base CX0 1 f fd ["self", "table", "key"] (spInitF "table" "key" K C) := by
  refine F.ok sc_init_NoRow (fun vs H Q E h => ?_) (fun cdv A outer sh H vs Q E hr h => ?_)
  · obtain ⟨a, x, y, rfl, _⟩ := h
    rfl
  obtain ⟨a, x, y, rfl, ea, q⟩ := h
  refine ⟨_, pss_cons (ps_osg (pv 0) (pv 1)) (pss_one (ps_osg (pv 0) (pv 2))), ?_⟩
  refine ⟨x, rfl, .ref a, rfl, a, C, rfl, T, h1, .inl ⟨ea, fun dx n ne => ?_⟩⟩
  refine ⟨y, rfl, .ref a, rfl, a, C, rfl, T, h2, .inr ⟨dx, _, upd_same, ?_, (by show 1 ≤ 900; decide), q dx n ne⟩⟩
  rw [upd_ne ne, upd_same]
abbrev s_init_Taken : Stmt := match topS 2 with
  | .ClassDef (body := b) .. => b.getD 0 (.Pass ⟨0, 0, 0, 0⟩)
  | _ => .Pass ⟨0, 0, 0, 0⟩
theorem sc_init_Taken : FnScope ["self", "table", "key"] ["self", "table", "key"] (defScope s_init_Taken) := ⟨rfl, rfl, rfl, by decide +kernel, rfl, by decide +kernel, by decide +kernel⟩
theorem ok_init_Taken {C : Addr} {f : Addr} {fd : FuncData} (F : Fun K "__init__" "Taken.__init__" s_init_Taken f fd) (T : OexG K C) (h1 : PySem.W.findIn K (.ref C) "table" = some none) (h2 : PySem.W.findIn K (.ref C) "key" = some none) : FnOk P w K mg base CX0 1 f fd ["self", "table", "key"] (spInitF "table" "key" K C) := by
  refine F.ok sc_init_Taken (fun vs H Q E h => ?_) (fun cdv A outer sh H vs Q E hr h => ?_)
  · obtain ⟨a, x, y, rfl, _⟩ := h
    rfl
  obtain ⟨a, x, y, rfl, ea, q⟩ := h
  refine ⟨_, pss_cons (ps_osg (pv 0) (pv 1)) (pss_one (ps_osg (pv 0) (pv 2))), ?_⟩
  refine ⟨x, rfl, .ref a, rfl, a, C, rfl, T, h1, .inl ⟨ea, fun dx n ne => ?_⟩⟩
  refine ⟨y, rfl, .ref a, rfl, a, C, rfl, T, h2, .inr ⟨dx, _, upd_same, ?_, (by show 1 ≤ 900; decide), q dx n ne⟩⟩
  rw [upd_ne ne, upd_same]
end
theorem all_mk {l : PySem.W.OpenLaw} {w : World} {K : PySem.W.Frag} {h : Heap} {mg : Str → Option Value} {fa CE CN CT CB CS fN fT f1 f2 f3 f4 f5 f6 f7 f8 f9 f10 f11 f12 f13 f14 f15 f16 f17 f18 f19 f20 f21 f22 f23 f24 f25 f26 f27 f28 : Addr} (X : K.In h) (G : h.Ns mainGlobals mg) (hfa : mg "law" = some (.ref fa))
    {odN anN odT anT od1 an1 od2 an2 od3 an3 od4 an4 od5 an5 od6 an6 od7 an7 od8 an8 od9 an9 od10 an10 od11 an11 od12 an12 od13 an13 od14 an14 od15 an15 od16 an16 od17 an17 od18 an18 od19 an19 od20 an20 od21 an21 od22 an22 od23 an23 od24 an24 od25 an25 od26 an26 od27 an27 od28 an28 : Option Addr} {slN slT sl1 sl2 sl3 sl4 sl5 sl6 sl7 sl8 sl9 sl10 sl11 sl12 sl13 sl14 sl15 sl16 sl17 sl18 sl19 sl20 sl21 sl22 sl23 sl24 sl25 sl26 sl27 sl28 : Array (Option Value)} {ocN kVN dcN pmN cdN ctN ocT kVT dcT pmT cdT ctT oc1 kV1 dc1 pm1 cd1 ct1 oc2 kV2 dc2 pm2 cd2 ct2 oc3 kV3 dc3 pm3 cd3 ct3 oc4 kV4 dc4 pm4 cd4 ct4 oc5 kV5 dc5 pm5 cd5 ct5 oc6 kV6 dc6 pm6 cd6 ct6 oc7 kV7 dc7 pm7 cd7 ct7 oc8 kV8 dc8 pm8 cd8 ct8 oc9 kV9 dc9 pm9 cd9 ct9 oc10 kV10 dc10 pm10 cd10 ct10 oc11 kV11 dc11 pm11 cd11 ct11 oc12 kV12 dc12 pm12 cd12 ct12 oc13 kV13 dc13 pm13 cd13 ct13 oc14 kV14 dc14 pm14 cd14 ct14 oc15 kV15 dc15 pm15 cd15 ct15 oc16 kV16 dc16 pm16 cd16 ct16 oc17 kV17 dc17 pm17 cd17 ct17 oc18 kV18 dc18 pm18 cd18 ct18 oc19 kV19 dc19 pm19 cd19 ct19 oc20 kV20 dc20 pm20 cd20 ct20 oc21 kV21 dc21 pm21 cd21 ct21 oc22 kV22 dc22 pm22 cd22 ct22 oc23 kV23 dc23 pm23 cd23 ct23 oc24 kV24 dc24 pm24 cd24 ct24 oc25 kV25 dc25 pm25 cd25 ct25 oc26 kV26 dc26 pm26 cd26 ct26 oc27 kV27 dc27 pm27 cd27 ct27 oc28 kV28 dc28 pm28 cd28 ct28 : Value}
    {nmN qN : Str} {NN : Addr} {bsN bmN : List Value} {snN : List Str} {subN : List Value} {abN : Bool} {colN : Option Bool} {ddN : Option Addr} {m0N m1N m2N m3N m5N : Option Value}
    {nmT qT : Str} {NT : Addr} {bsT bmT : List Value} {snT : List Str} {subT : List Value} {abT : Bool} {colT : Option Bool} {ddT : Option Addr} {m0T m1T m2T m3T m5T : Option Value}
    (gCE : PySem.W.nsIn K mainGlobals "TableError" = some (some (.ref CE)))
    (hdCE : PySem.W.hasDictIn K CE = true)
    (tyCE : PySem.W.typeIn K (.ref CE) = some (.type "type"))
    (gCN : PySem.W.nsIn K mainGlobals "NoRow" = some (some (.ref CN)))
    (hdCN : PySem.W.hasDictIn K CN = true)
    (tyCN : PySem.W.typeIn K (.ref CN) = some (.type "type"))
    (gCT : PySem.W.nsIn K mainGlobals "Taken" = some (some (.ref CT)))
    (hdCT : PySem.W.hasDictIn K CT = true)
    (tyCT : PySem.W.typeIn K (.ref CT) = some (.type "type"))
    (gCB : PySem.W.nsIn K mainGlobals "Barred" = some (some (.ref CB)))
    (hdCB : PySem.W.hasDictIn K CB = true)
    (tyCB : PySem.W.typeIn K (.ref CB) = some (.type "type"))
    (gCS : PySem.W.nsIn K mainGlobals "NoSuch" = some (some (.ref CS)))
    (hdCS : PySem.W.hasDictIn K CS = true)
    (tyCS : PySem.W.typeIn K (.ref CS) = some (.type "type"))
    (exE : PySem.W.subIn K (.ref CE) (.type "BaseException") = some true)
    (xCN : K.lookup CN = some (excClassObj nmN qN CN NN bsN bmN true snN subN abN colN ddN m0N m1N m2N m3N m5N "ValueError.__new__"))
    (tlCN : PySem.W.excTail [.type "ValueError", .type "Exception", .type "BaseException", .type "object"] bmN = true)
    (saCN : PySem.W.findIn K (.ref CN) "__setattr__" = some (some (.builtin "object.__setattr__")))
    (exCN : PySem.W.subIn K (.ref CN) (.type "BaseException") = some true)
    (kkCN : PySem.W.keepIn K (.ref CN) = true)
    (sECN : PySem.W.subIn K (.ref CN) (.ref CE) = some true)
    (soCN : PySem.W.subIn K (.ref CN) (.ref CT) = some false)
    (sBCN : PySem.W.subIn K (.ref CN) (.ref CB) = some false)
    (sSCN : PySem.W.subIn K (.ref CN) (.ref CS) = some false)
    (sVCN : PySem.W.subIn K (.ref CN) (.type "ValueError") = some true)
    (iiCN : PySem.W.findIn K (.ref CN) "__init__" = some (some (.ref fN)))
    (tiCN : PySem.W.typeIn K (.ref fN) = some (.type "function"))
    (liCN : K.lookup fN = some ⟨ocN, odN, .func (PySem.W.fnOf "__init__" "NoRow.__init__" (defArgs s_init_NoRow) (defBody s_init_NoRow) (defScope s_init_NoRow) .none kVN dcN pmN anN cdN ctN), slN⟩)
    (ciCN : PySem.W.codeIn K cdN "NoRow.__init__" = true)
    (kiCN : PySem.W.keepIn K (.ref fN) = true)
    (ftCN : PySem.W.findIn K (.ref CN) "table" = some none)
    (fkCN : PySem.W.findIn K (.ref CN) "key" = some none)
    (gaCN : PySem.W.findIn K (.ref CN) "__getattribute__" = some (some (.builtin "BaseException.__getattribute__")))
    (ggCN : PySem.W.findIn K (.ref CN) "__getattr__" = some none)
    (caCN : PySem.W.findIn K (.ref CN) "__class__" = some (some (.builtin "object.__class__")))
    (moCN : PySem.W.mroIn K CN (.type "object") = some true)
    (neCNCE : CN ≠ CE)
    (neCNCT : CN ≠ CT)
    (neCNCB : CN ≠ CB)
    (neCNCS : CN ≠ CS)
    (xCT : K.lookup CT = some (excClassObj nmT qT CT NT bsT bmT true snT subT abT colT ddT m0T m1T m2T m3T m5T "ValueError.__new__"))
    (tlCT : PySem.W.excTail [.type "ValueError", .type "Exception", .type "BaseException", .type "object"] bmT = true)
    (saCT : PySem.W.findIn K (.ref CT) "__setattr__" = some (some (.builtin "object.__setattr__")))
    (exCT : PySem.W.subIn K (.ref CT) (.type "BaseException") = some true)
    (kkCT : PySem.W.keepIn K (.ref CT) = true)
    (sECT : PySem.W.subIn K (.ref CT) (.ref CE) = some true)
    (soCT : PySem.W.subIn K (.ref CT) (.ref CN) = some false)
    (sBCT : PySem.W.subIn K (.ref CT) (.ref CB) = some false)
    (sSCT : PySem.W.subIn K (.ref CT) (.ref CS) = some false)
    (sVCT : PySem.W.subIn K (.ref CT) (.type "ValueError") = some true)
    (iiCT : PySem.W.findIn K (.ref CT) "__init__" = some (some (.ref fT)))
    (tiCT : PySem.W.typeIn K (.ref fT) = some (.type "function"))
    (liCT : K.lookup fT = some ⟨ocT, odT, .func (PySem.W.fnOf "__init__" "Taken.__init__" (defArgs s_init_Taken) (defBody s_init_Taken) (defScope s_init_Taken) .none kVT dcT pmT anT cdT ctT), slT⟩)
    (ciCT : PySem.W.codeIn K cdT "Taken.__init__" = true)
    (kiCT : PySem.W.keepIn K (.ref fT) = true)
    (ftCT : PySem.W.findIn K (.ref CT) "table" = some none)
    (fkCT : PySem.W.findIn K (.ref CT) "key" = some none)
    (gaCT : PySem.W.findIn K (.ref CT) "__getattribute__" = some (some (.builtin "BaseException.__getattribute__")))
    (ggCT : PySem.W.findIn K (.ref CT) "__getattr__" = some none)
    (caCT : PySem.W.findIn K (.ref CT) "__class__" = some (some (.builtin "object.__class__")))
    (moCT : PySem.W.mroIn K CT (.type "object") = some true)
    (neCTCE : CT ≠ CE)
    (neCTCN : CT ≠ CN)
    (neCTCB : CT ≠ CB)
    (neCTCS : CT ≠ CS)
    (sp : PySem.W.specialIn K (.builtin "object.__class__") "__get__" = some (some (.builtin "getset_descriptor.__get__")))
    (tk : PySem.W.takesIn K (.builtin "object.__class__") = some true)
    (a1 : PySem.W.nsIn K mainGlobals "_law_begin" = some (some (.ref f1))) (l1 : K.lookup f1 = some ⟨oc1, od1, .func (PySem.W.fnOf "_law_begin" "_law_begin" (defArgs s_law_begin) (defBody s_law_begin) (defScope s_law_begin) .none kV1 dc1 pm1 an1 cd1 ct1), sl1⟩) (c1 : PySem.W.codeIn K cd1 "_law_begin" = true) (k1 : PySem.W.keepIn K (.ref f1) = true)
    (a2 : PySem.W.nsIn K mainGlobals "_law_take" = some (some (.ref f2))) (l2 : K.lookup f2 = some ⟨oc2, od2, .func (PySem.W.fnOf "_law_take" "_law_take" (defArgs s_law_take) (defBody s_law_take) (defScope s_law_take) .none kV2 dc2 pm2 an2 cd2 ct2), sl2⟩) (c2 : PySem.W.codeIn K cd2 "_law_take" = true) (k2 : PySem.W.keepIn K (.ref f2) = true)
    (a3 : PySem.W.nsIn K mainGlobals "_law_some" = some (some (.ref f3))) (l3 : K.lookup f3 = some ⟨oc3, od3, .func (PySem.W.fnOf "_law_some" "_law_some" (defArgs s_law_some) (defBody s_law_some) (defScope s_law_some) .none kV3 dc3 pm3 an3 cd3 ct3), sl3⟩) (c3 : PySem.W.codeIn K cd3 "_law_some" = true) (k3 : PySem.W.keepIn K (.ref f3) = true)
    (a4 : PySem.W.nsIn K mainGlobals "_law_names" = some (some (.ref f4))) (l4 : K.lookup f4 = some ⟨oc4, od4, .func (PySem.W.fnOf "_law_names" "_law_names" (defArgs s_law_names) (defBody s_law_names) (defScope s_law_names) .none kV4 dc4 pm4 an4 cd4 ct4), sl4⟩) (c4 : PySem.W.codeIn K cd4 "_law_names" = true) (k4 : PySem.W.keepIn K (.ref f4) = true)
    (a5 : PySem.W.nsIn K mainGlobals "_law_worth" = some (some (.ref f5))) (l5 : K.lookup f5 = some ⟨oc5, od5, .func (PySem.W.fnOf "_law_worth" "_law_worth" (defArgs s_law_worth) (defBody s_law_worth) (defScope s_law_worth) .none kV5 dc5 pm5 an5 cd5 ct5), sl5⟩) (c5 : PySem.W.codeIn K cd5 "_law_worth" = true) (k5 : PySem.W.keepIn K (.ref f5) = true)
    (a6 : PySem.W.nsIn K mainGlobals "_law_tables" = some (some (.ref f6))) (l6 : K.lookup f6 = some ⟨oc6, od6, .func (PySem.W.fnOf "_law_tables" "_law_tables" (defArgs s_law_tables) (defBody s_law_tables) (defScope s_law_tables) .none kV6 dc6 pm6 an6 cd6 ct6), sl6⟩) (c6 : PySem.W.codeIn K cd6 "_law_tables" = true) (k6 : PySem.W.keepIn K (.ref f6) = true)
    (a7 : PySem.W.nsIn K mainGlobals "_law_near" = some (some (.ref f7))) (l7 : K.lookup f7 = some ⟨oc7, od7, .func (PySem.W.fnOf "_law_near" "_law_near" (defArgs s_law_near) (defBody s_law_near) (defScope s_law_near) .none kV7 dc7 pm7 an7 cd7 ct7), sl7⟩) (c7 : PySem.W.codeIn K cd7 "_law_near" = true) (k7 : PySem.W.keepIn K (.ref f7) = true)
    (a8 : PySem.W.nsIn K mainGlobals "_law_content" = some (some (.ref f8))) (l8 : K.lookup f8 = some ⟨oc8, od8, .func (PySem.W.fnOf "_law_content" "_law_content" (defArgs s_law_content) (defBody s_law_content) (defScope s_law_content) .none kV8 dc8 pm8 an8 cd8 ct8), sl8⟩) (c8 : PySem.W.codeIn K cd8 "_law_content" = true) (k8 : PySem.W.keepIn K (.ref f8) = true)
    (a9 : PySem.W.nsIn K mainGlobals "table_names" = some (some (.ref f9))) (l9 : K.lookup f9 = some ⟨oc9, od9, .func (PySem.W.fnOf "table_names" "table_names" (defArgs s_table_names) (defBody s_table_names) (defScope s_table_names) .none kV9 dc9 pm9 an9 cd9 ct9), sl9⟩) (c9 : PySem.W.codeIn K cd9 "table_names" = true) (k9 : PySem.W.keepIn K (.ref f9) = true)
    (a10 : PySem.W.nsIn K mainGlobals "_columns_of" = some (some (.ref f10))) (l10 : K.lookup f10 = some ⟨oc10, od10, .func (PySem.W.fnOf "_columns_of" "_columns_of" (defArgs s_columns_of) (defBody s_columns_of) (defScope s_columns_of) .none kV10 dc10 pm10 an10 cd10 ct10), sl10⟩) (c10 : PySem.W.codeIn K cd10 "_columns_of" = true) (k10 : PySem.W.keepIn K (.ref f10) = true)
    (a11 : PySem.W.nsIn K mainGlobals "column_names" = some (some (.ref f11))) (l11 : K.lookup f11 = some ⟨oc11, od11, .func (PySem.W.fnOf "column_names" "column_names" (defArgs s_column_names) (defBody s_column_names) (defScope s_column_names) .none kV11 dc11 pm11 an11 cd11 ct11), sl11⟩) (c11 : PySem.W.codeIn K cd11 "column_names" = true) (k11 : PySem.W.keepIn K (.ref f11) = true)
    (a12 : PySem.W.nsIn K mainGlobals "column_place" = some (some (.ref f12))) (l12 : K.lookup f12 = some ⟨oc12, od12, .func (PySem.W.fnOf "column_place" "column_place" (defArgs s_column_place) (defBody s_column_place) (defScope s_column_place) .none kV12 dc12 pm12 an12 cd12 ct12), sl12⟩) (c12 : PySem.W.codeIn K cd12 "column_place" = true) (k12 : PySem.W.keepIn K (.ref f12) = true)
    (a13 : PySem.W.nsIn K mainGlobals "table_place" = some (some (.ref f13))) (l13 : K.lookup f13 = some ⟨oc13, od13, .func (PySem.W.fnOf "table_place" "table_place" (defArgs s_table_place) (defBody s_table_place) (defScope s_table_place) .none kV13 dc13 pm13 an13 cd13 ct13), sl13⟩) (c13 : PySem.W.codeIn K cd13 "table_place" = true) (k13 : PySem.W.keepIn K (.ref f13) = true)
    (a14 : PySem.W.nsIn K mainGlobals "row_of" = some (some (.ref f14))) (l14 : K.lookup f14 = some ⟨oc14, od14, .func (PySem.W.fnOf "row_of" "row_of" (defArgs s_row_of) (defBody s_row_of) (defScope s_row_of) .none kV14 dc14 pm14 an14 cd14 ct14), sl14⟩) (c14 : PySem.W.codeIn K cd14 "row_of" = true) (k14 : PySem.W.keepIn K (.ref f14) = true)
    (a15 : PySem.W.nsIn K mainGlobals "rows_of" = some (some (.ref f15))) (l15 : K.lookup f15 = some ⟨oc15, od15, .func (PySem.W.fnOf "rows_of" "rows_of" (defArgs s_rows_of) (defBody s_rows_of) (defScope s_rows_of) .none kV15 dc15 pm15 an15 cd15 ct15), sl15⟩) (c15 : PySem.W.codeIn K cd15 "rows_of" = true) (k15 : PySem.W.keepIn K (.ref f15) = true)
    (a16 : PySem.W.nsIn K mainGlobals "_row_there" = some (some (.ref f16))) (l16 : K.lookup f16 = some ⟨oc16, od16, .func (PySem.W.fnOf "_row_there" "_row_there" (defArgs s_row_there) (defBody s_row_there) (defScope s_row_there) .none kV16 dc16 pm16 an16 cd16 ct16), sl16⟩) (c16 : PySem.W.codeIn K cd16 "_row_there" = true) (k16 : PySem.W.keepIn K (.ref f16) = true)
    (a17 : PySem.W.nsIn K mainGlobals "_rows_put" = some (some (.ref f17))) (l17 : K.lookup f17 = some ⟨oc17, od17, .func (PySem.W.fnOf "_rows_put" "_rows_put" (defArgs s_rows_put) (defBody s_rows_put) (defScope s_rows_put) .none kV17 dc17 pm17 an17 cd17 ct17), sl17⟩) (c17 : PySem.W.codeIn K cd17 "_rows_put" = true) (k17 : PySem.W.keepIn K (.ref f17) = true)
    (a18 : PySem.W.nsIn K mainGlobals "_rows_dropped" = some (some (.ref f18))) (l18 : K.lookup f18 = some ⟨oc18, od18, .func (PySem.W.fnOf "_rows_dropped" "_rows_dropped" (defArgs s_rows_dropped) (defBody s_rows_dropped) (defScope s_rows_dropped) .none kV18 dc18 pm18 an18 cd18 ct18), sl18⟩) (c18 : PySem.W.codeIn K cd18 "_rows_dropped" = true) (k18 : PySem.W.keepIn K (.ref f18) = true)
    (a19 : PySem.W.nsIn K mainGlobals "_cells_set" = some (some (.ref f19))) (l19 : K.lookup f19 = some ⟨oc19, od19, .func (PySem.W.fnOf "_cells_set" "_cells_set" (defArgs s_cells_set) (defBody s_cells_set) (defScope s_cells_set) .none kV19 dc19 pm19 an19 cd19 ct19), sl19⟩) (c19 : PySem.W.codeIn K cd19 "_cells_set" = true) (k19 : PySem.W.keepIn K (.ref f19) = true)
    (a20 : PySem.W.nsIn K mainGlobals "_rows_swept" = some (some (.ref f20))) (l20 : K.lookup f20 = some ⟨oc20, od20, .func (PySem.W.fnOf "_rows_swept" "_rows_swept" (defArgs s_rows_swept) (defBody s_rows_swept) (defScope s_rows_swept) .none kV20 dc20 pm20 an20 cd20 ct20), sl20⟩) (c20 : PySem.W.codeIn K cd20 "_rows_swept" = true) (k20 : PySem.W.keepIn K (.ref f20) = true)
    (a21 : PySem.W.nsIn K mainGlobals "_cells_shifted" = some (some (.ref f21))) (l21 : K.lookup f21 = some ⟨oc21, od21, .func (PySem.W.fnOf "_cells_shifted" "_cells_shifted" (defArgs s_cells_shifted) (defBody s_cells_shifted) (defScope s_cells_shifted) .none kV21 dc21 pm21 an21 cd21 ct21), sl21⟩) (c21 : PySem.W.codeIn K cd21 "_cells_shifted" = true) (k21 : PySem.W.keepIn K (.ref f21) = true)
    (a22 : PySem.W.nsIn K mainGlobals "own_part" = some (some (.ref f22))) (l22 : K.lookup f22 = some ⟨oc22, od22, .func (PySem.W.fnOf "own_part" "own_part" (defArgs s_own_part) (defBody s_own_part) (defScope s_own_part) .none kV22 dc22 pm22 an22 cd22 ct22), sl22⟩) (c22 : PySem.W.codeIn K cd22 "own_part" = true) (k22 : PySem.W.keepIn K (.ref f22) = true)
    (a23 : PySem.W.nsIn K mainGlobals "_law_deed" = some (some (.ref f23))) (l23 : K.lookup f23 = some ⟨oc23, od23, .func (PySem.W.fnOf "_law_deed" "_law_deed" (defArgs s_law_deed) (defBody s_law_deed) (defScope s_law_deed) .none kV23 dc23 pm23 an23 cd23 ct23), sl23⟩) (c23 : PySem.W.codeIn K cd23 "_law_deed" = true) (k23 : PySem.W.keepIn K (.ref f23) = true)
    (a24 : PySem.W.nsIn K mainGlobals "_law_copied" = some (some (.ref f24))) (l24 : K.lookup f24 = some ⟨oc24, od24, .func (PySem.W.fnOf "_law_copied" "_law_copied" (defArgs s_law_copied) (defBody s_law_copied) (defScope s_law_copied) .none kV24 dc24 pm24 an24 cd24 ct24), sl24⟩) (c24 : PySem.W.codeIn K cd24 "_law_copied" = true) (k24 : PySem.W.keepIn K (.ref f24) = true)
    (a25 : PySem.W.nsIn K mainGlobals "_law_same" = some (some (.ref f25))) (l25 : K.lookup f25 = some ⟨oc25, od25, .func (PySem.W.fnOf "_law_same" "_law_same" (defArgs s_law_same) (defBody s_law_same) (defScope s_law_same) .none kV25 dc25 pm25 an25 cd25 ct25), sl25⟩) (c25 : PySem.W.codeIn K cd25 "_law_same" = true) (k25 : PySem.W.keepIn K (.ref f25) = true)
    (a26 : PySem.W.nsIn K mainGlobals "_law_due" = some (some (.ref f26))) (l26 : K.lookup f26 = some ⟨oc26, od26, .func (PySem.W.fnOf "_law_due" "_law_due" (defArgs s_law_due) (defBody s_law_due) (defScope s_law_due) .none kV26 dc26 pm26 an26 cd26 ct26), sl26⟩) (c26 : PySem.W.codeIn K cd26 "_law_due" = true) (k26 : PySem.W.keepIn K (.ref f26) = true)
    (a27 : PySem.W.nsIn K mainGlobals "_law_told" = some (some (.ref f27))) (l27 : K.lookup f27 = some ⟨oc27, od27, .func (PySem.W.fnOf "_law_told" "_law_told" (defArgs s_law_told) (defBody s_law_told) (defScope s_law_told) .none kV27 dc27 pm27 an27 cd27 ct27), sl27⟩) (c27 : PySem.W.codeIn K cd27 "_law_told" = true) (k27 : PySem.W.keepIn K (.ref f27) = true)
    (a28 : PySem.W.nsIn K mainGlobals "law" = some (some (.ref f28))) (l28 : K.lookup f28 = some ⟨oc28, od28, .func (PySem.W.fnOf "law" "law" (defArgs s_law) (defBody s_law) (defScope s_law) .none kV28 dc28 pm28 an28 cd28 ct28), sl28⟩) (c28 : PySem.W.codeIn K cd28 "law" = true) (k28 : PySem.W.keepIn K (.ref f28) = true)
    (z_list : PySem.W.nsIn K mainGlobals "list" = some none)
    (z_len : PySem.W.nsIn K mainGlobals "len" = some none)
    (z_divmod : PySem.W.nsIn K mainGlobals "divmod" = some none)
    (z_range : PySem.W.nsIn K mainGlobals "range" = some none)
    (z_min : PySem.W.nsIn K mainGlobals "min" = some none)
    (z_int : PySem.W.nsIn K mainGlobals "int" = some none)
    (z_bool : PySem.W.nsIn K mainGlobals "bool" = some none)
    (z_str : PySem.W.nsIn K mainGlobals "str" = some none)
    (z_tuple : PySem.W.nsIn K mainGlobals "tuple" = some none)
    (z_all : PySem.W.nsIn K mainGlobals "all" = some none)
    (z_any : PySem.W.nsIn K mainGlobals "any" = some none)
    (z_repr : PySem.W.nsIn K mainGlobals "repr" = some none)
    (z_isinstance : PySem.W.nsIn K mainGlobals "isinstance" = some none)
    (z_zip : PySem.W.nsIn K mainGlobals "zip" = some none)
    (z_enumerate : PySem.W.nsIn K mainGlobals "enumerate" = some none)
    (z_set : PySem.W.nsIn K mainGlobals "set" = some none)
    (z_sum : PySem.W.nsIn K mainGlobals "sum" = some none)
    (z_sorted : PySem.W.nsIn K mainGlobals "sorted" = some none)
    (z_max : PySem.W.nsIn K mainGlobals "max" = some none)
    (z_ValueError : PySem.W.nsIn K mainGlobals "ValueError" = some none)
    : ∃ fd : FuncData, (∀ (s : Shared) (v : Value), BindsTo s fd ⟨[v], []⟩ [("script", v)]) ∧ ∀ base : Heap, K.In base → base.Ns mainGlobals mg → FnG l.prog w K mg base CX0 8 fa fd ["script"] (spLaw K) := by
  have e := hfa.symm.trans (PySem.W.mg_of X G a28)
  cases e
  have nb : NB mg := ⟨PySem.W.mg_none_of X G z_list, PySem.W.mg_none_of X G z_len, PySem.W.mg_none_of X G z_divmod, PySem.W.mg_none_of X G z_range, PySem.W.mg_none_of X G z_min, PySem.W.mg_none_of X G z_int, PySem.W.mg_none_of X G z_bool, PySem.W.mg_none_of X G z_str, PySem.W.mg_none_of X G z_tuple, PySem.W.mg_none_of X G z_all, PySem.W.mg_none_of X G z_any, PySem.W.mg_none_of X G z_repr, PySem.W.mg_none_of X G z_isinstance, PySem.W.mg_none_of X G z_zip, PySem.W.mg_none_of X G z_enumerate, PySem.W.mg_none_of X G z_set, PySem.W.mg_none_of X G z_sum, PySem.W.mg_none_of X G z_sorted, PySem.W.mg_none_of X G z_max⟩
  have TN : OexG K CN := ⟨⟨_, _, _, _, nmN, qN, NN, bsN, _, snN, subN, abN, colN, ddN, m0N, m1N, m2N, m3N, m5N, PySem.F.excBase_ValueError, PySem.F.store_ValueError, xCN, tlCN⟩, saCN, exCN, tyCN, kkCN⟩
  have kxN : KxC K CN := ⟨(let ⟨cd, hc, _⟩ := PySem.W.any_some hdCN; by rw [hc]; rfl), gaCN, ggCN, exCN, caCN, sp, tk, moCN, hdCN⟩
  have FN := fun_mk (st := s_init_NoRow) liCN ciCN kiCN
  have bN := FN.binds (ps := ["self", "table", "key"]) fun _ _ _ _ _ _ us hl => match us, hl with | [_, _, _], _ => rfl
  have TT : OexG K CT := ⟨⟨_, _, _, _, nmT, qT, NT, bsT, _, snT, subT, abT, colT, ddT, m0T, m1T, m2T, m3T, m5T, PySem.F.excBase_ValueError, PySem.F.store_ValueError, xCT, tlCT⟩, saCT, exCT, tyCT, kkCT⟩
  have kxT : KxC K CT := ⟨(let ⟨cd, hc, _⟩ := PySem.W.any_some hdCT; by rw [hc]; rfl), gaCT, ggCT, exCT, caCT, sp, tk, moCT, hdCT⟩
  have FT := fun_mk (st := s_init_Taken) liCT ciCT kiCT
  have bT := FT.binds (ps := ["self", "table", "key"]) fun _ _ _ _ _ _ us hl => match us, hl with | [_, _, _], _ => rfl
  have ne : NK K mg CE CN CT CB CS := ⟨PySem.W.mg_none_of X G z_ValueError, PySem.W.mg_of X G gCE, PySem.W.mg_of X G gCN, PySem.W.mg_of X G gCT, PySem.W.mg_of X G gCB, PySem.W.mg_of X G gCS, ⟨kxN, PySem.W.exm_ref exE hdCE tyCE sECN, kit_self, kit_own neCNCT hdCT tyCT soCN, kitAny_cons (kit_own neCNCB hdCB tyCB sBCN) (fun _ => kitAny_cons (kit_own neCNCS hdCS tyCS sSCN) (fun _ => kitAny_nil) (fun z => by cases z)) (fun z => by cases z), kit_blt sVCN (by decide +kernel), ftCN, fkCN⟩, ⟨kxT, PySem.W.exm_ref exE hdCE tyCE sECT, kit_own neCTCN hdCN tyCN soCT, kit_self, kitAny_cons (kit_own neCTCB hdCB tyCB sBCT) (fun _ => kitAny_cons (kit_own neCTCS hdCS tyCS sSCT) (fun _ => kitAny_nil) (fun z => by cases z)) (fun z => by cases z), kit_blt sVCT (by decide +kernel), ftCT, fkCT⟩⟩
  refine ⟨PySem.W.fnOf "law" "law" (defArgs s_law) (defBody s_law) (defScope s_law) .none kV28 dc28 pm28 an28 cd28 ct28, fun s v => .of_eq rfl, fun base _ _ => ?_⟩
  have NN' : Ers l.prog w K mg base "NoRow" "table" "key" CN := ⟨TN, PySem.W.mg_of X G gCN, ⟨fN, _, iiCN, tiCN, bN, ok_init_NoRow FN TN ftCN fkCN⟩⟩
  have NT' : Ers l.prog w K mg base "Taken" "table" "key" CT := ⟨TT, PySem.W.mg_of X G gCT, ⟨fT, _, iiCT, tiCT, bT, ok_init_Taken FT TT ftCT fkCT⟩⟩
  have F1 := fun_mk (st := s_law_begin) l1 c1 k1
  have b1 := F1.binds (ps := ["script"]) fun _ _ _ _ _ _ us hl => match us, hl with | [_], _ => rfl
  have D_law_begin : Def l.prog w K mg base 1 "_law_begin" ["script"] (spBegin K) := .mk (PySem.W.mg_of X G a1) k1 b1 (ok_begin F1 nb)
  have F2 := fun_mk (st := s_law_take) l2 c2 k2
  have b2 := F2.binds (ps := ["state", "many"]) fun _ _ _ _ _ _ us hl => match us, hl with | [_, _], _ => rfl
  have D_law_take : Def l.prog w K mg base 1 "_law_take" ["state", "many"] spTake := .mk (PySem.W.mg_of X G a2) k2 b2 (ok_take F2 nb)
  have F3 := fun_mk (st := s_law_some) l3 c3 k3
  have b3 := F3.binds (ps := ["state", "things"]) fun _ _ _ _ _ _ us hl => match us, hl with | [_, _], _ => rfl
  have D_law_some : Def l.prog w K mg base 2 "_law_some" ["state", "things"] (spSome K) := .mk (PySem.W.mg_of X G a3) k3 b3 (ok_some F3 nb D_law_take)
  have F4 := fun_mk (st := s_law_names) l4 c4 k4
  have b4 := F4.binds (ps := ["state", "many"]) fun _ _ _ _ _ _ us hl => match us, hl with | [_, _], _ => rfl
  have D_law_names : Def l.prog w K mg base 2 "_law_names" ["state", "many"] spNames := .mk (PySem.W.mg_of X G a4) k4 b4 (ok_names F4 nb D_law_take)
  have F5 := fun_mk (st := s_law_worth) l5 c5 k5
  have b5 := F5.binds (ps := ["state"]) fun _ _ _ _ _ _ us hl => match us, hl with | [_], _ => rfl
  have D_law_worth : Def l.prog w K mg base 2 "_law_worth" ["state"] spWorth := .mk (PySem.W.mg_of X G a5) k5 b5 (ok_worth F5 D_law_take)
  have F6 := fun_mk (st := s_law_tables) l6 c6 k6
  have b6 := F6.binds (ps := ["state", "many", "wide"]) fun _ _ _ _ _ _ us hl => match us, hl with | [_, _, _], _ => rfl
  have D_law_tables : Def l.prog w K mg base 3 "_law_tables" ["state", "many", "wide"] (spTables K) := .mk (PySem.W.mg_of X G a6) k6 b6 (ok_tables F6 nb D_law_take D_law_names D_law_worth)
  have F7 := fun_mk (st := s_law_near) l7 c7 k7
  have b7 := F7.binds (ps := ["state", "low", "many"]) fun _ _ _ _ _ _ us hl => match us, hl with | [_, _, _], _ => rfl
  have D_law_near : Def l.prog w K mg base 3 "_law_near" ["state", "low", "many"] spNear := .mk (PySem.W.mg_of X G a7) k7 b7 (ok_near F7 nb D_law_take D_law_worth)
  have F8 := fun_mk (st := s_law_content) l8 c8 k8
  have b8 := F8.binds (ps := ["state", "tables", "many"]) fun _ _ _ _ _ _ us hl => match us, hl with | [_, _, _], _ => rfl
  have D_law_content : Def l.prog w K mg base 4 "_law_content" ["state", "tables", "many"] (spContent K) := .mk (PySem.W.mg_of X G a8) k8 b8 (ok_content F8 nb D_law_take D_law_near)
  have F9 := fun_mk (st := s_table_names) l9 c9 k9
  have b9 := F9.binds (ps := ["tables"]) fun _ _ _ _ _ _ us hl => match us, hl with | [_], _ => rfl
  have D_table_names : Def l.prog w K mg base 1 "table_names" ["tables"] (spNamesOf K) := .mk (PySem.W.mg_of X G a9) k9 b9 (ok_table_names F9)
  have F10 := fun_mk (st := s_columns_of) l10 c10 k10
  have b10 := F10.binds (ps := ["tables", "table"]) fun _ _ _ _ _ _ us hl => match us, hl with | [_, _], _ => rfl
  have D_columns_of : Def l.prog w K mg base 1 "_columns_of" ["tables", "table"] (spColumnsOf K) := .mk (PySem.W.mg_of X G a10) k10 b10 (ok_columns_of F10)
  have F11 := fun_mk (st := s_column_names) l11 c11 k11
  have b11 := F11.binds (ps := ["tables", "table"]) fun _ _ _ _ _ _ us hl => match us, hl with | [_, _], _ => rfl
  have D_column_names : Def l.prog w K mg base 2 "column_names" ["tables", "table"] (spColNames K) := .mk (PySem.W.mg_of X G a11) k11 b11 (ok_column_names F11 D_columns_of)
  have F12 := fun_mk (st := s_column_place) l12 c12 k12
  have b12 := F12.binds (ps := ["tables", "table", "column"]) fun _ _ _ _ _ _ us hl => match us, hl with | [_, _, _], _ => rfl
  have D_column_place : Def l.prog w K mg base 3 "column_place" ["tables", "table", "column"] (spColPlace K) := .mk (PySem.W.mg_of X G a12) k12 b12 (ok_column_place F12 D_column_names)
  have F13 := fun_mk (st := s_table_place) l13 c13 k13
  have b13 := F13.binds (ps := ["tables", "table"]) fun _ _ _ _ _ _ us hl => match us, hl with | [_, _], _ => rfl
  have D_table_place : Def l.prog w K mg base 2 "table_place" ["tables", "table"] (spTabPlace K) := .mk (PySem.W.mg_of X G a13) k13 b13 (ok_table_place F13 D_table_names)
  have F14 := fun_mk (st := s_row_of) l14 c14 k14
  have b14 := F14.binds (ps := ["tables", "content", "table", "key"]) fun _ _ _ _ _ _ us hl => match us, hl with | [_, _, _, _], _ => rfl
  have D_row_of : Def l.prog w K mg base 3 "row_of" ["tables", "content", "table", "key"] (spRowOf K) := .mk (PySem.W.mg_of X G a14) k14 b14 (ok_row_of F14 nb D_table_place)
  have F15 := fun_mk (st := s_rows_of) l15 c15 k15
  have b15 := F15.binds (ps := ["tables", "content", "table"]) fun _ _ _ _ _ _ us hl => match us, hl with | [_, _, _], _ => rfl
  have D_rows_of : Def l.prog w K mg base 3 "rows_of" ["tables", "content", "table"] (spRowsOf K) := .mk (PySem.W.mg_of X G a15) k15 b15 (ok_rows_of F15 nb D_table_place)
  have F16 := fun_mk (st := s_row_there) l16 c16 k16
  have b16 := F16.binds (ps := ["tables", "content", "table", "key"]) fun _ _ _ _ _ _ us hl => match us, hl with | [_, _, _, _], _ => rfl
  have D_row_there : DefX l.prog w K mg base 4 "_row_there" ["tables", "content", "table", "key"] (spRowThere K CN) := ⟨f16, _, PySem.W.mg_of X G a16, k16, b16, (ok_row_there NN' F16 D_row_of)⟩
  have F17 := fun_mk (st := s_rows_put) l17 c17 k17
  have b17 := F17.binds (ps := ["tables", "content", "deed"]) fun _ _ _ _ _ _ us hl => match us, hl with | [_, _, _], _ => rfl
  have D_rows_put : DefX l.prog w K mg base 4 "_rows_put" ["tables", "content", "deed"] (spPart K CT "put" rPut noPut) := ⟨f17, _, PySem.W.mg_of X G a17, k17, b17, (ok_rows_put NT' F17 nb D_row_of)⟩
  have F18 := fun_mk (st := s_rows_dropped) l18 c18 k18
  have b18 := F18.binds (ps := ["tables", "content", "deed"]) fun _ _ _ _ _ _ us hl => match us, hl with | [_, _, _], _ => rfl
  have D_rows_dropped : DefX l.prog w K mg base 5 "_rows_dropped" ["tables", "content", "deed"] (spPart K CN "drop" rDrop noRow') := ⟨f18, _, PySem.W.mg_of X G a18, k18, b18, (ok_rows_dropped F18 D_row_there)⟩
  have F19 := fun_mk (st := s_cells_set) l19 c19 k19
  have b19 := F19.binds (ps := ["tables", "content", "deed"]) fun _ _ _ _ _ _ us hl => match us, hl with | [_, _, _], _ => rfl
  have D_cells_set : DefX l.prog w K mg base 5 "_cells_set" ["tables", "content", "deed"] (spPart K CN "set" rSet noRow') := ⟨f19, _, PySem.W.mg_of X G a19, k19, b19, (ok_cells_set F19 D_row_there D_column_place)⟩
  have F20 := fun_mk (st := s_rows_swept) l20 c20 k20
  have b20 := F20.binds (ps := ["tables", "content", "deed"]) fun _ _ _ _ _ _ us hl => match us, hl with | [_, _, _], _ => rfl
  have D_rows_swept : DefX l.prog w K mg base 4 "_rows_swept" ["tables", "content", "deed"] (spPart K CN "sweep" rSweep noNo) := ⟨f20, _, PySem.W.mg_of X G a20, k20, b20, (ok_rows_swept F20 D_column_place D_rows_of)⟩
  have F21 := fun_mk (st := s_cells_shifted) l21 c21 k21
  have b21 := F21.binds (ps := ["tables", "content", "deed"]) fun _ _ _ _ _ _ us hl => match us, hl with | [_, _, _], _ => rfl
  have D_cells_shifted : DefX l.prog w K mg base 4 "_cells_shifted" ["tables", "content", "deed"] (spPart K CN "shift" rShift noNo) := ⟨f21, _, PySem.W.mg_of X G a21, k21, b21, (ok_cells_shifted F21 D_column_place D_rows_of)⟩
  have F22 := fun_mk (st := s_own_part) l22 c22 k22
  have b22 := F22.binds (ps := ["tables", "content", "deed"]) fun _ _ _ _ _ _ us hl => match us, hl with | [_, _, _], _ => rfl
  have D_own_part : DefX l.prog w K mg base 6 "own_part" ["tables", "content", "deed"] (spOwn K CN CT) := ⟨f22, _, PySem.W.mg_of X G a22, k22, b22, (ok_own_part F22 D_rows_put D_rows_dropped D_cells_set D_rows_swept D_cells_shifted)⟩
  have F23 := fun_mk (st := s_law_deed) l23 c23 k23
  have b23 := F23.binds (ps := ["state", "tables", "content"]) fun _ _ _ _ _ _ us hl => match us, hl with | [_, _, _], _ => rfl
  have D_law_deed : Def l.prog w K mg base 4 "_law_deed" ["state", "tables", "content"] (spDeed K) := .mk (PySem.W.mg_of X G a23) k23 b23 (ok_deed F23 nb D_law_take D_law_some D_law_near)
  have F24 := fun_mk (st := s_law_copied) l24 c24 k24
  have b24 := F24.binds (ps := ["content"]) fun _ _ _ _ _ _ us hl => match us, hl with | [_], _ => rfl
  have D_law_copied : Def l.prog w K mg base 1 "_law_copied" ["content"] (spCopied K) := .mk (PySem.W.mg_of X G a24) k24 b24 (ok_copied F24 nb)
  have F25 := fun_mk (st := s_law_same) l25 c25 k25
  have b25 := F25.binds (ps := ["found", "due"]) fun _ _ _ _ _ _ us hl => match us, hl with | [_, _], _ => rfl
  have D_law_same : Def l.prog w K mg base 7 "_law_same" ["found", "due"] (spSame 6 K) := .mk (PySem.W.mg_of X G a25) k25 b25 (ok_same F25 nb (PySem.W.mg_of X G a25) b25 6)
  have F26 := fun_mk (st := s_law_due) l26 c26 k26
  have b26 := F26.binds (ps := ["tables", "content", "deed"]) fun _ _ _ _ _ _ us hl => match us, hl with | [_, _, _], _ => rfl
  have D_law_due : Def l.prog w K mg base 1 "_law_due" ["tables", "content", "deed"] (spDue K) := .mk (PySem.W.mg_of X G a26) k26 b26 (ok_due F26)
  have F27 := fun_mk (st := s_law_told) l27 c27 k27
  have b27 := F27.binds (ps := ["tables", "content", "deed"]) fun _ _ _ _ _ _ us hl => match us, hl with | [_, _, _], _ => rfl
  have D_law_told : Def l.prog w K mg base 7 "_law_told" ["tables", "content", "deed"] (spTold K) := .mk (PySem.W.mg_of X G a27) k27 b27 (ok_law_told ne F27 nb D_own_part)
  have F28 := fun_mk (st := s_law) l28 c28 k28
  exact ok_law F28 nb D_law_begin D_law_take D_law_tables D_law_content D_law_deed D_law_due D_law_copied D_law_told D_law_same
end TT
open PySem PySem.W PyProof.Rows
set_option maxRecDepth 100000 in
set_option maxHeartbeats 0 in
theorem PySem.Challenge.cw_tiedtables_k07_what_deeds_do_by_themselv_holds : PySem.Challenge.rw_tiedtables_k07_what_deeds_do_by_themselv.Holds := by
  w_on; o_law; k_head; (case hw => w_witness2)
  k_fill
  refine TT.walk_ofG (l := PySem.Challenge.rw_tiedtables_k07_what_deeds_do_by_themselv) (n := 63) (k := 8) (x := "script") (sp := TT.spLaw) rfl (by decide) rfl ⟨rfl, by decide, by decide⟩ (fun w h Y => PySem.W.kIn_of Y) ?F (fun K H a ns hl hO hS => ⟨a, ns, rfl, hS, fun _ => rfl⟩)
  case F =>
    intro w mg fa h KX G hmg
    refine' TT.all_mk KX G hmg ?gCE ?hdCE ?tyCE ?gCN ?hdCN ?tyCN ?gCT ?hdCT ?tyCT ?gCB ?hdCB ?tyCB ?gCS ?hdCS ?tyCS ?exE ?xCN ?tlCN ?saCN ?exCN ?kkCN ?sECN ?soCN ?sBCN ?sSCN ?sVCN ?iiCN ?tiCN ?liCN ?ciCN ?kiCN ?ftCN ?fkCN ?gaCN ?ggCN ?caCN ?moCN ?neCNCE ?neCNCT ?neCNCB ?neCNCS ?xCT ?tlCT ?saCT ?exCT ?kkCT ?sECT ?soCT ?sBCT ?sSCT ?sVCT ?iiCT ?tiCT ?liCT ?ciCT ?kiCT ?ftCT ?fkCT ?gaCT ?ggCT ?caCT ?moCT ?neCTCE ?neCTCN ?neCTCB ?neCTCS ?sp ?tk ?a1 ?l1 ?c1 ?k1 ?a2 ?l2 ?c2 ?k2 ?a3 ?l3 ?c3 ?k3 ?a4 ?l4 ?c4 ?k4 ?a5 ?l5 ?c5 ?k5 ?a6 ?l6 ?c6 ?k6 ?a7 ?l7 ?c7 ?k7 ?a8 ?l8 ?c8 ?k8 ?a9 ?l9 ?c9 ?k9 ?a10 ?l10 ?c10 ?k10 ?a11 ?l11 ?c11 ?k11 ?a12 ?l12 ?c12 ?k12 ?a13 ?l13 ?c13 ?k13 ?a14 ?l14 ?c14 ?k14 ?a15 ?l15 ?c15 ?k15 ?a16 ?l16 ?c16 ?k16 ?a17 ?l17 ?c17 ?k17 ?a18 ?l18 ?c18 ?k18 ?a19 ?l19 ?c19 ?k19 ?a20 ?l20 ?c20 ?k20 ?a21 ?l21 ?c21 ?k21 ?a22 ?l22 ?c22 ?k22 ?a23 ?l23 ?c23 ?k23 ?a24 ?l24 ?c24 ?k24 ?a25 ?l25 ?c25 ?k25 ?a26 ?l26 ?c26 ?k26 ?a27 ?l27 ?c27 ?k27 ?a28 ?l28 ?c28 ?k28 ?z_list ?z_len ?z_divmod ?z_range ?z_min ?z_int ?z_bool ?z_str ?z_tuple ?z_all ?z_any ?z_repr ?z_isinstance ?z_zip ?z_enumerate ?z_set ?z_sum ?z_sorted ?z_max ?z_ValueError
    (case gCE => k_is)
    (case hdCE => k_is)
    (case tyCE => k_is)
    (case gCN => k_is)
    (case hdCN => k_is)
    (case tyCN => k_is)
    (case gCT => k_is)
    (case hdCT => k_is)
    (case tyCT => k_is)
    (case gCB => k_is)
    (case hdCB => k_is)
    (case tyCB => k_is)
    (case gCS => k_is)
    (case hdCS => k_is)
    (case tyCS => k_is)
    (case exE => k_is)
    (case xCN => k_is)
    (case tlCN => decide +kernel)
    (case saCN => k_is)
    (case exCN => k_is)
    (case kkCN => k_is)
    (case sECN => k_is)
    (case soCN => k_is)
    (case sBCN => k_is)
    (case sSCN => k_is)
    (case sVCN => k_is)
    (case iiCN => k_is)
    (case tiCN => k_is)
    (case liCN => k_is)
    (case ciCN => k_is)
    (case kiCN => k_is)
    (case ftCN => k_is)
    (case fkCN => k_is)
    (case gaCN => k_is)
    (case ggCN => k_is)
    (case caCN => k_is)
    (case moCN => k_is)
    (case neCNCE => decide)
    (case neCNCT => decide)
    (case neCNCB => decide)
    (case neCNCS => decide)
    (case xCT => k_is)
    (case tlCT => decide +kernel)
    (case saCT => k_is)
    (case exCT => k_is)
    (case kkCT => k_is)
    (case sECT => k_is)
    (case soCT => k_is)
    (case sBCT => k_is)
    (case sSCT => k_is)
    (case sVCT => k_is)
    (case iiCT => k_is)
    (case tiCT => k_is)
    (case liCT => k_is)
    (case ciCT => k_is)
    (case kiCT => k_is)
    (case ftCT => k_is)
    (case fkCT => k_is)
    (case gaCT => k_is)
    (case ggCT => k_is)
    (case caCT => k_is)
    (case moCT => k_is)
    (case neCTCE => decide)
    (case neCTCN => decide)
    (case neCTCB => decide)
    (case neCTCS => decide)
    (case sp => k_is)
    (case tk => k_is)
    (case a1 => k_is)
    (case l1 => k_is)
    (case c1 => k_is)
    (case k1 => k_is)
    (case a2 => k_is)
    (case l2 => k_is)
    (case c2 => k_is)
    (case k2 => k_is)
    (case a3 => k_is)
    (case l3 => k_is)
    (case c3 => k_is)
    (case k3 => k_is)
    (case a4 => k_is)
    (case l4 => k_is)
    (case c4 => k_is)
    (case k4 => k_is)
    (case a5 => k_is)
    (case l5 => k_is)
    (case c5 => k_is)
    (case k5 => k_is)
    (case a6 => k_is)
    (case l6 => k_is)
    (case c6 => k_is)
    (case k6 => k_is)
    (case a7 => k_is)
    (case l7 => k_is)
    (case c7 => k_is)
    (case k7 => k_is)
    (case a8 => k_is)
    (case l8 => k_is)
    (case c8 => k_is)
    (case k8 => k_is)
    (case a9 => k_is)
    (case l9 => k_is)
    (case c9 => k_is)
    (case k9 => k_is)
    (case a10 => k_is)
    (case l10 => k_is)
    (case c10 => k_is)
    (case k10 => k_is)
    (case a11 => k_is)
    (case l11 => k_is)
    (case c11 => k_is)
    (case k11 => k_is)
    (case a12 => k_is)
    (case l12 => k_is)
    (case c12 => k_is)
    (case k12 => k_is)
    (case a13 => k_is)
    (case l13 => k_is)
    (case c13 => k_is)
    (case k13 => k_is)
    (case a14 => k_is)
    (case l14 => k_is)
    (case c14 => k_is)
    (case k14 => k_is)
    (case a15 => k_is)
    (case l15 => k_is)
    (case c15 => k_is)
    (case k15 => k_is)
    (case a16 => k_is)
    (case l16 => k_is)
    (case c16 => k_is)
    (case k16 => k_is)
    (case a17 => k_is)
    (case l17 => k_is)
    (case c17 => k_is)
    (case k17 => k_is)
    (case a18 => k_is)
    (case l18 => k_is)
    (case c18 => k_is)
    (case k18 => k_is)
    (case a19 => k_is)
    (case l19 => k_is)
    (case c19 => k_is)
    (case k19 => k_is)
    (case a20 => k_is)
    (case l20 => k_is)
    (case c20 => k_is)
    (case k20 => k_is)
    (case a21 => k_is)
    (case l21 => k_is)
    (case c21 => k_is)
    (case k21 => k_is)
    (case a22 => k_is)
    (case l22 => k_is)
    (case c22 => k_is)
    (case k22 => k_is)
    (case a23 => k_is)
    (case l23 => k_is)
    (case c23 => k_is)
    (case k23 => k_is)
    (case a24 => k_is)
    (case l24 => k_is)
    (case c24 => k_is)
    (case k24 => k_is)
    (case a25 => k_is)
    (case l25 => k_is)
    (case c25 => k_is)
    (case k25 => k_is)
    (case a26 => k_is)
    (case l26 => k_is)
    (case c26 => k_is)
    (case k26 => k_is)
    (case a27 => k_is)
    (case l27 => k_is)
    (case c27 => k_is)
    (case k27 => k_is)
    (case a28 => k_is)
    (case l28 => k_is)
    (case c28 => k_is)
    (case k28 => k_is)
    (case z_list => k_is)
    (case z_len => k_is)
    (case z_divmod => k_is)
    (case z_range => k_is)
    (case z_min => k_is)
    (case z_int => k_is)
    (case z_bool => k_is)
    (case z_str => k_is)
    (case z_tuple => k_is)
    (case z_all => k_is)
    (case z_any => k_is)
    (case z_repr => k_is)
    (case z_isinstance => k_is)
    (case z_zip => k_is)
    (case z_enumerate => k_is)
    (case z_set => k_is)
    (case z_sum => k_is)
    (case z_sorted => k_is)
    (case z_max => k_is)
    (case z_ValueError => k_is)
