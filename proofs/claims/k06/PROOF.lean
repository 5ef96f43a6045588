import PyProof.Rows.All
import Wide.All
import OpenK.AllK
import Wide.FinOn
import HandS.ForMost
import HandS.Wide
import HandS.WideBits
import PyProof.ReprRoads
import PyProof.CallFns
import HandS.Walk
import HandS.Iter
import KE.GoesEnum
import PyProof.StrOps2
import HandS.More
import HandS.Dict
import HandS.Style
import PySem.Challenge.RW_tiedtables_k06_what_deeds_are
import HandS.IsInst
import HandS.StrMore
import PyProof.Rows.IntBool
import PyProof.Rows.StrDigitsNeg
import PyProof.Rows.StrJoinMade
import PyProof.Rows.StrCase
set_option Elab.async false
set_option linter.all false
set_option maxRecDepth 100000
namespace TT
open PySem PySem.Spec PyProof.Rows L2

/-! ### an own def of the module, by its name -/
def Def (P : Program) (w : World) (K : PySem.W.Frag) (mg : Str → Option Value) (base : Heap) (k : Nat) (x : Str) (ps : List Str) (sp : Sp) : Prop :=
  ∃ f fd, mg x = some (.ref f) ∧ PySem.W.keepIn K (.ref f) = true ∧ Binds K fd ps [] ∧ FnOk P w K mg base CX0 k f fd ps sp
section
variable {X : Cx} {k j : Nat} {x : Str} {ps : List Str} {sp : Sp} {p pos : Pos} {e : Expr} {es : List Expr} {t : TA}
theorem pe_own (D : Def X.prog X.w X.K X.mg X.base k x ps sp) (hr : Room j X.A) (ha : PA X (e :: es) t) (hkj : k ≤ j := by decide) (hg : Gl X x := by rfl) (hdb : (x == ("__debug__" : Str)) = false := by decide)
    (he : starEach (e :: es) X.env = (false, eval e X.env) :: starEach es X.env := by rfl) (hpl : (backTo pos (starEach es X.env)).any (·.1) = false := by rfl) :
    PE X (.Call (.Name x p) (e :: es) [] pos) (tCall sp [] E0 t) := by
  obtain ⟨f, fd, hm, hk, hb, F⟩ := D
  exact pe_call F (hr.mono hkj) hg hm hk hb .nil pass0 ha hdb he hpl
theorem pe_gint {i : Int} (h : ∃ u, X.mg x = some (.int i u)) (hg : Gl X x := by rfl) (hdb : (x == ("__debug__" : Str)) = false := by decide) : PE X (.Name x p) (tC (.int i)) := by
  obtain ⟨u, hm⟩ := h
  exact pe_glob hg hm ⟨u, rfl⟩ hdb
end
theorem Def.mk {P : Program} {w : World} {K : PySem.W.Frag} {mg : Str → Option Value} {base : Heap} {k : Nat} {x : Str} {ps : List Str} {sp : Sp} {f : Addr} {fd : FuncData} (h1 : mg x = some (.ref f)) (h2 : PySem.W.keepIn K (.ref f) = true) (h3 : Binds K fd ps []) (h4 : FnOk P w K mg base CX0 k f fd ps sp) : Def P w K mg base k x ps sp := ⟨f, fd, h1, h2, h3, h4⟩

/-- the built-in names stand as they are -/
structure NB (mg : Str → Option Value) : Prop where
  b_list : mg "list" = none
  b_len : mg "len" = none
  b_divmod : mg "divmod" = none
  b_range : mg "range" = none
  b_min : mg "min" = none
  b_int : mg "int" = none
  b_bool : mg "bool" = none
  b_str : mg "str" = none
  b_tuple : mg "tuple" = none
  b_all : mg "all" = none
  b_any : mg "any" = none
  b_repr : mg "repr" = none
  b_isinstance : mg "isinstance" = none
  b_zip : mg "zip" = none
  b_enumerate : mg "enumerate" = none
  b_set : mg "set" = none
  b_sum : mg "sum" = none
  b_sorted : mg "sorted" = none
  b_max : mg "max" = none

/-! ### masks: what is not to be leant on -/
def msk (M : List Addr) (H : Hp) : Hp := fun p => if p ∈ M then none else H p
/-- all but what stands at M is as it was -/
def Kept (M : List Addr) (H H' : Hp) : Prop := ∀ p o, H p = some o → p ∉ M → H' p = some o
theorem Kept.refl (M : List Addr) (H : Hp) : Kept M H H := fun _ _ h _ => h
theorem Kept.trans {M : List Addr} {H H1 H2 : Hp} (a : Kept M H H1) (b : Kept M H1 H2) : Kept M H H2 := fun p o h n => b p o (a p o h n) n
theorem Kept.of_same {M : List Addr} {H H' : Hp} (h : Same H H') : Kept M H H' := fun p o e _ => h p o e
theorem Kept.upd_new {M : List Addr} {H : Hp} {p : Addr} {o : HO} (h : H p = none) : Kept M H (upd H p o) := fun b u e _ => by
  rw [upd_ne (ne_of_none e h)]; exact e
theorem Kept.upd_in {M : List Addr} {H : Hp} {p : Addr} {o : HO} (h : p ∈ M) : Kept M H (upd H p o) := fun b u e n => by
  rw [upd_ne (fun (z : b = p) => n (by rw [z]; exact h))]; exact e
theorem Kept.mono {M M' : List Addr} {H H' : Hp} (h : Kept M H H') (s : ∀ p ∈ M, p ∈ M') : Kept M' H H' := fun p o e n => h p o e fun z => n (s p z)
/-- less is masked: what is masked no more was not there -/
theorem Kept.new {M : List Addr} {p : Addr} {H H' : Hp} (h : Kept (p :: M) H H') (n : H p = none) : Kept M H H' := fun b o e nb => h b o e fun z => by
  rcases List.mem_cons.mp z with rfl | z
  · rw [n] at e; cases e
  · exact nb z
theorem Kept.at {M : List Addr} {H H' : Hp} (h : Kept M H H') {p : Addr} {o : HO} (e : H p = some o) (n : p ∉ M) : H' p = some o := h p o e n
theorem msk_same {M : List Addr} {H H' : Hp} (h : Kept M H H') : Same (msk M H) (msk M H') := fun p o e => by
  unfold msk at e ⊢
  by_cases hp : p ∈ M
  · rw [if_pos hp] at e; cases e
  · rw [if_neg hp] at e ⊢; exact h p o e hp
theorem msk_sub (M : List Addr) (H : Hp) : Same (msk M H) H := fun p o e => by
  unfold msk at e
  by_cases hp : p ∈ M
  · rw [if_pos hp] at e; cases e
  · rw [if_neg hp] at e; exact e
/-- a new address may be masked, too -/
theorem msk_new {M : List Addr} {H : Hp} {p : Addr} (n : H p = none) : Same (msk M H) (msk (p :: M) H) := fun b o e => by
  have e' := msk_sub M H b o e
  unfold msk at e ⊢
  by_cases hp : b ∈ M
  · rw [if_pos hp] at e; cases e
  · rw [if_neg hp] at e
    rw [if_neg (fun z => by
      rcases List.mem_cons.mp z with rfl | z
      · rw [n] at e; cases e
      · exact hp z)]
    exact e
theorem msk_less {M M' : List Addr} {H : Hp} (s : ∀ p ∈ M', p ∈ M) : Same (msk M H) (msk M' H) := fun p o e => by
  unfold msk at e ⊢
  by_cases hp : p ∈ M
  · rw [if_pos hp] at e; cases e
  · rw [if_neg hp] at e
    rw [if_neg (fun z => hp (s p z))]; exact e

/-! ### data -/
theorem sameT {K : PySem.W.Frag} {H H' : Hp} {a : Addr} {xs : List V} (e : Same H H') (h : SqT K H a xs) : SqT K H' a xs := by
  rcases h with (h | ⟨o, h⟩) | h
  · exact .inl (.inl (e _ _ h))
  · exact .inl (.inr ⟨o, e _ _ h⟩)
  · exact .inr h
mutual
theorem dp_same {K : PySem.W.Frag} {H H' : Hp} (e : Same H H') : ∀ {d : PyData} {v : V}, Dp K H v d → Dp K H' v d
  | _, _, .non => .non
  | _, _, .bl b => .bl b
  | _, _, .int i => .int i
  | _, _, .str x => .str x
  | _, _, .lst h a => .lst (e.seq h) (dpAll_same e a)
  | _, _, .tup h a => .tup (sameT e h) (dpAll_same e a)
theorem dpAll_same {K : PySem.W.Frag} {H H' : Hp} (e : Same H H') : ∀ {ds : List PyData} {vs : List V}, DpAll K H vs ds → DpAll K H' vs ds
  | _, _, .nil => .nil
  | _, _, .cons h t => .cons (dp_same e h) (dpAll_same e t)
end
theorem dpAll_len {K : PySem.W.Frag} {H : Hp} : ∀ {ds : List PyData} {vs : List V}, DpAll K H vs ds → vs.length = ds.length
  | _, _, .nil => rfl
  | _, _, .cons _ t => congrArg (· + 1) (dpAll_len t)
theorem dpAll_get {K : PySem.W.Frag} {H : Hp} : ∀ {ds : List PyData} {vs : List V} (i : Nat) {v : V}, DpAll K H vs ds → vs[i]? = some v → ∃ d, ds[i]? = some d ∧ Dp K H v d
  | _, _, _, _, .nil, e => by simp at e
  | _, _, 0, _, .cons h _, e => by simp at e; subst e; exact ⟨_, rfl, h⟩
  | _, _, i + 1, v, .cons _ t, e => by
    obtain ⟨d, h1, h2⟩ := dpAll_get i (v := v) t (by simpa using e)
    exact ⟨d, by simpa using h1, h2⟩
theorem dpAll_app {K : PySem.W.Frag} {H : Hp} : ∀ {ds es : List PyData} {vs us : List V}, DpAll K H vs ds → DpAll K H us es → DpAll K H (vs ++ us) (ds ++ es)
  | _, _, _, _, .nil, s => s
  | _, _, _, _, .cons h t, s => .cons h (dpAll_app t s)
theorem dpAll_snoc {K : PySem.W.Frag} {H : Hp} {ds : List PyData} {d : PyData} {vs : List V} {v : V} (a : DpAll K H vs ds) (h : Dp K H v d) : DpAll K H (vs ++ [v]) (ds ++ [d]) := dpAll_app a (.cons h .nil)

/-! ### the state of the draws -/
def kCells : Key := Sum.inr "cells"
def kTurn : Key := Sum.inr "turn"
theorem kne : ¬ (kCells = kTurn) := by decide +kernel
def stD (c : Addr) (t : Int) : List (Key × V) := [(kCells, .ref c), (kTurn, .int t)]
theorem stD_cells (c : Addr) (t : Int) : valV (stD c t) kCells = some (.ref c) := valV_pos rfl
theorem stD_turn (c : Addr) (t : Int) : valV (stD c t) kTurn = some (.int t) := by
  unfold stD
  rw [valV_neg kne, valV_pos rfl]
theorem stD_put (c : Addr) (t i : Int) : putK (stD c t) kTurn (.int i) = stD c i := by
  have h1 : (decide (kCells = kTurn)) = false := decide_eq_false kne
  have h2 : (decide (kTurn = kTurn)) = true := decide_eq_true rfl
  simp [stD, putK, h1, h2, kne]
/-- a state of draws at s, its cells at c, at most T turns -/
structure StAt (H : Hp) (s c : Addr) (T : Nat) : Prop where
  ex : ∃ t : Int, (0 ≤ t ∧ t ≤ (T : Int)) ∧ H s = some (.dK (stD c t))
  cs : ∃ ns : List Int, 0 < ns.length ∧ ns.length ≤ 63 ∧ H c = some (.lst (ns.map V.int))
theorem StAt.mono {H : Hp} {s c : Addr} {T T' : Nat} (h : StAt H s c T) (l : T ≤ T') : StAt H s c T' := ⟨let ⟨t, a, b⟩ := h.ex; ⟨t, ⟨a.1, by omega⟩, b⟩, h.cs⟩
theorem StAt.ne {H : Hp} {s c : Addr} {T : Nat} (h : StAt H s c T) : s ≠ c := by
  obtain ⟨t, _, e⟩ := h.ex
  obtain ⟨ns, _, _, e2⟩ := h.cs
  exact ne_of e e2 (by intro z; cases z)
theorem StAt.same {H H' : Hp} {s c : Addr} {T : Nat} (h : StAt H s c T) (e : Same H H') : StAt H' s c T :=
  ⟨let ⟨t, a, b⟩ := h.ex; ⟨t, a, e _ _ b⟩, let ⟨ns, a, b, q⟩ := h.cs; ⟨ns, a, b, e _ _ q⟩⟩
theorem StAt.nes {H : Hp} {s c p : Addr} {T : Nat} (h : StAt H s c T) (n : H p = none) : s ≠ p := let ⟨_, _, b⟩ := h.ex; ne_of_none b n
theorem StAt.nec {H : Hp} {s c p : Addr} {T : Nat} (h : StAt H s c T) (n : H p = none) : c ≠ p := let ⟨_, _, _, b⟩ := h.cs; ne_of_none b n
theorem StAt.upd {H : Hp} {s c p : Addr} {T : Nat} {o : HO} (h : StAt H s c T) (h1 : s ≠ p) (h2 : c ≠ p) : StAt (upd H p o) s c T :=
  ⟨let ⟨t, a, b⟩ := h.ex; ⟨t, a, by rw [upd_ne h1]; exact b⟩, let ⟨ns, a, b, q⟩ := h.cs; ⟨ns, a, b, by rw [upd_ne h2]; exact q⟩⟩
theorem StAt.upd_new {H : Hp} {s c p : Addr} {T : Nat} {o : HO} (h : StAt H s c T) (n : H p = none) : StAt (L2.upd H p o) s c T := h.upd (h.nes n) (h.nec n)

theorem Kept.seqL {M : List Addr} {H H' : Hp} (h : Kept M H H') {K : PySem.W.Frag} {p : Addr} {xs : List V} (n : p ∉ M) (q : SqL K H p xs) : SqL K H' p xs := by
  rcases q with (q | ⟨o, q⟩) | q
  · exact .inl (.inl (h _ _ q n))
  · exact .inl (.inr ⟨o, h _ _ q n⟩)
  · exact .inr q
theorem Kept.seqT {M : List Addr} {H H' : Hp} (h : Kept M H H') {K : PySem.W.Frag} {p : Addr} {xs : List V} (n : p ∉ M) (q : SqT K H p xs) : SqT K H' p xs := by
  rcases q with (q | ⟨o, q⟩) | q
  · exact .inl (.inl (h _ _ q n))
  · exact .inl (.inr ⟨o, h _ _ q n⟩)
  · exact .inr q
theorem same_upd {H : Hp} {p : Addr} {o : HO} (h : H p = none) : Same H (upd H p o) := fun b x e => by
  rw [upd_ne (ne_of_none e h)]
  exact e

/-! ### what the draws promise -/
def spBegin (K : PySem.W.Frag) : Sp := fun vs H Q _ => ∃ (a : Addr) (ns : List Int), vs = [.ref a] ∧ SqL K H a (ns.map V.int) ∧
  ∀ (s c : Addr) (H' : Hp), StAt H' s c 0 → H s = none → H c = none → Same H H' → Q (.ref s) H'
def spTake : Sp := fun vs H Q _ => ∃ (s c : Addr) (T : Nat) (m : Int), vs = [.ref s, .int m] ∧ StAt H s c T ∧ T ≤ 1000000 ∧ 0 < m ∧ m < 2 ^ 62 ∧
  ∀ (d : Int) (H' : Hp), 0 ≤ d → d < m → StAt H' s c (T + 1) → Kept [s, c] H H' → Q (.int d) H'
end TT

set_option Elab.async false
set_option linter.all false
set_option maxRecDepth 100000
namespace TT
open PySem PySem.Spec PyProof.Rows L2
/-! ### repr of data -/
def rRepr (K : PySem.W.Frag) : List V → Hp → VK → Prop := fun xs H Q => ∃ (v : V) (d : PyData), xs = [v] ∧ Dp K H v d ∧ d.showable = true ∧ d.hasDict = false ∧ d.depth ≤ 60 ∧ d.shown.length ≤ sizeLine ∧ Q (.str d.shown) H
section
variable {X : Cx} {k : Nat}
theorem call_repr_d (hg : X.A.guards = some []) (hr : Room k X.A) : CallR X (.builtin "repr") (rRepr X.K) := by
  intro pins s σ H xs us Q I r h
  obtain ⟨v, d, rfl, hd, h1, h2, h3, h4, q⟩ := h
  obtain ⟨u, rfl, rv⟩ := vals1 r
  obtain ⟨as, rd⟩ := Dp.reads I d v u hd rv
  have hu := hr.units
  have big : ∀ a, u = .ref a → wpAny (model X.prog X.w) X.A (call (.builtin "repr") [u]) (EP X pins σ Q) X.xe s := by
    intro a e
    subst e
    refine repr_of_reads' rd h1 (PyData.noDict_hsm h2) hg (by omega) (fun _ _ e => e) (fun h' t tk hk => ?_) h4
    exact ⟨.str d.shown, H, I.kept (t' := tk) hk, ⟨t, rfl⟩, q⟩
  cases hd with
  | non => cases rv; exact P.repr_of_none ⟨.str _, H, I.tok _, ⟨_, rfl⟩, q⟩
  | bl b => cases rv; exact P.repr_of_bool ⟨.str _, H, I.tok _, ⟨_, by cases b <;> rfl⟩, q⟩
  | int i => obtain ⟨t, rfl⟩ := rv; exact P.repr_of_int (of_decide_eq_true h1) ⟨.str _, H, I.tok _, ⟨_, rfl⟩, q⟩
  | str x => obtain ⟨t, rfl⟩ := rv; exact P.repr_of_str ⟨.str _, H, I.tok _, ⟨_, rfl⟩, q⟩ h4
  | lst _ _ => cases rv; exact big _ rfl
  | tup _ _ => cases rv; exact big _ rfl
end
/-! ### a def's promise where nothing is being shown -/
structure FnG (P : Program) (w : World) (K : PySem.W.Frag) (mg : Str → Option Value) (base : Heap) (CX : CXT) (k : Nat) (f : Addr) (fd : FuncData) (ps : List Str) (sp : Sp) : Prop where
  len : ∀ vs H Q E, sp vs H Q E → vs.length = ps.length
  run : ∀ (A : Around) (outer : List Env) (s : Shared) (H : Hp) (args : Args) (us : List Value) (vs : List V) (Q : VK) (E : XK), Room k A → A.guards = some [] → Env0 P w K mg base A outer s H → BindsTo s fd args (ps.zip us) → Vals vs us → sp vs H Q E →
    codeAny (model P w) A (.call (.ref f) args) (CR CX outer P w H s Q E) s
section
variable {P : Program} {w : World} {K : PySem.W.Frag} {mg : Str → Option Value} {base : Heap} {CX : CXT} {k : Nat}
theorem FnG.of {f : Addr} {fd : FuncData} {ps : List Str} {sp : Sp} (F : FnOk P w K mg base CX k f fd ps sp) : FnG P w K mg base CX k f fd ps sp :=
  ⟨F.len, fun A outer s H args us vs Q E hr _ e0 hb r h => F.run A outer s H args us vs Q E hr e0 hb r h⟩
/-- a def by its body, where nothing is being shown -/
theorem okG {x qual : Str} {st : Stmt} {f : Addr} {fd : FuncData} {N ps : List Str} {sp : Sp} (F : Fun K x qual st f fd) (S : FnScope N ps (defScope st)) (len : ∀ vs H Q E, sp vs H Q E → vs.length = ps.length)
    (body : ∀ (cdv : Value) (A : Around) (outer : List Env) (s : Shared) (H : Hp) (vs : List V) (Q : VK) (E : XK), Room k (A.deeper (envOfC qual (defScope st) s.heap.objs.size f cdv)) → (A.deeper (envOfC qual (defScope st) s.heap.objs.size f cdv)).guards = some [] → sp vs H Q E →
      ∃ t, PSs (cxOf CX0 P w K mg base N qual (defScope st) f cdv A outer s H E).nox (defBody st) t ∧ t { nx := fun _ H' => Q .non H', rt := Q } (L2.start N vs) H) : FnG P w K mg base CX0 (k + 1) f fd ps sp := by
  obtain ⟨oc, od, kV, doc, pm, an, cdv, ct, osl, rfl, lk, hcd⟩ := F.ex
  refine ⟨len, fun A outer s H args us vs Q E hr hg e0 hb r hsp => ?_⟩
  have same : ∀ b o, base.get? b = some o → s.heap.get? b = some o := fun b o e => (e0.bs b o e).1
  have KX : K.In s.heap := e0.mod.kin.keeps same
  have lim : s.heap.NoLimit := e0.mod.nolimit.keeps same
  refine codeAny_call_function hr.depth (KX _ _ lk) rfl S.co S.gen rfl (PySem.W.codeRec_of KX hcd) (hb _ _ _ _ ?_)
  refine wpAny_newFunctionEnv_cells S.kind (fun y hy => ?_) fun env he s1 x => ?_
  · rcases S.par y.1 (List.of_mem_zip (show (y.1, y.2) ∈ ps.zip us from hy)).1 with q | q
    · exact .inl q
    · exact .inr ⟨q, PySem.W.cellsFrom_some _ _ _ (.inl q)⟩
  · subst he
    refine ⟨lim.keeps x.toInCall.keep, codeAny_func ?_⟩
    obtain ⟨t, ht, hq⟩ := body cdv A outer s H vs Q E (hr.deeper _) hg hsp
    have I := inv_start (CX := CX0) (E := E) S hr.hd e0 (len _ _ _ _ hsp) r x
    refine wpAny_mono (ht.nox.run [] s1 (L2.start N vs) H _ I hq) (fun fl s' hs => ?_) fun e s' hs => hs
    cases fl with
    | next => exact let ⟨_, H', J, q⟩ := hs; ⟨V.non, H', J.os, J.bare, J.base, J.hok, rfl, q⟩
    | ret u => exact let ⟨v, _, H', J, rv, q⟩ := hs; ⟨v, H', J.os, J.bare, J.base, J.hok, rv, q⟩
    | brk => exact let ⟨_, _, _, q⟩ := hs; False.elim q
    | cont => exact let ⟨_, _, _, q⟩ := hs; False.elim q
end
/-! ### its call -/
def DefG (P : Program) (w : World) (K : PySem.W.Frag) (mg : Str → Option Value) (base : Heap) (k : Nat) (x : Str) (ps : List Str) (sp : Sp) : Prop :=
  ∃ f fd, mg x = some (.ref f) ∧ PySem.W.keepIn K (.ref f) = true ∧ Binds K fd ps [] ∧ FnG P w K mg base CX0 k f fd ps sp
theorem DefG.mk {P : Program} {w : World} {K : PySem.W.Frag} {mg : Str → Option Value} {base : Heap} {k : Nat} {x : Str} {ps : List Str} {sp : Sp} {f : Addr} {fd : FuncData} (h1 : mg x = some (.ref f)) (h2 : PySem.W.keepIn K (.ref f) = true) (h3 : Binds K fd ps []) (h4 : FnG P w K mg base CX0 k f fd ps sp) : DefG P w K mg base k x ps sp := ⟨f, fd, h1, h2, h3, h4⟩
section
variable {X : Cx} {k j : Nat} {x : Str} {ps : List Str} {sp : Sp} {p pos : Pos} {e : Expr} {es : List Expr} {t : TA}
theorem pe_ownG (D : DefG X.prog X.w X.K X.mg X.base k x ps sp) (hA : X.A.guards = some []) (hr : Room j X.A) (ha : PA X (e :: es) t) (hkj : k ≤ j := by decide) (hg : Gl X x := by rfl) (hdb : (x == ("__debug__" : Str)) = false := by decide)
    (he : starEach (e :: es) X.env = (false, eval e X.env) :: starEach es X.env := by rfl) (hpl : (backTo pos (starEach es X.env)).any (·.1) = false := by rfl) :
    PE X (.Call (.Name x p) (e :: es) [] pos) (tCall sp [] E0 t) := by
  obtain ⟨f, fd, hm, hk, hb, F⟩ := D
  refine ⟨fun pins s σ H Q I h => wpAny_Call_Name_kw (ld_glob I hg hm ?_ hdb)⟩
  refine PySem.W.callWith_K (h₀ := X.base) I.ok.mod.kin hk (thn (ha.run pos pins s σ H _ I h) fun us s1 ⟨vs, H1, I1, r, q⟩ => ⟨I1.kIn, ?_⟩) he hpl
  have q' : sp vs H1 Q E0 := by rw [← List.append_nil vs]; exact q
  have hl : us.length = ps.length := by rw [← r.length]; exact F.len _ _ _ _ q'
  have hbd := hb s1 us I1.kIn (by rw [List.append_nil]; exact hl)
  rw [List.append_nil] at hbd
  refine wpAny_call (codeAny_mono (F.run X.A X.stack s1 H1 ⟨us, []⟩ us vs Q E0 (hr.mono hkj) hA I1.env0 hbd r q') fun rs s' hq => ?_)
  rcases rs with err | fl
  · exact False.elim hq
  · cases fl with
    | ret u => exact I1.after hq
    | next => exact False.elim hq
    | brk => exact False.elim hq
    | cont => exact False.elim hq
end
end TT

set_option Elab.async false
set_option linter.all false
set_option maxRecDepth 100000
namespace TT
open PySem PySem.Spec PyProof.Rows L2
/-! ### the law's call from the caller's own frame, where nothing is being shown -/
/-- what is tracked ahead of the call: the script alone, or nothing where it is one of the module's objects -/
def scr (a : Addr) (o : Obj) (xs : List V) (own : Bool) : Hp := fun b => if own = true ∧ b = a then some (.frz o (.lst xs)) else none
theorem scr_only (a : Addr) (o : Obj) (xs : List V) (own : Bool) : Only (scr a o xs own) := fun b => by
  unfold scr
  split
  · exact .inr ⟨_, _, rfl⟩
  · exact .inl rfl
theorem scr_at {a b : Addr} {o : Obj} {xs : List V} {own : Bool} {u : HO} (h : scr a o xs own b = some u) : own = true ∧ b = a ∧ u = .frz o (.lst xs) := by
  unfold scr at h
  split at h
  · rename_i z
    exact ⟨z.1, z.2, (Option.some.inj h).symm⟩
  · cases h
theorem law_callG {P : Program} {w : World} {K : PySem.W.Frag} {mg mb : Str → Option Value} {k : Nat} {fa a : Addr} {fd : FuncData} {x : Str} {sp : Sp} {s1 : Shared} {vs : List Value} {ns : List Int}
    (KX : K.In s1.heap) (hns : s1.heap.Ns mainGlobals mg) (hb : s1.heap.Ns builtinsNs mb) (hbb : ∀ x : Str, x ≠ "__name__" → mb x = bootBuiltins x) (lim : s1.heap.NoLimit) (bare : s1.gens = #[])
    (ha : s1.heap.get? a = some { cls := .type "list", data := .seq vs.toArray }) (hi : IntsAre vs ns) (hl : ns.length ≤ sizeLine) (hr : Room k callerA)
    (F : ∀ base : Heap, K.In base → base.Ns mainGlobals mg → FnG P w K mg base CX0 k fa fd [x] sp) (bind : ∀ (s : Shared) (u : Value), BindsTo s fd ⟨[u], []⟩ [(x, u)])
    (hsp : ∀ H : Hp, Only H → SqL K H a (ns.map V.int) → sp [.ref a] H (fun v _ => v = .bl true) E0) :
    codeAny (model P w) callerA (.call (.ref fa) ⟨[.ref a], []⟩) (fun r s' => r = .ok (.ret (.bool true)) ∧ OldK s1.heap s'.heap ∧ s'.os = s1.os ∧ AllBare s'.gens) s1 := by
  have rv := vals_ints hi
  have lv := hi.length
  obtain ⟨own, hown, hK⟩ : ∃ own : Bool, (own = true → K.lookup a = none) ∧ (own = false → SqL K (scr a { cls := .type "list", data := .seq vs.toArray } (ns.map V.int) false) a (ns.map V.int)) := by
    cases e : K.lookup a with
    | none => exact ⟨true, ⟨fun _ => rfl, fun z => absurd z (by decide)⟩⟩
    | some o =>
      refine ⟨false, ⟨fun z => absurd z (by decide), fun _ => ?_⟩⟩
      have q := KX a o e
      rw [ha] at q
      cases q
      exact .inr ⟨_, vs.toArray, _, e, rfl, rfl, rfl, by rw [List.size_toArray, lv]; exact hl, by simpa using rv⟩
  generalize hH : scr a { cls := .type "list", data := .seq vs.toArray } (ns.map V.int) own = H
  have at' : ∀ {b u}, H b = some u → own = true ∧ b = a ∧ u = .frz { cls := .type "list", data := .seq vs.toArray } (.lst (ns.map V.int)) := fun {b u} e => scr_at (by rw [hH]; exact e)
  have hO : Only H := by rw [← hH]; exact scr_only a _ _ own
  have hS : SqL K H a (ns.map V.int) := by
    cases e : own with
    | false =>
      rw [← hH, e]
      exact hK e
    | true =>
      refine .inl (.inr ⟨{ cls := .type "list", data := .seq vs.toArray }, ?_⟩)
      rw [← hH, e]
      exact if_pos ⟨rfl, rfl⟩
  have hok : HOk P w H s1.heap := fun b u e => by
    obtain ⟨_, rfl, rfl⟩ := at' e
    exact ⟨ha, by rw [List.length_map]; exact hl, vs, _, rv, ha⟩
  -- what is not the script stands in the heap that is leant on
  have bare' : ∀ {b o es ep}, s1.heap.get? b = some o → o.data = .dict es ep → H b = none := fun {b o es ep} e d => by
    cases q : H b with
    | none => rfl
    | some u =>
      obtain ⟨_, rfl, _⟩ := at' q
      rw [ha] at e
      cases e
      cases d
  have ns' : ∀ {b m}, s1.heap.Ns b m → (hidT s1.heap H).Ns b m := fun {b m} ⟨o, es, ep, e, d, r⟩ => ⟨o, es, ep, hidT_get e (bare' e d), d, r⟩
  have kb : K.In (hidT s1.heap H) := fun b o e => hidT_get (KX b o e) (by
    cases q : H b with
    | none => rfl
    | some u =>
      obtain ⟨z, rfl, _⟩ := at' q
      rw [hown z] at e
      cases e)
  have e0 : Env0 P w K mg (hidT s1.heap H) callerA [] s1 H := ⟨rfl, ⟨kb, ns' hns, ⟨mb, ns' hb, hbb⟩, let ⟨mc, h1, h2⟩ := lim; ⟨mc, ns' h1, h2⟩⟩, fun b o e => of_hidT e, Nat.le_of_eq (hidT_size _ _), trivial,
    fun b z => absurd (show b ∈ ([] : List Addr) from z) (by simp), hok, .of_eq bare⟩
  refine codeAny_mono ((F _ kb (ns' hns)).run callerA [] s1 H ⟨[.ref a], []⟩ [.ref a] [.ref a] _ _ hr rfl e0 (bind s1 (.ref a)) (.cons rfl .nil) (hsp H hO hS)) fun r s' h => ?_
  rcases r with err | fl
  · exact False.elim h
  cases fl with
  | next => exact False.elim h
  | brk => exact False.elim h
  | cont => exact False.elim h
  | ret u =>
    obtain ⟨v, H', os, bg, un, ok', r', q⟩ := h
    obtain rfl : v = .bl true := q
    obtain rfl : u = Value.bool true := r'
    refine ⟨rfl, OldK.of_keep fun b o e => ?_, os, bg⟩
    cases q : H b with
    | none => exact un.keep b o e q (fun z => absurd (show b ∈ ([] : List Addr) from z) (by simp)) (by simp)
    | some u =>
      obtain ⟨_, rfl, rfl⟩ := at' q
      rw [ha] at e
      cases e
      exact (ok' _ _ (un.frzs _ _ _ q)).1
/-- a law by its promise: L2.walk_ofK, where nothing is being shown -/
theorem walk_ofG {l : PySem.W.OpenLaw} {n k : Nat} {q : Program} {loose : List Str} {XP : (Str → Option Value) → Heap → Prop} {YP : World → Heap → Prop} {d : DefRec} {K : Params → PySem.W.Frag} {sp : PySem.W.Frag → Sp} {x : Str}
    (hn : l.most = some n) (hn2 : n ≤ sizeLine) (hdf : d.params.defaults = []) (hr : Room k callerA) (hY : ∀ (w : World) (h : Heap), YP w h → (K w.params).In h)
    (F : ∀ (w : World) (mg : Str → Option Value) (fa : Addr) (h : Heap), (K w.params).In h → h.Ns mainGlobals mg → mg d.name = some (.ref fa) →
      ∃ fd : FuncData, (∀ (s : Shared) (u : Value), BindsTo s fd ⟨[u], []⟩ [(x, u)]) ∧
        ∀ base : Heap, (K w.params).In base → base.Ns mainGlobals mg → FnG l.prog w (K w.params) mg base CX0 k fa fd [x] (sp (K w.params)))
    (hsp : ∀ (K : PySem.W.Frag) (H : Hp) (a : Addr) (ns : List Int), ns.length ≤ n → Only H → SqL K H a (ns.map V.int) → sp K [.ref a] H (fun v _ => v = .bl true) E0) :
    PySem.W.WalkO q loose XP YP l.row.toRowW d [] (fun f vs => PySem.call f vs) := by
  refine Att.attach_call hn hdf fun w s0 s1 mg mb fa o pm cd doc a vs ns G Y ho hd hcd hmg hobj hints hlen hg => ?_
  have KX := hY w _ Y
  obtain ⟨fd, hb, hF⟩ := F w mg fa _ KX G.T.g hmg
  exact law_callG KX G.T.g G.T.b G.T.builtins G.T.nolimit hg hobj hints (Nat.le_trans hlen hn2) hr hF hb fun H hO hS => hsp (K w.params) H a ns hlen hO hS
end TT

set_option Elab.async false
set_option linter.all false
set_option maxRecDepth 100000
namespace TT
open PySem PySem.Spec PyProof.Rows L2
/-! ### zip of two, each a list (false) or a tuple (true) -/
def SIt (b : Bool) (h : Heap) (it a : Addr) (i : Nat) : Prop := match b with | true => h.IsTupleIter it a i | false => h.IsListIter it a i
def SAt (b : Bool) (h : Heap) (a : Addr) (its : Array Value) : Prop := match b with | true => h.IsTuple a its | false => h.IsList a its
def SqB (b : Bool) (K : PySem.W.Frag) (H : Hp) (a : Addr) (xs : List V) : Prop := match b with | true => SqT K H a xs | false => SqL K H a xs
def sIt (b : Bool) (a : Addr) : Obj := match b with | true => { cls := .type "tuple_iterator", data := .fields #[.ref a, .int 0 0] } | false => { cls := .type "list_iterator", data := .fields #[.ref a, .int 0 0] }
theorem SIt.start {b : Bool} {h : Heap} {it a : Addr} (e : h.get? it = some (sIt b a)) : SIt b h it a 0 := by cases b <;> exact ⟨_, e, rfl, rfl⟩
theorem SIt.live {b : Bool} {h : Heap} {it a : Addr} {i : Nat} (x : SIt b h it a i) : ∃ o, h.get? it = some o ∧ ∀ v, o.data ≠ .cell v := by
  cases b
  · obtain ⟨o, e, _, d⟩ := x; exact ⟨o, e, fun v q => by rw [d] at q; cases q⟩
  · obtain ⟨o, e, _, d⟩ := x; exact ⟨o, e, fun v q => by rw [d] at q; cases q⟩
theorem SIt.at' {b : Bool} {h h' : Heap} {it a : Addr} {i : Nat} (x : SIt b h it a i) (k : ∀ o, h.get? it = some o → h'.get? it = some o) : SIt b h' it a i := by
  cases b
  · exact Heap.IsListIter.at x k
  · exact Heap.IsTupleIter.at x k
theorem sit_begins (b : Bool) (a : Addr) (its : Array Value) : Begins (.ref a) (sIt b a) (fun h => SAt b h a its) := by
  cases b
  · exact begins_list a its
  · exact begins_tuple a its
theorem sit_draws {prog : Program} {w : World} {A : Around} (hh : A.handled = none) (b : Bool) (it a : Addr) (hne : a ≠ it) (its : Array Value) :
    Draws prog w A it [it, a] its.size (fun i v => its[i]? = some v) (fun i h => SIt b h it a i ∧ SAt b h a its) := by
  cases b
  · exact Draws.list hh it a hne its
  · exact Draws.tuple hh it a hne its
theorem inv_sqB {X : Cx} {pins : List (Addr × Obj)} {s : Shared} {σ : L2.St} {H : Hp} {b : Bool} {a : Addr} {xs : List V} (I : Inv X pins σ H s) (h : SqB b X.K H a xs) : ∃ its : List Value, Vals xs its ∧ SAt b s.heap a its.toArray ∧ a < s.heap.objs.size := by
  cases b
  · obtain ⟨its, rv, p, _⟩ := I.list h
    exact ⟨its, rv, p.isList, p.lt⟩
  · obtain ⟨its, rv, p, _⟩ := I.tuple h
    obtain ⟨o1, ho1, _⟩ := id p
    exact ⟨its, rv, p, Heap.lt_size ho1⟩
theorem sqB_inj {X : Cx} {pins : List (Addr × Obj)} {s : Shared} {σ : L2.St} {H : Hp} {b : Bool} {a : Addr} {xs ys : List V} (I : Inv X pins σ H s) (h : SqB b X.K H a xs) (h' : SqB b X.K H a ys) : xs = ys := by
  cases b
  · exact I.list_inj h h'
  · exact I.tuple_inj h h'
def ItzB (K : PySem.W.Frag) (b1 b2 : Bool) (a b : Addr) : It :=
  ⟨fun i H => ∃ (xs ys : List V) (x y : V), SqB b1 K H a xs ∧ SqB b2 K H b ys ∧ xs[i]? = some x ∧ ys[i]? = some y,
    fun i H v H' => ∃ T x y, v = .ref T ∧ H T = none ∧ H' = upd H T (.tup [x, y]) ∧ (∀ xs, SqB b1 K H a xs → xs[i]? = some x) ∧ ∀ ys, SqB b2 K H b ys → ys[i]? = some y,
    fun i H => ∃ xs ys : List V, SqB b1 K H a xs ∧ SqB b2 K H b ys ∧ i = min xs.length ys.length⟩
theorem turn_zipB {P : Program} {w : World} {K : PySem.W.Frag} {elts : List Expr} {kk : Nat} {tpos : Pos} {b1 b2 : Bool} {a b z TI TO i1 i2 : Addr} (S : ZipSep2 z TI TO i1 i2 [i1, a] [i2, b]) (na : a ≠ i1) (nb : b ≠ i2) :
    Turn P w K (.Tuple elts kk tpos) (ItzB K b1 b2 a b) [z, TI, TO, i1, i2] z (fun i h => IsZip h z TI TO .none ∧ IsPair h TI (.ref i1) (.ref i2) ∧ (∃ x y, IsPair h TO x y) ∧ SIt b1 h i1 a i ∧ SIt b2 h i2 b i) where
  mem := by simp
  obj := fun i h st c hc => by
    obtain ⟨hz, hTI, ⟨x, y, hTO⟩, h1, h2⟩ := st
    have e' : c = z ∨ c = TI ∨ c = TO ∨ c = i1 ∨ c = i2 := by simpa using hc
    rcases e' with q | q | q | q | q
    · rw [q]; exact ⟨_, hz, fun v q => nomatch q⟩
    · rw [q]; exact ⟨_, hTI, fun v q => nomatch q⟩
    · rw [q]; exact ⟨_, hTO, fun v q => nomatch q⟩
    · rw [q]; exact h1.live
    · rw [q]; exact h2.live
  keep := fun i h h' st k => by
    obtain ⟨hz, hTI, ⟨x, y, hTO⟩, h1, h2⟩ := st
    exact ⟨k z (by simp) _ hz, k TI (by simp) _ hTI, ⟨x, y, k TO (by simp) _ hTO⟩, h1.at' fun o q => k i1 (by simp) o q, h2.at' fun o q => k i2 (by simp) o q⟩
  item := by
    intro X hP hw hK hc i pins s σ H E I hf st hg
    subst hP hw hK
    obtain ⟨hz, hTI, ⟨x0, y0, hTO⟩, h1, h2⟩ := st
    obtain ⟨xs, ys, x, y, hqx, hqy, hx, hy⟩ := hg
    obtain ⟨its, rv, p, _⟩ := inv_sqB I hqx
    obtain ⟨its2, rv2, p2, _⟩ := inv_sqB I hqy
    obtain ⟨u, hu, ru⟩ := rv.get hx
    obtain ⟨u2, hu2, ru2⟩ := rv2.get hy
    have hzl : z < s.heap.objs.size := Heap.lt_size hz
    have l1 : i < its.toArray.size := by
      have := (List.getElem?_eq_some_iff.mp hu).1
      simpa using this
    have l2 : i < its2.toArray.size := by
      have := (List.getElem?_eq_some_iff.mp hu2).1
      simpa using this
    refine wpAny_pyNext_zipD2_item S (sit_draws (A := X.A.in1) (I.ok.hd hc) b1 i1 a na its.toArray) (sit_draws (A := X.A.in1) (I.ok.hd hc) b2 i2 b nb its2.toArray) hz hTI hTO ⟨h1, p⟩ ⟨h2, p2⟩ l1 l2 fun x1 x2 h' tk hP1 hP2 z' TO' st1 st2 hT hsz hk => ?_
    have hxu : x1 = u := by
      have q : its.toArray[i]? = some u := by simpa using hu
      rw [q] at hP1
      exact (Option.some.inj hP1).symm
    have hxu2 : x2 = u2 := by
      have q : its2.toArray[i]? = some u2 := by simpa using hu2
      rw [q] at hP2
      exact (Option.some.inj hP2).symm
    subst hxu hxu2
    refine ⟨_, rfl, wpAny_letOwnedTupleGo_zip (s := { s with heap := h', toks := tk }) z' fun h'' z'' sb => ?_⟩
    have hT2 : h''.get? s.heap.objs.size = some { cls := .type "tuple", data := .seq #[x1, x2] } := (sb.2 _ (Nat.ne_of_gt hzl)).trans hT
    have new : ObjOk X.prog X.w (upd H s.heap.objs.size (.tup [x, y])) h'' s.heap.objs.size (.tup [x, y]) :=
      ⟨by show 2 ≤ sizeLine; decide, [x1, x2], .cons ru (.cons ru2 .nil), ⟨_, hT2, rfl, _, rfl⟩⟩
    have I1 : Inv X pins σ (upd H s.heap.objs.size (.tup [x, y])) { s with heap := h'', toks := tk } :=
      I.turnedNew (t' := tk) (ch := [z, TI, TO, i1, i2]) (fun c o hb q => (sb.2 c (fun q' => hb (by simp [q']))).trans (hk c o (fun q' => hb (by simp [q'])) (fun q' => hb (by simp [q'])) (fun q' => hb (by simp [q'])) (fun q' => hb (by simp [q'])) q)) hf (Nat.le_refl _) new
    refine ⟨.ref s.heap.objs.size, _, I1, rfl, ⟨_, x, y, rfl, I.hok.fresh (Nat.le_refl _), rfl, fun l hl => by rw [sqB_inj I hl hqx]; exact hx, fun l hl => by rw [sqB_inj I hl hqy]; exact hy⟩, ⟨z'', ?_, ⟨x1, x2, ?_⟩, ?_, ?_⟩, fun c hcm => ?_⟩
    · exact (sb.2 _ S.TIz).trans (hk _ _ S.TIz S.TITO S.TIi1 S.TIi2 hTI)
    · exact (sb.2 _ S.TOz).trans TO'
    · exact st1.1.at' fun o q => (sb.2 _ S.zi1.symm).trans q
    · exact st2.1.at' fun o q => (sb.2 _ S.zi2.symm).trans q
    · have hlt : c < s.heap.objs.size := by
        have e' : c = z ∨ c = TI ∨ c = TO ∨ c = i1 ∨ c = i2 := by simpa using hcm
        rcases e' with q | q | q | q | q
        · rw [q]; exact hzl
        · rw [q]; exact Heap.lt_size hTI
        · rw [q]; exact Heap.lt_size hTO
        · rw [q]; obtain ⟨_, e1, _⟩ := h1.live; exact Heap.lt_size e1
        · rw [q]; obtain ⟨_, e2, _⟩ := h2.live; exact Heap.lt_size e2
      rw [upd_ne (Nat.ne_of_lt hlt)]
      exact (hf c hcm).1
  done := by
    intro X hP hw hK hc i pins s σ H E I hf st hg
    subst hP hw hK
    obtain ⟨hz, hTI, ⟨x0, y0, hTO⟩, h1, h2⟩ := st
    obtain ⟨xs, ys, hqx, hqy, hend⟩ := hg
    obtain ⟨its, rv, p, _⟩ := inv_sqB I hqx
    obtain ⟨its2, rv2, p2, _⟩ := inv_sqB I hqy
    have l1 := rv.length
    have l2 := rv2.length
    refine wpAny_pyNext_zipD2_end S (sit_draws (A := X.A.in1) (I.ok.hd hc) b1 i1 a na its.toArray) (sit_draws (A := X.A.in1) (I.ok.hd hc) b2 i2 b nb its2.toArray) hz hTI hTO ⟨h1, p⟩ ⟨h2, p2⟩ (by simp; omega) (by simp; omega) (by simp; omega) fun h' tk hk => ⟨rfl, I.turnedL (t' := tk) (ch := [z, TI, TO, i1, i2]) (fun c o hb q =>
      hk c o (fun q' => hb (by simp [q'])) (fun q' => hb (by simp [q'])) (fun q' => hb (by simp [q'])) (fun q' => hb (by simp [q'])) q) hf⟩
  self := fun A i s Q E st h => wpAny_pyIter_zip st.1 h
def iZipB (K : PySem.W.Frag) (ta : TA) : TI := fun σ H R => ta σ H fun vs H1 => ∃ b1 b2 a b xs ys, vs = [.ref a, .ref b] ∧ SqB b1 K H1 a xs ∧ SqB b2 K H1 b ys ∧ R (ItzB K b1 b2 a b) H1
theorem pi_zipB {X : Cx} {e e2 : Expr} {ta : TA} {p pos tpos : Pos} {elts : List Expr} {kk : Nat} (hg : Gl X "zip") (hm : X.mg "zip" = none) (ha : PA X [e, e2] ta)
    (hs : starEach [e, e2] X.env = (false, eval e X.env) :: starEach [e2] X.env := by rfl) (hpl : (backTo pos (starEach [e2] X.env)).any (·.1) = false := by rfl) :
    PI X (.Tuple elts kk tpos) (.Call (.Name "zip" p) [e, e2] [] pos) (iZipB X.K ta) := by
  refine ⟨fun pins s σ H R I h => ?_⟩
  refine Call_ (ld_blt I hg hm PyProof.Rows.boot_zip (PyProof.Rows.callWith_type1 (thn (ha.run pos pins s σ H _ I h) fun us s1 ⟨vs, H1, I1, r1, q1⟩ => ?_) hs hpl))
  obtain ⟨b1, b2, a, b, xs, ys, ex, hqx, hqy, q⟩ := q1
  subst ex
  cases r1 with
  | cons r rr =>
    cases rr with
    | cons r' rr =>
      cases rr
      cases r
      cases r'
      have fresh5 : ∀ c, c ∈ [s1.heap.objs.size + 4, s1.heap.objs.size + 2, s1.heap.objs.size + 3, s1.heap.objs.size, s1.heap.objs.size + 1] → FpOk X pins H1 c := fun c hcm => by
        have e' : c = s1.heap.objs.size + 4 ∨ c = s1.heap.objs.size + 2 ∨ c = s1.heap.objs.size + 3 ∨ c = s1.heap.objs.size ∨ c = s1.heap.objs.size + 1 := by simpa using hcm
        have hle : s1.heap.objs.size ≤ c := by
          rcases e' with z | z | z | z | z
          · rw [z]; exact Nat.le_add_right _ _
          · rw [z]; exact Nat.le_add_right _ _
          · rw [z]; exact Nat.le_add_right _ _
          · rw [z]; exact Nat.le_refl _
          · rw [z]; exact Nat.le_add_right _ _
        exact I1.fpOk hle (I1.hok.fresh hle)
      obtain ⟨its, rv, p1, la⟩ := inv_sqB I1 hqx
      obtain ⟨its2, rv2, p2, lb⟩ := inv_sqB I1 hqy
      refine zip_begins2 (sit_begins b1 a its.toArray) (sit_begins b2 b its2.toArray) p1 p2 fun h' hz hTI hTO h1 h2 hsz hk => wpAny_pyIter_zip hz ?_
      have I2 : Inv X pins σ H1 { s1 with heap := h' } := I1.kept (t' := s1.toks) hk
      have S := zip_sep2 (N := s1.heap.objs.size) (fp1 := [a]) (fp2 := [b]) (fun c hc => by rw [List.mem_singleton.mp hc]; exact la) (fun c hc => by rw [List.mem_singleton.mp hc]; exact lb)
      exact ⟨s1.heap.objs.size + 4, [s1.heap.objs.size + 4, s1.heap.objs.size + 2, s1.heap.objs.size + 3, s1.heap.objs.size, s1.heap.objs.size + 1], _, _, H1, rfl, I2, turn_zipB S (Nat.ne_of_lt la) (Nat.ne_of_lt (Nat.lt_succ_of_lt lb)), ⟨hz, hTI, ⟨_, _, hTO⟩, .start h1, .start h2⟩, fresh5, q⟩
theorem walk_zipB {K : PySem.W.Frag} {b1 b2 : Bool} {a b : Addr} {xs ys : List V} {n : Nat} (hn : n = min xs.length ys.length) : Walk (ItzB K b1 b2 a b) n (fun H => SqB b1 K H a xs ∧ SqB b2 K H b ys) (YPair (fun i => xs[i]?) (fun i => ys[i]?)) := by
  refine ⟨fun i _ hi q => ⟨xs, ys, xs[i]'(by omega), ys[i]'(by omega), q.1, q.2, by simp [show i < xs.length by omega], by simp [show i < ys.length by omega]⟩, fun _ q => ⟨xs, ys, q.1, q.2, hn⟩, fun i H v H' _ q y => ?_⟩
  obtain ⟨T, x, y, h1, h2, h3, h4, h5⟩ := y
  exact ⟨T, x, y, h1, h2, h3, h4 xs q.1, h5 ys q.2⟩
end TT

set_option Elab.async false
set_option linter.all false
set_option maxRecDepth 100000
namespace TT
open PySem PySem.Spec PyProof.Rows L2
/-! ### d.get(key, other) of a dict that the module's top has written -/
def KGet (K : PySem.W.Frag) (d : Addr) (k : Str) (r : Option V) : Prop := ∃ r0, PySem.W.nsIn K d k = some r0 ∧ match r, r0 with
  | none, none => True
  | some v, some u => RelV v u
  | _, _ => False
theorem KGet.rel {r : Option V} {r0 : Option Value} (h : match r, r0 with
  | none, none => True
  | some v, some u => RelV v u
  | _, _ => False) {z : V} {y : Value} (rz : RelV z y) : RelV (r.getD z) (r0.getD y) := by
  cases r <;> cases r0
  · exact rz
  · exact h.elim
  · exact h.elim
  · exact h
def tKGet2 (K : PySem.W.Frag) (d : Addr) (td ty tx : TE) : TE := fun σ H Q => td σ H fun x H1 => x = .ref d ∧ ty σ H1 fun y H2 => tx σ H2 fun z H3 => ∃ k r, y = .str k ∧ KGet K d k r ∧ Q (r.getD z) H3
theorem pe_kget2 {X : Cx} {d : Addr} {es : Array DictEntry} {n : Nat} {o e f : Expr} {apos cpos : Pos} {td ty tx : TE} (D : KDict X.K X.w d es n) (ho : PE X o td) (he : PE X e ty) (hf : PE X f tx)
    (m : M2 X o "get" apos e f cpos) : PE X (.Call (.Attribute o "get" apos) [e, f] [] cpos) (tKGet2 X.K d td ty tx) := by
  refine ⟨fun pins s σ H Q I h => ?_⟩
  refine wpAny_Call_method m.base m.few m.line PySem.F.plainAttrs_dict PySem.F.slot_dict_get PySem.F.type_dict_get (thn (ho.run pins s σ H _ I h) fun u s1 ⟨x, H1, I1, rx, ex, q1⟩ => ?_)
  subst ex
  obtain rfl : u = Value.ref d := rx
  have dd := PySem.W.mapOf_K (prog := X.prog) (w := X.w) I1.kIn D.at_ D.lit
  refine ⟨dd.typeIs, fun b q => ?_, ?_⟩
  · cases q
    exact ⟨_, I1.kIn _ _ D.at_, rfl⟩
  rw [m.trees]
  refine Calls.callWith_builtin rfl (Calls.evalArgs_plain (Calls.spliced_cons (thn (he.run pins s1 σ H1 _ I1 q1) fun iv s2 ⟨y, H2, I2, ry, q2⟩ =>
    Calls.spliced_cons (thn (hf.run pins s2 σ H2 _ I2 q2) fun fv s3 ⟨z, H3, I3, rz, k, r, ey, ⟨r0, e0, hr⟩, q3⟩ => Calls.spliced_nil ?_))))
  subst ey
  obtain ⟨t, rfl⟩ := ry
  have d3 := PySem.W.mapOf_K (prog := X.prog) (w := X.w) I3.kIn D.at_ D.lit
  refine call_meetsIn PySem.F.slot_dict_get d3.typeIs PySem.F.entry_dict_get (PySem.F.args_dict_get_3 _ _ _) (meets_dict_get_default (strKind X.prog X.w) d (strKind_is X.prog X.w k t) D.low fv) ⟨_, d3, ?_⟩
  rw [PySem.W.find_K D.at_ e0]
  exact ⟨r.getD z, H3, I3.tok _, KGet.rel hr rz, q3⟩
/-- its entries: texts, and numbers by them -/
inductive DEnts : List (Str × Int) → List DictEntry → Prop
  | nil : DEnts [] []
  | cons {k : Str} {i : Int} {e : DictEntry} {kvs : List (Str × Int)} {es : List DictEntry} : (∃ t, e.key = .str k t) → (∃ u, e.val = .int i u) → DEnts kvs es → DEnts ((k, i) :: kvs) (e :: es)
theorem DEnts.norefs : ∀ {kvs : List (Str × Int)} {es : List DictEntry}, DEnts kvs es → es.any (·.refKey) = false
  | _, _, .nil => rfl
  | _, _, .cons ⟨t, h⟩ _ r => by
    rw [List.any_cons, r.norefs, Bool.or_false]
    unfold DictEntry.refKey
    rw [h]
theorem DEnts.find (z : Str) : ∀ {kvs : List (Str × Int)} {es : List DictEntry}, DEnts kvs es → (∃ k i e u, kvs.find? (fun x => x.1 == z) = some (k, i) ∧ es.find? (·.key.isStr z) = some e ∧ e.val = .int i u) ∨ (kvs.find? (fun x => x.1 == z) = none ∧ es.find? (·.key.isStr z) = none)
  | _, _, .nil => .inr ⟨rfl, rfl⟩
  | _, _, .cons (k := k) (e := e) ⟨t, h⟩ ⟨u, h2⟩ r => by
    rw [List.find?_cons, List.find?_cons]
    have e1 : e.key.isStr z = (k == z) := by rw [h]; rfl
    rw [e1]
    cases hk : (k == z) with
    | true => exact .inl ⟨_, _, _, u, rfl, rfl, h2⟩
    | false => exact r.find z
def getOf (kvs : List (Str × Int)) (z : Str) : Option V := (kvs.find? (fun x => x.1 == z)).map fun x => V.int x.2
theorem kget_of {K : PySem.W.Frag} {d : Addr} {es : Array DictEntry} {n : Nat} {o : Option Addr} {c : Value} {sl : Array (Option Value)} {kvs : List (Str × Int)} (h : K.lookup d = some ⟨c, o, .dict es n, sl⟩) (D : DEnts kvs es.toList) (z : Str) : KGet K d z (getOf kvs z) := by
  rcases D.find z with ⟨k, i, e, u, h1, h2, h3⟩ | ⟨h1, h2⟩
  · refine ⟨some e.val, ?_, ?_⟩
    · unfold PySem.W.nsIn
      rw [h]
      dsimp only
      rw [h2]
    · unfold getOf
      rw [h1]
      show RelV (.int i) e.val
      rw [h3]
      exact ⟨u, rfl⟩
  · refine ⟨none, ?_, ?_⟩
    · unfold PySem.W.nsIn
      rw [h]
      dsimp only
      rw [h2, if_neg (by rw [D.norefs]; exact Bool.false_ne_true)]
    · unfold getOf
      rw [h1]
      trivial
end TT

set_option Elab.async false
set_option linter.all false
set_option maxRecDepth 100000
namespace TT
open PySem PySem.Spec PyProof.Rows L2
def topS (i : Nat) : Stmt := PySem.Challenge.pw_tiedtables_k06_what_deeds_are.main.body.getD i (.Pass ⟨0, 0, 0, 0⟩)
section
variable {P : Program} {w : World} {K : PySem.W.Frag} {mg : Str → Option Value} {base : Heap}
abbrev s_law_begin : Stmt := topS 19
abbrev N_law_begin : List Str := ["script", "cells"]
theorem sc_law_begin : FnScope N_law_begin ["script"] (defScope s_law_begin) := ⟨rfl, rfl, rfl, by decide +kernel, rfl, by decide +kernel, by decide +kernel⟩

theorem cut63 (ns : List Int) : cutV (ns.map V.int) none (some 63) = (ns.take 63).map V.int := by
  unfold cutV
  rw [show HT.sIx (ns.map V.int).length 0 none = 0 from HT.sIx_none .., show HT.sIx (ns.map V.int).length (ns.map V.int).length (some 63) = min 63 (ns.map V.int).length from HT.sIx_nat _ _ 63]
  rw [List.drop_zero, Nat.sub_zero, List.map_take]
  by_cases h : 63 ≤ (ns.map V.int).length
  · rw [Nat.min_eq_left h]
  · rw [Nat.min_eq_right (by omega), List.take_of_length_le (Nat.le_refl _), List.take_of_length_le (by omega)]
theorem dp_ints {K : PySem.W.Frag} {H : Hp} : ∀ ns : List Int, DpAll K H (ns.map V.int) (ns.map PyData.int)
  | [] => .nil
  | n :: ns => .cons (.int n) (dp_ints ns)
theorem canLay_ints : ∀ ns : List Int, PyData.canLayAll0 (ns.map PyData.int) = true
  | [] => rfl
  | _ :: ns => by
    show (PyData.canLay0 (.int _) && PyData.canLayAll0 (ns.map PyData.int)) = true
    rw [canLay_ints ns]
    rfl
theorem depth_ints : ∀ ns : List Int, PyData.depthAll (ns.map PyData.int) = 0
  | [] => rfl
  | _ :: ns => by
    show max 0 (PyData.depthAll (ns.map PyData.int)) = 0
    rw [depth_ints ns]
    rfl
theorem shaped_ints (ns : List Int) : SeqAt.shaped (.list (ns.map PyData.int)) = true := by
  show (PyData.canLayAll0 (ns.map PyData.int) && decide (PyData.depthAll (ns.map PyData.int) + 1 ≤ 64)) = true
  rw [canLay_ints, depth_ints]
  rfl
theorem mkSt (c : Addr) : mergeK [] [(kCells, V.ref c), (kTurn, V.int 0)] = stD c 0 := by
  have h1 : ¬ (kCells = kTurn) := kne
  unfold stD mergeK
  simp [putK, h1]
theorem ok_begin {f : Addr} {fd : FuncData} (F : Fun K "_law_begin" "_law_begin" s_law_begin f fd) (nb : NB mg) : FnOk P w K mg base CX0 1 f fd ["script"] (spBegin K) := by
  refine F.ok sc_law_begin (fun vs H Q E h => ?_) (fun cdv A outer s H vs Q E hr h => ?_)
  · obtain ⟨a, ns, rfl, _⟩ := h
    rfl
  · obtain ⟨a, ns, rfl, hS, q⟩ := h
    have nd := sc_law_begin.nd
    have hu := hu_of hr
    refine ⟨_, (pss_cons (ps_set (i := 1) nd rfl (Or.inl rfl) (pe_callTy call_list_of (by rfl) nb.b_list (by decide +kernel) (pa_cons (pe_slice sl_list (pv 0) po_none (po_some pe_int)) pa_nil)))
      (pss_cons (ps_if (pt_cmpR (op_eqD hr.units) (pv 1) (pe_lst pa_nil) (nomark _))
        (pss_one (ps_set (i := 1) nd rfl (Or.inl rfl) (pe_lst (pa_cons pe_int pa_nil))))
        pss_nil)
      (pss_one (ps_ret (pe_disp (pps_cons pe_str (pv 1) (pps_cons pe_str pe_int pps_nil)) (by rfl) (by rfl) (fun z => by cases z) (by decide)))))), ?_⟩
    -- cells = list(script[:63])
    refine ⟨.ref a, rfl, 63, rfl, a, _, rfl, hS, fun p np => ?_⟩
    rw [cut63]
    refine ⟨p, _, rfl, .inl (.inl (.inl upd_same)), fun c0 nc0 => ?_⟩
    have s1 : Same H (upd H p (.lst ((ns.take 63).map V.int))) := same_upd np
    have s2 : Same (upd H p (.lst ((ns.take 63).map V.int))) (upd (upd H p (.lst ((ns.take 63).map V.int))) c0 (.lst ((ns.take 63).map V.int))) := same_upd nc0
    -- if cells == []
    refine ⟨.ref c0, rfl, Nat.zero_le _, fun e0 ne0 => ?_⟩
    have s3 := same_upd (o := .lst []) ne0
    refine ⟨.list ((ns.take 63).map PyData.int), .list [], .lst (.inl (.inl (s3 _ _ upd_same))) (dp_ints _), .lst (.inl (.inl upd_same)) .nil, shaped_ints _, rfl, _, rfl, ?_⟩
    have fin : ∀ (c : Addr) (H1 : Hp) (ms : List Int), Same H H1 → H c = none → H1 c = some (.lst (ms.map V.int)) → 0 < ms.length → ms.length ≤ 63 →
        tRet (tDisp [(tC (V.str (Str.ofString "cells")), tVar 1), (tC (V.str (Str.ofString "turn")), tC (V.int 0))]) { nx := fun x H' => Q V.non H', rt := Q } [some (.ref a), some (.ref c)] H1 := by
      intro c H1 ms sm nc ec h1 h2 s ns'
      refine ⟨.ref c, rfl, ?_⟩
      refine ⟨upd_same, [(kCells, .ref c), (kTurn, .int 0)], rfl, (by show 2 ≤ 15; decide), ?_⟩
      rw [mkSt, upd_upd]
      have ncs : c ≠ s := ne_of_none ec ns'
      exact q s c _ ⟨⟨0, ⟨Int.le_refl _, Int.le_refl _⟩, upd_same⟩, ⟨ms, h1, h2, by rw [upd_ne ncs]; exact ec⟩⟩ (Same.free sm ns') nc (sm.trans (same_upd ns'))
    refine ite2 (fun h0 => ?_) (fun h0 => ?_)
    · -- cells = [17]
      refine ⟨by decide, fun c1 nc1 => ?_⟩
      exact fin c1 _ [17] (((s1.trans s2).trans s3).trans (same_upd nc1)) (Same.free ((s1.trans s2).trans s3) nc1) upd_same (by decide) (by decide)
    · refine fin c0 _ (ns.take 63) ((s1.trans s2).trans s3) (Same.free s1 nc0) (s3 _ _ upd_same) ?_ (by rw [List.length_take]; omega)
      cases e : ns.take 63 with
      | nil => rw [e] at h0; exact absurd rfl h0
      | cons x r => exact Nat.succ_pos _
abbrev s_law_take : Stmt := topS 20
abbrev N_law_take : List Str := ["state", "many", "turn", "place", "cell", "digit", "wide", "mixed"]
theorem sc_law_take : FnScope N_law_take ["state", "many"] (defScope s_law_take) := ⟨rfl, rfl, rfl, by decide +kernel, rfl, by decide +kernel, by decide +kernel⟩

theorem cdiv_of {i j : Int} (h : 0 < j) (h2 : j < 2 ^ 62) : CDivP i j := ⟨h, PyProof.noPylong_of_log2 (Nat.lt_of_lt_of_le (PySem.Flt.log2_lt_of (k := 62) (by decide) (by omega)) (by decide))⟩
theorem ixN_nat {n j : Nat} (h : j < n) : ixN n (j : Int) = some j := by
  unfold ixN
  rw [if_pos (Int.natCast_nonneg j), if_pos (by omega)]
  rfl
theorem ok_take {f : Addr} {fd : FuncData} (F : Fun K "_law_take" "_law_take" s_law_take f fd) (nb : NB mg) : FnOk P w K mg base CX0 1 f fd ["state", "many"] spTake := by
  refine F.ok sc_law_take (fun vs H Q E h => ?_) (fun cdv A outer sh H vs Q E hr h => ?_)
  · obtain ⟨s, c, T, m, rfl, _⟩ := h
    rfl
  · obtain ⟨s, c, T, m, rfl, S, hT, hm0, hm, q⟩ := h
    have nd := sc_law_take.nd
    have hu := hu_of hr
    obtain ⟨⟨t, ⟨ht0, ht⟩, es⟩, ⟨ns, l0, l63, ec⟩⟩ := id S
    have nsc : s ≠ c := S.ne
    refine ⟨_, (pss_cons (ps_set (i := 2) nd rfl (Or.inl rfl) (pe_op op_add (pe_dget hu (pv 0) pe_str (fun _ _ => rfl)) pe_int))
      (pss_cons (ps_dput hu (pv 0) pe_str (pv 2) rfl)
      (pss_cons (ps_set (i := 3) nd rfl (Or.inl rfl) (pe_op op_mod (pv 2) (pe_callB call_len_seq (by rfl) nb.b_len (by decide +kernel) (pa_cons (pe_dget hu (pv 0) pe_str (fun _ _ => rfl)) pa_nil))))
      (pss_cons (ps_set (i := 4) nd rfl (Or.inl rfl) (pe_ix ix_list (pe_dget hu (pv 0) pe_str (fun _ _ => rfl)) (pv 3) (fun _ _ => rfl)))
      (pss_cons (ps_if (pt_cmpR op_ge (pv 4) (pe_op op_pow pe_int pe_int) (nomark _))
        (pss_cons (ps_asg (pe_callB call_divmodW (by rfl) nb.b_divmod (by decide +kernel) (pa_cons (pv 4) (pa_cons (pv 1) pa_nil))) (pg_tup rfl (pgs_cons (pg_sub (pe_dget hu (pv 0) pe_str (fun _ _ => rfl)) (pv 3) set_list) (pgs_cons (pg_name (i := 5) nd rfl (Or.inl rfl)) pgs_nil))))
        (pss_one (ps_ret (pv 5))))
        pss_nil)
      (pss_cons (ps_set (i := 6) nd rfl (Or.inl rfl) (pe_op op_add (pe_op op_mod (pv 4) pe_int) (pe_op op_mul (pe_op op_mod (pe_op op_fdivW (pv 4) pe_int) pe_int) pe_int)))
      (pss_cons (ps_set (i := 7) nd rfl (Or.inl rfl) (pe_op op_mod (pe_op op_mul (pe_op op_add (pe_op op_add (pv 6) (pe_op op_mul (pe_op op_mul (pv 2) (pv 2)) pe_int)) pe_int) pe_int) pe_int))
      (pss_cons (ps_set (i := 7) nd rfl (Or.inl rfl) (pe_op op_mod (pe_op op_mul (pv 7) (pv 7)) pe_int))
      (pss_one (ps_ret (pe_op op_mod (pe_op op_fdivW (pe_op op_mod (pe_op op_mul (pe_op op_add (pv 7) (pe_op op_mul (pv 2) pe_int)) pe_int) pe_int) pe_int) (pv 1)))))))))))), ?_⟩
    -- turn = state['turn'] + 1; state['turn'] = turn
    refine ⟨.ref s, rfl, s, _, rfl, stD_turn c t ▸ DGet.k (k := kTurn) es, _, _, rfl, rfl, ?_⟩
    refine ⟨_, rfl, .ref s, rfl, s, _, rfl, DPut.k (k := kTurn) es (by show 2 < sizeLine; decide), ?_⟩
    rw [stD_put]
    have es1 : (upd H s (.dK (stD c (t + 1)))) s = some (.dK (stD c (t + 1))) := upd_same
    have ec1 : (upd H s (.dK (stD c (t + 1)))) c = some (.lst (ns.map V.int)) := by rw [upd_ne nsc.symm]; exact ec
    have S1 : StAt (upd H s (.dK (stD c (t + 1)))) s c (T + 1) := ⟨⟨t + 1, ⟨by omega, by omega⟩, es1⟩, ⟨ns, l0, l63, ec1⟩⟩
    have K1 : Kept [s, c] H (upd H s (.dK (stD c (t + 1)))) := Kept.upd_in (List.mem_cons_self ..)
    generalize hH1 : upd H s (.dK (stD c (t + 1))) = H1 at es1 ec1 S1 K1
    have gc1 : DGet H1 s (.str "cells") (some (.ref c)) := stD_cells c (t + 1) ▸ DGet.k (k := kCells) es1
    have lm : (ns.map V.int).length = ns.length := List.length_map ..
    -- place = turn % len(state['cells'])
    refine ⟨_, rfl, .ref s, rfl, s, _, rfl, gc1, c, _, rfl, .inl (.inl (.inl ec1)), _, _, rfl, rfl, (by rw [lm]; omega), ?_⟩
    rw [lm]
    dsimp only
    generalize hpl : (t + 1) % (ns.length : Int) = pl
    have hp0 : 0 ≤ pl := by rw [← hpl]; exact Int.emod_nonneg _ (by omega)
    have hp1 : pl < ns.length := by rw [← hpl]; exact Int.emod_lt_of_pos _ (by omega)
    -- cell = state['cells'][place]
    obtain ⟨j, rfl⟩ : ∃ j : Nat, pl = (j : Int) := ⟨pl.toNat, by omega⟩
    have hj : j < ns.length := by omega
    have gj : (ns.map V.int)[j]? = some (.int ns[j]) := by rw [List.getElem?_map, List.getElem?_eq_getElem hj]; rfl
    refine ⟨.ref s, rfl, s, _, rfl, gc1, _, rfl, c, _, _, .int ns[j], rfl, rfl, .inl (.inl ec1), atI_nat gj, ?_⟩
    generalize ns[j] = x
    -- if cell >= 10 ** 18
    refine ⟨.int x, rfl, 10, 18, rfl, rfl, ⟨by decide, by decide, by decide⟩, _, _, rfl, rfl, _, rfl, ite2 (fun hc => ?_) (fun _ => ?_)⟩
    · -- state['cells'][place], digit = divmod(cell, many)
      refine ⟨.int x, rfl, .int m, rfl, _, _, rfl, cdiv_of hm0 hm, fun p np => ?_⟩
      have nps : s ≠ p := ne_of_none es1 np
      have npc : c ≠ p := ne_of_none ec1 np
      have es2 : (upd H1 p (.tup [.int (x / m), .int (x % m)])) s = some (.dK (stD c (t + 1))) := by rw [upd_ne nps]; exact es1
      have ec2 : (upd H1 p (.tup [.int (x / m), .int (x % m)])) c = some (.lst (ns.map V.int)) := by rw [upd_ne npc]; exact ec1
      have gc2 : DGet (upd H1 p (.tup [.int (x / m), .int (x % m)])) s (.str "cells") (some (.ref c)) := stD_cells c (t + 1) ▸ DGet.k (k := kCells) es2
      refine ⟨p, _, rfl, .inl (.inl upd_same), rfl, .int (x / m), _, rfl, .ref s, rfl, s, _, rfl, gc2, _, rfl, c, _, _, j, rfl, rfl, ec2, by rw [lm]; exact ixN_nat hj, ?_⟩
      refine ⟨.int (x % m), [], rfl, rfl, .int (x % m), rfl, ?_⟩
      have em : ((ns.map V.int).set j (.int (x / m))) = (ns.set j (x / m)).map V.int := by rw [List.map_set]
      rw [em]
      refine q _ _ (Int.emod_nonneg _ (by omega)) (Int.emod_lt_of_pos _ hm0) ⟨⟨t + 1, ⟨by omega, by omega⟩, by rw [upd_ne nsc]; exact es2⟩, ⟨_, by rw [List.length_set]; exact l0, by rw [List.length_set]; exact l63, upd_same⟩⟩ ?_
      exact (K1.trans (Kept.upd_new np)).trans (Kept.upd_in (List.mem_cons_of_mem _ (List.mem_cons_self ..)))
    · have h1 : (0 : Int) ≤ x % 2147483629 ∧ x % 2147483629 < 2147483629 := ⟨Int.emod_nonneg _ (by decide), Int.emod_lt_of_pos _ (by decide)⟩
      have h2 : (0 : Int) ≤ x / 2147483629 % 40009 ∧ x / 2147483629 % 40009 < 40009 := ⟨Int.emod_nonneg _ (by decide), Int.emod_lt_of_pos _ (by decide)⟩
      have ht1 : t + 1 ≤ 1000001 := by omega
      have htt : (t + 1) * (t + 1) ≤ 1000001 * 1000001 := Int.mul_le_mul ht1 ht1 (by omega) (by omega)
      have htt0 : 0 ≤ (t + 1) * (t + 1) := Int.mul_nonneg (by omega) (by omega)
      -- wide
      refine ⟨.int x, rfl, _, _, rfl, rfl, (by decide : (0 : Int) < 2147483629), .int x, rfl, _, _, rfl, rfl, wide_div (b := 32) (by decide) (by decide) (by decide) (by decide), _, _, rfl, rfl, (by decide : (0 : Int) < 40009), _, _, rfl, rfl, .inr ⟨by decide, by decide⟩, _, _, rfl, rfl, ?_⟩
      dsimp only
      generalize hw : x % 2147483629 + x / 2147483629 % 40009 * 977 = wd
      have hw0 : 0 ≤ wd := by omega
      have hw1 : wd < 2 ^ 32 := by omega
      -- mixed
      refine ⟨.int wd, rfl, .int (t + 1), rfl, .int (t + 1), rfl, _, _, rfl, rfl, .inl ⟨by omega, by omega⟩, _, _, rfl, rfl, .inr ⟨by decide, by decide⟩, _, _, rfl, rfl, _, _, rfl, rfl, _, _, rfl, rfl, .inr ⟨by decide, by decide⟩, _, _, rfl, rfl, (by decide : (0 : Int) < 2147483647), ?_⟩
      dsimp only
      generalize hx1 : (wd + (t + 1) * (t + 1) * 6007 + 29) * 48271 % 2147483647 = x1
      have hx1a : 0 ≤ x1 ∧ x1 < 2147483647 := by rw [← hx1]; exact ⟨Int.emod_nonneg _ (by decide), Int.emod_lt_of_pos _ (by decide)⟩
      refine ⟨.int x1, rfl, .int x1, rfl, _, _, rfl, rfl, .inl ⟨by omega, by omega⟩, _, _, rfl, rfl, (by decide : (0 : Int) < 2147483579), ?_⟩
      dsimp only
      generalize hx2 : x1 * x1 % 2147483579 = x2
      have hx2a : 0 ≤ x2 ∧ x2 < 2147483579 := by rw [← hx2]; exact ⟨Int.emod_nonneg _ (by decide), Int.emod_lt_of_pos _ (by decide)⟩
      refine ⟨.int x2, rfl, .int (t + 1), rfl, _, _, rfl, rfl, .inr ⟨by decide, by decide⟩, _, _, rfl, rfl, _, _, rfl, rfl, .inr ⟨by decide, by decide⟩, _, _, rfl, rfl, (by decide : (0 : Int) < 2147483629), _, _, rfl, rfl, wide_div (b := 8) (by decide) (by decide) (by decide) (by decide), .int m, rfl, _, _, rfl, rfl, hm0, ?_⟩
      exact q _ _ (Int.emod_nonneg _ (by omega)) (Int.emod_lt_of_pos _ hm0) S1 K1
theorem take_at {H : Hp} {s c : Addr} {T : Nat} {m : Int} {Q : VK} {E : XK} (S : StAt H s c T) (hT : T ≤ 1000000) (h0 : 0 < m) (h1 : m < 2 ^ 62)
    (q : ∀ (d : Int) (H' : Hp), 0 ≤ d → d < m → StAt H' s c (T + 1) → Kept [s, c] H H' → Q (.int d) H') : spTake [.ref s, .int m] H Q E := ⟨s, c, T, m, rfl, S, hT, h0, h1, q⟩
def spSome (K : PySem.W.Frag) : Sp := fun vs H Q _ => ∃ (s c p : Addr) (T : Nat) (xs : List V), vs = [.ref s, .ref p] ∧ StAt H s c T ∧ T ≤ 1000000 ∧ p ∉ [s, c] ∧ (SqL K H p xs ∨ SqT K H p xs) ∧ 0 < xs.length ∧ xs.length < 2 ^ 62 ∧
  ∀ (j : Nat) (v : V) (H' : Hp), xs[j]? = some v → StAt H' s c (T + 1) → Kept [s, c] H H' → Q v H'
abbrev s_law_some : Stmt := topS 21
abbrev N_law_some : List Str := ["state", "things"]
theorem sc_law_some : FnScope N_law_some ["state", "things"] (defScope s_law_some) := ⟨rfl, rfl, rfl, by decide +kernel, rfl, by decide +kernel, by decide +kernel⟩

theorem ok_some {f : Addr} {fd : FuncData} (F : Fun K "_law_some" "_law_some" s_law_some f fd) (nb : NB mg) (D_law_take : Def P w K mg base 1 "_law_take" ["state", "many"] spTake) : FnOk P w K mg base CX0 2 f fd ["state", "things"] (spSome K) := by
  refine F.ok sc_law_some (fun vs H Q E h => ?_) (fun cdv A outer sh H vs Q E hr h => ?_)
  · obtain ⟨s, c, p, T, xs, rfl, _⟩ := h
    rfl
  · obtain ⟨s, c, p, T, xs, rfl, S, hT, hp, hx, l0, l1, q⟩ := h
    have nd := sc_law_some.nd
    have hu := hu_of hr
    refine ⟨_, (pss_one (ps_ret (pe_ix ix_seq (pv 1) (pe_own D_law_take hr (pa_cons (pv 0) (pa_cons (pe_callB call_len (by rfl) nb.b_len (by decide +kernel) (pa_cons (pv 1) pa_nil)) pa_nil))) (fun _ _ => rfl)))), ?_⟩
    refine ⟨.ref p, rfl, .ref s, rfl, .ref p, rfl, .ref p, xs.length, rfl, ?_, s, c, T, _, rfl, S, hT, by omega, by omega, fun d H1 h0 h1 S1 K1 => ?_⟩
    · rcases hx with hx | hx
      · exact .inl ⟨xs, hx, rfl⟩
      · exact .inr ⟨xs, hx, rfl⟩
    · obtain ⟨j, rfl⟩ : ∃ j : Nat, d = (j : Int) := ⟨d.toNat, by omega⟩
      have hj : j < xs.length := by omega
      have gj : xs[j]? = some xs[j] := List.getElem?_eq_getElem hj
      rcases hx with hx | hx
      · exact .inl ⟨p, xs, _, _, rfl, rfl, K1.seqL hp hx, atI_nat gj, q j _ H1 gj S1 K1⟩
      · exact .inr (.inl ⟨p, xs, _, _, rfl, rfl, K1.seqT hp hx, atI_nat gj, q j _ H1 gj S1 K1⟩)
end
end TT

set_option Elab.async false
set_option linter.all false
set_option maxRecDepth 100000
namespace TT
open PySem PySem.Spec PyProof.Rows L2
/-! ### names: the mathematics -/
def cl (z : Str) : List Nat := z.cps.toList
def ofL (l : List Nat) : Str := ⟨l.toArray⟩
theorem cl_ofL (l : List Nat) : cl (ofL l) = l := rfl
theorem cl_app (a b : Str) : cl (a ++ b) = cl a ++ cl b := by
  show (a.cps ++ b.cps).toList = _
  exact Array.toList_append
theorem cl_inj {a b : Str} (h : cl a = cl b) : a = b := by
  cases a; cases b
  exact congrArg Str.mk (Array.toList_inj.mp h)
theorem ofL_cl (z : Str) : ofL (cl z) = z := cl_inj rfl
theorem cl_len (z : Str) : z.length = (cl z).length := rfl
def low (c : Nat) : Prop := 97 ≤ c ∧ c ≤ 122
structure NameOk (z : Str) : Prop where
  pos : 0 < (cl z).length
  top : (cl z).length ≤ 8
  low : ∀ c ∈ cl z, low c
def abc : Str := "abcdefghijklmnopqrstuvwxyz"
theorem abc_cl : cl abc = (List.range 26).map (· + 97) := by decide +kernel
theorem abc_at {i : Nat} (h : i < 26) : (cl abc)[i]? = some (i + 97) := by
  rw [abc_cl, List.getElem?_map, List.getElem?_range h]
  rfl
def words13 : List Str := ["table", "row", "many", "store", "old", "new", "put", "none", "tie", "drop", "set", "do", "to"]
theorem words_ok : ∀ z ∈ words13, NameOk z := by
  have h : words13.all (fun z => decide (0 < (cl z).length) && decide ((cl z).length ≤ 8) && (cl z).all fun c => decide (97 ≤ c) && decide (c ≤ 122)) = true := by decide +kernel
  intro z hz
  have h1 := List.all_eq_true.mp h z hz
  simp only [Bool.and_eq_true, decide_eq_true_eq, List.all_eq_true] at h1
  exact ⟨h1.1.1, h1.1.2, h1.2⟩
theorem words_nd : words13.Nodup := by decide +kernel
theorem words_len : words13.length = 13 := rfl
/-- the k-th plain name -/
def letterOf (first step : Int) (k : Nat) : Nat := ((first + step * k) % 26).toNat + 97
def plainN (st : List Nat) (at' : Nat) (first step short : Int) (k : Nat) : Str :=
  ofL (st.take at' ++ [letterOf first step k] ++ (if short = 0 then st.drop at' else (st.drop at').take (k % 3)))
theorem letterOf_low (first step : Int) (k : Nat) : low (letterOf first step k) := by
  have h1 := Int.emod_nonneg (first + step * k) (show (26 : Int) ≠ 0 by decide)
  have h2 := Int.emod_lt_of_pos (first + step * k) (show (0 : Int) < 26 by decide)
  unfold low letterOf
  omega
theorem plain_ok {st : List Nat} {at' : Nat} {first step short : Int} {k : Nat} (hs : ∀ c ∈ st, low c) (hl : st.length ≤ 7) : NameOk (plainN st at' first step short k) := by
  have e : (cl (plainN st at' first step short k)) = st.take at' ++ [letterOf first step k] ++ (if short = 0 then st.drop at' else (st.drop at').take (k % 3)) := rfl
  refine ⟨?_, ?_, ?_⟩
  · rw [e]; simp; omega
  · rw [e, List.length_append, List.length_append, List.length_take, List.length_singleton]
    split
    · rw [List.length_drop]; omega
    · rw [List.length_take, List.length_drop]; omega
  · rw [e]
    intro c hc
    rw [List.mem_append, List.mem_append, List.mem_singleton] at hc
    rcases hc with (h | h) | h
    · exact hs c (List.mem_of_mem_take h)
    · rw [h]; exact letterOf_low ..
    · split at h
      · exact hs c (List.mem_of_mem_drop h)
      · exact hs c (List.mem_of_mem_drop (List.mem_of_mem_take h))
theorem plain_inj {st : List Nat} {at' : Nat} {first step short : Int} {i j : Nat} (ha : at' ≤ st.length) (hs : step = 3 ∨ step = 5 ∨ step = 25) (hi : i < 26) (hj : j < 26) (e : plainN st at' first step short i = plainN st at' first step short j) : i = j := by
  have e1 := congrArg cl e
  have e2 : (cl (plainN st at' first step short i))[at']? = (cl (plainN st at' first step short j))[at']? := by rw [e1]
  have key : ∀ k, (cl (plainN st at' first step short k))[at']? = some (letterOf first step k) := fun k => by
    show (st.take at' ++ [letterOf first step k] ++ (if short = 0 then st.drop at' else (st.drop at').take (k % 3)))[at']? = _
    rw [List.append_assoc, List.getElem?_append_right (by rw [List.length_take]; omega), List.length_take, Nat.min_eq_left ha, Nat.sub_self]
    rfl
  rw [key, key] at e2
  have e3 := Option.some.inj e2
  unfold letterOf at e3
  rcases hs with rfl | rfl | rfl <;> omega
theorem str_len_app (a b : Str) : (a ++ b).length = a.length + b.length := by rw [cl_len, cl_app, List.length_append]; rfl
theorem cut_cl (z : Str) (lo hi : Option Int) : cl (cutS z lo hi) = ((cl z).drop (HT.sIx z.length 0 lo)).take (HT.sIx z.length z.length hi - HT.sIx z.length 0 lo) := rfl
def wordAt (first : Int) (k : Nat) : Str := words13.getD ((first + k) % 13).toNat Str.empty
theorem wordAt_get (first : Int) (k : Nat) : words13[((first + k) % 13).toNat]? = some (wordAt first k) := by
  have g0 := Int.emod_nonneg (first + k) (show (13 : Int) ≠ 0 by decide)
  have g1 := Int.emod_lt_of_pos (first + k) (show (0 : Int) < 13 by decide)
  have h : ((first + k) % 13).toNat < words13.length := by rw [words_len]; omega
  unfold wordAt
  rw [List.getD_eq_getElem?_getD, List.getElem?_eq_getElem h]
  rfl
theorem wordAt_mem (first : Int) (k : Nat) : wordAt first k ∈ words13 := List.mem_of_getElem? (wordAt_get first k)
theorem wordAt_inj {first : Int} {i j : Nat} (hi : i < 13) (hj : j < 13) (e : wordAt first i = wordAt first j) : i = j := by
  have g0 := Int.emod_nonneg (first + i) (show (13 : Int) ≠ 0 by decide)
  have g1 := Int.emod_lt_of_pos (first + i) (show (0 : Int) < 13 by decide)
  have g2 := Int.emod_nonneg (first + j) (show (13 : Int) ≠ 0 by decide)
  have g3 := Int.emod_lt_of_pos (first + j) (show (0 : Int) < 13 by decide)
  have h1 := wordAt_get first i
  have h2 := wordAt_get first j
  rw [e] at h1
  have h3 := (List.getElem?_inj (by rw [words_len]; omega) words_nd).mp (h1.trans h2.symm)
  omega
/-- the names, some of them words: the k first ones have been gone through -/
structure Mixed (first : Int) (ps : List Str) (k : Nat) (fs : List Str) : Prop where
  len : fs.length = ps.length
  it : ∀ (i : Nat) (z : Str), fs[i]? = some z → ps[i]? = some z ∨ (i < k ∧ z = wordAt first i ∧ z ∉ ps)
theorem mixed_start (first : Int) {ps : List Str} (_ : ps.Nodup) (_ : ∀ z ∈ ps, NameOk z) : Mixed first ps 0 ps := ⟨rfl, fun _ _ h => .inl h⟩
theorem Mixed.skip {first : Int} {ps fs : List Str} {k : Nat} (h : Mixed first ps k fs) : Mixed first ps (k + 1) fs :=
  ⟨h.len, fun i z e => (h.it i z e).imp id fun q => ⟨by omega, q.2⟩⟩
theorem Mixed.put {first : Int} {ps fs : List Str} {k : Nat} (h : Mixed first ps k fs) (hn : wordAt first k ∉ ps) (_ : k < 13) : Mixed first ps (k + 1) (fs.set k (wordAt first k)) :=
  ⟨by rw [List.length_set]; exact h.len, fun i z e => by
    rw [List.getElem?_set] at e
    split at e
    · rename_i hk
      split at e
      · cases e; subst hk; exact .inr ⟨by omega, rfl, hn⟩
      · cases e
    · exact (h.it i z e).imp id fun q => ⟨by omega, q.2⟩⟩
theorem Mixed.ok {first : Int} {ps fs : List Str} {k : Nat} (h : Mixed first ps k fs) (ok : ∀ z ∈ ps, NameOk z) : ∀ z ∈ fs, NameOk z := by
  intro z hz
  obtain ⟨i, hi⟩ := List.getElem?_of_mem hz
  rcases h.it i z hi with q | ⟨_, rfl, _⟩
  · exact ok z (List.mem_of_getElem? q)
  · exact words_ok _ (wordAt_mem ..)
theorem Mixed.nodup {first : Int} {ps fs : List Str} {k : Nat} (h : Mixed first ps k fs) (nd : ps.Nodup) (hk : k ≤ 13) : fs.Nodup := by
  rw [List.nodup_iff_pairwise_ne, List.pairwise_iff_getElem]
  intro i j hi hj hij e3
  have e1 := List.getElem?_eq_getElem hi
  have e2 := List.getElem?_eq_getElem hj
  rcases h.it i _ e1 with q1 | ⟨k1, w1, n1⟩ <;> rcases h.it j _ e2 with q2 | ⟨k2, w2, n2⟩
  · rw [e3] at q1
    have := (List.getElem?_inj (by rw [← h.len]; exact hi) nd).mp (q1.trans q2.symm)
    omega
  · rw [← e3] at n2
    exact n2 (List.mem_of_getElem? q1)
  · rw [e3] at n1
    exact n1 (List.mem_of_getElem? q2)
  · have := wordAt_inj (by omega) (by omega) (w1.symm.trans (e3.trans w2))
    omega
theorem flat_strs : ∀ zs : List Str, (zs.map V.str).all flatV = true
  | [] => rfl
  | _ :: zs => flat_strs zs
theorem inV_strs (z : Str) (zs : List Str) : inV (.str z) (zs.map V.str) = decide (z ∈ zs) := by
  induction zs with
  | nil => rfl
  | cons y r ih =>
    show (eqV (.str y) (.str z) || inV (.str z) (r.map V.str)) = _
    rw [ih]
    show ((y == z) || decide (z ∈ r)) = _
    by_cases h : y = z
    · subst h; simp
    · have h' : ¬ z = y := fun e => h e.symm
      simp [h, h']
def one (c : Nat) : Str := ⟨#[c]⟩
theorem cl_one (c : Nat) : cl (one c) = [c] := rfl
theorem sum_ones : ∀ l : List Nat, (l.map ((fun x : Str => x.length) ∘ one)).sum = l.length
  | [] => rfl
  | _ :: l => by
    rw [List.map_cons, List.sum_cons, sum_ones l]
    show 1 + l.length = l.length + 1
    omega
theorem join_ones (l : List Nat) : cl (Txt.join (Str.ofString "") (l.map one)) = l := by
  rw [TL.join_eq]
  induction l with
  | nil => rfl
  | cons x r ih =>
    cases r with
    | nil => rfl
    | cons y r =>
      show cl (one x ++ Str.ofString "" ++ Str.join (Str.ofString "") ((y :: r).map one)) = _
      rw [cl_app, cl_app, ih]
      rfl
section
variable {P : Program} {w : World} {K : PySem.W.Frag} {mg : Str → Option Value} {base : Heap}
def spNames : Sp := fun vs H Q _ => ∃ (s c : Addr) (T m : Nat), vs = [.ref s, .int m] ∧ StAt H s c T ∧ T + 30 ≤ 1000000 ∧ m ≤ 26 ∧
  ∀ (p : Addr) (zs : List Str) (H' : Hp), zs.length = m → zs.Nodup → (∀ z ∈ zs, NameOk z) → H p = none → H' p = some (.lst (zs.map V.str)) → StAt H' s c (T + 30) → Kept [s, c] H H' → Q (.ref p) H'
theorem Kept.fresh {M : List Addr} {H H' : Hp} (h : Kept M H H') {p : Addr} (n : H' p = none) (hm : ∀ q ∈ M, q ≠ p) : H p = none := by
  cases e : H p with
  | none => rfl
  | some o =>
    have := h p o e fun z => hm p z rfl
    rw [n] at this
    cases this
abbrev s_law_names : Stmt := topS 22
abbrev N_law_names : List Str := ["state", "many", "letters", "first", "way", "stem", "at", "step", "short", "plain", "some", "k", "name", "found", "word", "turn"]
theorem sc_law_names : FnScope N_law_names ["state", "many"] (defScope s_law_names) := ⟨rfl, rfl, rfl, by decide +kernel, rfl, by decide +kernel, by decide +kernel⟩

theorem ok_names {f : Addr} {fd : FuncData} (F : Fun K "_law_names" "_law_names" s_law_names f fd) (nb : NB mg) (D_law_take : Def P w K mg base 1 "_law_take" ["state", "many"] spTake) : FnOk P w K mg base CX0 2 f fd ["state", "many"] spNames := by
  refine F.ok sc_law_names (fun vs H Q E h => ?_) (fun cdv A outer sh H vs Q E hr h => ?_)
  · obtain ⟨s, c, T, m, rfl, _⟩ := h
    rfl
  · obtain ⟨s, c, T, m, rfl, S, hT, hm, q⟩ := h
    have nd := sc_law_names.nd
    have hu := hu_of hr
    refine ⟨_, (pss_cons (ps_asg (pe_tup (pa_cons pe_str (pa_cons (pe_own D_law_take hr (pa_cons (pv 0) (pa_cons pe_int pa_nil))) (pa_cons (pe_own D_law_take hr (pa_cons (pv 0) (pa_cons pe_int pa_nil))) pa_nil)))) (pg_tup rfl (pgs_cons (pg_name (i := 2) nd rfl (Or.inr rfl)) (pgs_cons (pg_name (i := 3) nd rfl (Or.inl rfl)) (pgs_cons (pg_name (i := 4) nd rfl (Or.inl rfl)) pgs_nil)))))
      (pss_cons (ps_set (i := 5) nd rfl (Or.inl rfl) (pe_join pe_str (pe_lc (own := [("turn", 15)]) (g := (gName 15)) (tt := tYes) rfl nd (pi_range1 (by rfl) nb.b_range (pa_cons (pe_own D_law_take hr (pa_cons (pv 0) (pa_cons pe_int pa_nil))) pa_nil)) (blkOk_by (N := N_law_names) (sc := defScope s_law_names) (by decide +kernel)) (fun _ _ _ _ _ => (pg_name (i := 15) nd rfl (Or.inl rfl))) (fun _ _ _ _ _ => pts_nil) (fun _ _ _ _ _ => (pe_item_str (pv 2) (pe_own D_law_take hr (pa_cons (pv 0) (pa_cons pe_int pa_nil))) (fun _ _ => rfl))))))
      (pss_cons (ps_par3 (i := 6) (j := 7) (l := 8) (by rfl) nd rfl rfl rfl (by decide) (by decide) (by decide) rfl rfl rfl (pa_cons (pe_own D_law_take hr (pa_cons (pv 0) (pa_cons (pe_op op_add (pe_callB call_len_str (by rfl) nb.b_len (by decide +kernel) (pa_cons (pv 5) pa_nil)) pe_int) pa_nil))) (pa_cons (pe_ix ix_list (pe_lst (pa_cons pe_int (pa_cons pe_int (pa_cons pe_int pa_nil)))) (pe_own D_law_take hr (pa_cons (pv 0) (pa_cons pe_int pa_nil))) (fun _ _ => rfl)) (pa_cons (pe_own D_law_take hr (pa_cons (pv 0) (pa_cons pe_int pa_nil))) pa_nil))) (by rfl))
      (pss_cons (ps_par (i := 9) (j := 10) (by rfl) nd rfl rfl (by decide) rfl rfl (pa_cons (pe_lst pa_nil) (pa_cons (pe_lst (pa_cons pe_str (pa_cons pe_str (pa_cons pe_str (pa_cons pe_str (pa_cons pe_str (pa_cons pe_str (pa_cons pe_str (pa_cons pe_str (pa_cons pe_str (pa_cons pe_str (pa_cons pe_str (pa_cons pe_str (pa_cons pe_str pa_nil)))))))))))))) pa_nil)) (by rfl))
      (pss_cons (ps_for PassesOwn.never rfl (pi_range1 (by rfl) nb.b_range (pa_cons (pv 1) pa_nil)) (pg_name (i := 11) nd rfl (Or.inl rfl))
        (pss_cons (ps_set (i := 12) nd rfl (Or.inl rfl) (pe_op op_add_str (pe_slice sl_str (pv 5) po_none (po_some (pv 6))) (pe_item_str (pv 2) (pe_op op_mod (pe_op op_add (pv 3) (pe_op op_mul (pv 7) (pv 11))) pe_int) (fun _ _ => rfl))))
        (pss_one (ps_expr (pe_bm PySem.F.plainAttrs_list PySem.F.slot_list_append PySem.F.type_list_append mt_append (pv 9) (pa_cons (pe_op op_add_str (pv 12) (pe_ix ix_list (pe_lst (pa_cons (pe_slice sl_str (pv 5) (po_some (pv 6)) po_none) (pa_cons (pe_slice sl_str (pe_slice sl_str (pv 5) (po_some (pv 6)) po_none) po_none (po_some (pe_op op_mod (pv 11) pe_int))) pa_nil))) (pv 8) (fun _ _ => rfl))) pa_nil))))))
      (pss_cons (ps_set (i := 13) nd rfl (Or.inl rfl) (pe_callTy call_list_of (by rfl) nb.b_list (by decide +kernel) (pa_cons (pv 9) pa_nil)))
      (pss_cons (ps_for PassesOwn.never rfl (pi_range1 (by rfl) nb.b_range (pa_cons (pe_op op_mul (pe_callB (call_min2 rfl) (by rfl) nb.b_min (by decide +kernel) (pa_cons (pv 1) (pa_cons pe_int pa_nil))) (pe_callTy call_int1 (by rfl) nb.b_int (by decide +kernel) (pa_cons (pe_cmpR op_eq (pv 4) pe_int (nomark _)) pa_nil))) pa_nil)) (pg_name (i := 11) nd rfl (Or.inl rfl))
        (pss_cons (ps_set (i := 14) nd rfl (Or.inl rfl) (pe_ix ix_list (pv 10) (pe_op op_mod (pe_op op_add (pv 3) (pv 11)) pe_int) (fun _ _ => rfl)))
        (pss_one (ps_if (PW.pt (pw_and (pt_cmpR op_notIn_seq (pv 14) (pv 9) (by rfl)) (pw_and1 (pt_cmpR op_eq (pe_own D_law_take hr (pa_cons (pv 0) (pa_cons pe_int pa_nil))) pe_int (nomark _)))))
          (pss_one (ps_asg (pv 14) (pg_sub (pv 13) (pv 11) set_list)))
          pss_nil))))
      (pss_one (ps_ret (pv 13)))))))))), ?_⟩
    -- letters, first, way
    refine ⟨.ref s, rfl, s, c, T, _, rfl, S, by omega, by decide, by decide, fun first H1 f0 f1 S1 K1 => ?_⟩
    refine ⟨.ref s, rfl, s, c, T + 1, _, rfl, S1, by omega, by decide, by decide, fun way H2 w0 w1 S2 K2 => ?_⟩
    refine ⟨(by show 3 ≤ sizeLine; decide), fun p2 n2 => ?_⟩
    have S2' := S2.upd_new (o := .tup [.str abc, .int first, .int way]) n2
    have K2' : Kept [s, c] H (upd H2 p2 (.tup [.str abc, .int first, .int way])) := (K1.trans K2).trans (Kept.upd_new n2)
    refine ⟨p2, _, rfl, .inl (.inl upd_same), rfl, _, _, rfl, _, _, rfl, _, _, rfl, rfl, ?_⟩
    -- stem
    refine ⟨⟨_, rfl⟩, .ref s, rfl, s, c, T + 2, _, rfl, S2', by omega, by decide, by decide, fun n H4 n0 n1 S4 K4 => ⟨n, rfl, by omega, by omega, fun D nD => ?_⟩⟩
    have nsD : s ≠ D := S4.nes nD
    have ncD : c ≠ D := S4.nec nD
    refine lc_range (lo := 0) (n := n.toNat) (fun i H' => ∃ l : List Nat, l.length = i ∧ (∀ x ∈ l, low x) ∧ H' D = some (.lst ((l.map one).map V.str)) ∧ StAt H' s c (T + 3 + i) ∧ Kept [D, s, c] H4 H') ⟨[], rfl, fun _ h => absurd h List.not_mem_nil, upd_same, S4.upd_new nD, Kept.upd_in (List.mem_cons_self ..)⟩ (fun i H5 hi hP => ?_) (fun H5 hP => ?_)
    · obtain ⟨l, el, hl, eD, S5, K5⟩ := hP
      refine ⟨rfl, ?_⟩
      unfold tYes
      dsimp only
      refine iteT ?_
      refine ⟨.str abc, rfl, .ref s, rfl, s, c, _, _, rfl, S5, by omega, by decide, by decide, fun d H6 d0 d1 S6 K6 => ?_⟩
      obtain ⟨j, rfl⟩ : ∃ j : Nat, d = (j : Int) := ⟨d.toNat, by omega⟩
      have hj : j < 26 := by omega
      have eD6 : H6 D = some (.lst ((l.map one).map V.str)) := K6 D _ eD (by simp [nsD.symm, ncD.symm])
      refine ⟨abc, (j : Int), j + 97, rfl, rfl, by omega, by omega, ?_, ?_, _, eD6, ?_, l ++ [j + 97], ?_, ?_, ?_, ?_, ?_⟩
      · rw [cl_len, abc_cl]; simp; omega
      · show abc.cps[j]? = _
        rw [← Array.getElem?_toList]; exact abc_at hj
      · rw [List.length_map, List.length_map]; exact small1000 (by omega)
      · rw [List.length_append, el]; rfl
      · intro x hx
        rcases List.mem_append.mp hx with h | h
        · exact hl x h
        · rw [List.mem_singleton.mp h]; unfold low; omega
      · rw [upd_same, List.map_append, List.map_append]; rfl
      · exact S6.upd nsD ncD
      · exact (K5.trans (K6.mono (by intro p hp; exact List.mem_cons_of_mem _ hp))).trans (Kept.upd_in (List.mem_cons_self ..))
    obtain ⟨st, el, hlow, eD, S5, K5⟩ := hP
    refine ⟨_, D, st.map one, rfl, rfl, .inl (.inl (.inl eD)), ?_, ?_⟩
    · rw [List.map_map, sum_ones]
      show st.length + (st.map one).length * 0 ≤ _
      omega
    generalize hz5 : Txt.join (Str.ofString "") (st.map one) = z5
    have c5 : cl z5 = st := by rw [← hz5]; exact join_ones st
    have l5 : z5.length = st.length := by rw [cl_len, c5]
    have st7 : st.length ≤ 7 := by omega
    have S5 : StAt H5 s c (T + 10) := S5.mono (by omega)
    have K5 : Kept [s, c] H H5 := K2'.trans (K4.trans (K5.new nD))
    clear eD hz5 nsD ncD K4 S4 nD n1 n0 el
    -- at, step, short
    refine ⟨.ref s, rfl, .str z5, rfl, z5, rfl, (by rw [l5]; exact Nat.le_of_lt (small1000 (by omega))), _, _, rfl, rfl, s, c, _, _, rfl, S5, by omega, ?_, ?_, fun a H6 a0 a1 S6 K6 => ?_⟩
    · show (0 : Int) < z5.length + 1; omega
    · show (z5.length : Int) + 1 < 2 ^ 62; omega
    obtain ⟨a, rfl⟩ : ∃ j : Nat, a = (j : Int) := ⟨a.toNat, by omega⟩
    have ha : a ≤ st.length := by
      have a1' : (a : Int) < z5.length + 1 := a1
      omega
    refine ⟨(by show 3 ≤ sizeLine; decide), fun p7 n7 => ?_⟩
    refine ⟨.ref s, rfl, s, c, _, _, rfl, S6.upd_new n7, by omega, by decide, by decide, fun e7 H7 e0 e1 S7 K7 => ?_⟩
    have h7 : H7 p7 = some (.lst [.int 3, .int 5, .int 25]) := K7 p7 _ upd_same (by simp [(S6.nes n7).symm, (S6.nec n7).symm])
    obtain ⟨step, hst, hat⟩ : ∃ step : Int, (step = 3 ∨ step = 5 ∨ step = 25) ∧ atI [V.int 3, V.int 5, V.int 25] e7 = some (.int step) := by
      have : e7 = 0 ∨ e7 = 1 ∨ e7 = 2 := by omega
      rcases this with rfl | rfl | rfl
      · exact ⟨3, .inl rfl, rfl⟩
      · exact ⟨5, .inr (.inl rfl), rfl⟩
      · exact ⟨25, .inr (.inr rfl), rfl⟩
    refine ⟨p7, _, _, _, rfl, rfl, .inl (.inl h7), hat, .ref s, rfl, s, c, _, _, rfl, S7, by omega, by decide, by decide, fun sh8 H8 s0 s1 S8 K8 => ?_⟩
    have K8 : Kept [s, c] H H8 := K5.trans (K6.trans (((Kept.upd_new n7).trans K7).trans K8))
    refine ⟨_, _, _, rfl, ?_⟩
    clear K7 S7 h7 n7 hat e0 e1 K6 S6 K5 S5 S2' K2'
    -- plain, some
    refine ⟨Nat.zero_le _, fun P9 nP => ?_⟩
    have S9 := S8.upd_new (o := .lst []) nP
    refine ⟨(by show 13 ≤ sizeLine; decide), fun W9 nW => ?_⟩
    have S10 := S9.upd_new (o := .lst (words13.map V.str)) nW
    have nPW : P9 ≠ W9 := ne_of_none upd_same nW
    refine ⟨_, _, rfl, ?_⟩
    have nsP := S8.nes nP
    have ncP := S8.nec nP
    have nsW := S9.nes nW
    have ncW := S9.nec nW
    -- for k in range(many)
    refine ⟨.int m, rfl, (m : Int), rfl, by omega, by omega, ?_⟩
    generalize hN : plainN st a first step sh8 = nm
    refine for_range (lo := 0) (n := (m : Int).toNat) (fun k σ H' => (∃ y11 y12, σ = [some (.ref s), some (.int m), some (.str abc), some (.int first), some (.int way), some (.str z5), some (.int a), some (.int step), some (.int sh8), some (.ref P9), some (.ref W9), y11, y12, none, none, none]) ∧
      H' P9 = some (.lst (((List.range k).map nm).map V.str)) ∧ H' W9 = some (.lst (words13.map V.str)) ∧ StAt H' s c (T + 13) ∧ Kept [P9, W9, s, c] H8 H') ⟨⟨none, none, rfl⟩, by rw [upd_ne nPW]; exact upd_same, upd_same, S10, ?_⟩ (fun k σ H9 hk hP => ?_) (fun σ H9 hP => ?_)
    · exact (Kept.upd_in (List.mem_cons_self ..)).trans (Kept.upd_in (List.mem_cons_of_mem _ (List.mem_cons_self ..)))
    · obtain ⟨⟨y11, y12, rfl⟩, eP, eW, S11, K11⟩ := hP
      have hkm : k < 26 := by omega
      -- name = stem[:at] + letters[..]
      have hz : z5.length ≤ sizeLine := by rw [l5]; exact Nat.le_of_lt (small1000 (by omega))
      have hL := letterOf_low first step k
      have x0 := Int.emod_nonneg (first + step * k) (show (26 : Int) ≠ 0 by decide)
      have x1 := Int.emod_lt_of_pos (first + step * k) (show (0 : Int) < 26 by decide)
      refine ⟨.str z5, rfl, .int a, rfl, _, rfl, z5, rfl, hz, .str abc, rfl, .int first, rfl, .int step, rfl, .int (0 + (k : Int)), rfl, _, _, rfl, rfl, .inl ⟨by omega, by omega⟩, _, _, rfl, rfl, _, _, rfl, rfl, (by decide : (0 : Int) < 26), abc, (first + step * k) % 26, letterOf first step k, rfl, ?_, x0, by omega, ?_, ?_, ?_⟩
      · show V.int ((first + step * (0 + (k : Int))) % 26) = _
        rw [Int.zero_add]
      · rw [cl_len, abc_cl]; simp; omega
      · rw [← Array.getElem?_toList]
        have h := abc_at (i := ((first + step * k) % 26).toNat) (by omega)
        exact h
      have c1 : cl (cutS z5 none (some (a : Int))) = st.take a := by
        rw [cut_cl, c5, HT.sIx_none, HT.sIx_nat, l5, Nat.min_eq_left ha, Nat.sub_zero, List.drop_zero]
      refine ⟨_, _, rfl, rfl, ?_, ?_⟩
      · rw [cl_len, c1, List.length_take]
        exact Nat.le_of_lt (small1000 (by show min a st.length + 1 ≤ 1000; omega))
      generalize hnm : cutS z5 none (some (a : Int)) ++ (⟨#[letterOf first step k]⟩ : Str) = nam
      have cn : cl nam = st.take a ++ [letterOf first step k] := by rw [← hnm, cl_app, c1]; rfl
      -- plain.append(name + [.., ..][short])
      have c2 : cl (cutS z5 (some (a : Int)) none) = st.drop a := by
        rw [cut_cl, c5, HT.sIx_none, HT.sIx_nat, l5, Nat.min_eq_left ha, List.take_of_length_le]
        rw [List.length_drop]
        exact Nat.le_refl _
      have l2 : (cutS z5 (some (a : Int)) none).length = st.length - a := by rw [cl_len, c2, List.length_drop]
      refine ⟨.ref P9, rfl, .inl ⟨rfl, _, .inl (.inl eP)⟩, .str nam, rfl, .str z5, rfl, .int a, rfl, _, rfl, z5, rfl, hz, .str z5, rfl, .int a, rfl, _, rfl, z5, rfl, hz, .int (0 + (k : Int)), rfl, _, _, rfl, rfl, (by decide : (0 : Int) < 3), _, rfl, _, rfl, (by rw [l2]; exact Nat.le_of_lt (small1000 (by omega))), (by show 2 ≤ sizeLine; decide), fun p12 n12 => ?_⟩
      have neP : P9 ≠ p12 := ne_of_none eP n12
      have neW : W9 ≠ p12 := ne_of_none eW n12
      have c3 : cl (cutS (cutS z5 (some (a : Int)) none) none (some ((0 + (k : Int)) % 3))) = (st.drop a).take (k % 3) := by
        have ek : (0 + (k : Int)) % 3 = ((k % 3 : Nat) : Int) := by omega
        rw [ek, cut_cl, c2, HT.sIx_none, HT.sIx_nat, Nat.sub_zero, List.drop_zero, l2, List.take_eq_take_iff, List.length_drop]
        omega
      obtain ⟨tl8, htl, hat8⟩ : ∃ t8 : Str, cl t8 = (if sh8 = 0 then st.drop a else (st.drop a).take (k % 3)) ∧ atI [V.str (cutS z5 (some (a : Int)) none), V.str (cutS (cutS z5 (some (a : Int)) none) none (some ((0 + (k : Int)) % 3)))] sh8 = some (.str t8) := by
        have : sh8 = 0 ∨ sh8 = 1 := by omega
        rcases this with rfl | rfl
        · exact ⟨_, by rw [c2, if_pos rfl], rfl⟩
        · exact ⟨_, by rw [c3, if_neg (by decide)], rfl⟩
      refine ⟨.int sh8, rfl, p12, _, _, _, rfl, rfl, .inl (.inl upd_same), hat8, nam, tl8, rfl, rfl, ?_, P9, _, _, rfl, rfl, (by rw [upd_ne neP]; exact eP), ?_, ?_⟩
      · rw [cl_len, cl_len, cn, htl, List.length_append, List.length_take, List.length_singleton]
        refine Nat.le_of_lt (small1000 ?_)
        split
        · rw [List.length_drop]; omega
        · rw [List.length_take, List.length_drop]; omega
      · rw [List.length_map, List.length_map, List.length_range]; exact small1000 (by omega)
      · have en : nam ++ tl8 = nm k := by
          rw [← hN]
          refine cl_inj ?_
          rw [cl_app, cn, htl]
          rfl
        refine ⟨⟨some (.int (0 + (k : Int))), some (.str nam), rfl⟩, ?_, ?_, ?_, ?_⟩
        · rw [upd_same, List.range_succ, List.map_append, List.map_append, en]; rfl
        · rw [upd_ne nPW.symm, upd_ne neW]; exact eW
        · exact (S11.upd_new n12).upd nsP ncP
        · exact K11.trans ((Kept.upd_new n12).trans (Kept.upd_in (List.mem_cons_self ..)))
    · obtain ⟨⟨y11, y12, rfl⟩, eP, eW, S11, K11⟩ := hP
      have em : ((m : Int).toNat) = m := rfl
      rw [em] at eP
      have nodP : (((List.range m).map nm)).Nodup := by
        rw [List.nodup_iff_pairwise_ne, List.pairwise_map]
        refine List.Pairwise.imp_of_mem (fun {i j} hi hj hij => ?_) List.nodup_range
        intro z
        rw [← hN] at z
        exact hij (plain_inj ha hst (by have := List.mem_range.mp hi; omega) (by have := List.mem_range.mp hj; omega) z)
      have okP : ∀ z ∈ (List.range m).map nm, NameOk z := by
        intro z hz
        obtain ⟨k, _, rfl⟩ := List.mem_map.mp hz
        rw [← hN]
        exact plain_ok hlow st7
      have lenP : ((List.range m).map nm).length = m := by rw [List.length_map, List.length_range]
      generalize (List.range m).map nm = ps at eP nodP okP lenP
      clear hN nm S9 S10
      -- found = list(plain)
      refine ⟨.ref P9, rfl, P9, _, rfl, .inl (.inl (.inl eP)), fun F10 nF => ?_⟩
      have eF : (upd H9 F10 (.lst (ps.map V.str))) F10 = some (.lst (ps.map V.str)) := upd_same
      have nPF : P9 ≠ F10 := ne_of_none eP nF
      have nWF : W9 ≠ F10 := ne_of_none eW nF
      have nsF := S11.nes nF
      have ncF := S11.nec nF
      have eP1 : (upd H9 F10 (.lst (ps.map V.str))) P9 = some (.lst (ps.map V.str)) := by rw [upd_ne nPF]; exact eP
      have eW1 : (upd H9 F10 (.lst (ps.map V.str))) W9 = some (.lst (words13.map V.str)) := by rw [upd_ne nWF]; exact eW
      have S12 := S11.upd_new (o := .lst (ps.map V.str)) nF
      have K12 : Kept [P9, W9, s, c] H8 (upd H9 F10 (.lst (ps.map V.str))) := K11.trans (Kept.upd_new nF)
      have nF8 : H8 F10 = none := K11.fresh nF (by
        intro q hq
        simp only [List.mem_cons, List.not_mem_nil, or_false] at hq
        rcases hq with rfl | rfl | rfl | rfl
        · exact nPF
        · exact nWF
        · exact nsF
        · exact ncF)
      generalize upd H9 F10 (.lst (ps.map V.str)) = H10 at eF eP1 eW1 S12 K12 ⊢
      -- for k in range(min(many, 13) * int(way == 0))
      refine ⟨.int m, rfl, _, _, rfl, .int way, rfl, rfl, .inr ⟨_, rfl, _, _, rfl, rfl, .inl ⟨?_, ?_⟩, _, rfl, ?_, ?_, ?_⟩⟩
      · omega
      · omega
      · show -(2 ^ 62 : Int) ≤ (if (13 : Int) < (m : Int) then 13 else (m : Int)) * (if decide (V.int way = V.int 0) = true then 1 else 0)
        split <;> split <;> omega
      · show (if (13 : Int) < (m : Int) then 13 else (m : Int)) * (if decide (V.int way = V.int 0) = true then 1 else 0) < (2 ^ 62 : Int)
        split <;> split <;> omega
      · obtain ⟨N, hN, hN13, hNm⟩ : ∃ N : Nat, ((if (13 : Int) < (m : Int) then 13 else (m : Int)) * (if decide (V.int way = V.int 0) = true then 1 else 0) : Int).toNat = N ∧ N ≤ 13 ∧ N ≤ m := by
          refine ⟨_, rfl, ?_, ?_⟩ <;> (split <;> split <;> omega)
        rw [show ((if (13 : Int) < (m : Int) then 13 else (m : Int)) * (if decide (V.int way = V.int 0) = true then 1 else 0) : Int).toNat = N from hN]
        refine for_range (lo := 0) (n := N) (fun k σ H' => (∃ y11 y12 y14, σ = [some (.ref s), some (.int m), some (.str abc), some (.int first), some (.int way), some (.str z5), some (.int a), some (.int step), some (.int sh8), some (.ref P9), some (.ref W9), y11, y12, some (.ref F10), y14, none]) ∧
          (∃ fs : List Str, H' F10 = some (.lst (fs.map V.str)) ∧ Mixed first ps k fs) ∧ H' P9 = some (.lst (ps.map V.str)) ∧ H' W9 = some (.lst (words13.map V.str)) ∧ StAt H' s c (T + 13 + k) ∧ Kept [F10, P9, W9, s, c] H8 H') ⟨⟨y11, y12, none, rfl⟩, ⟨ps, eF, mixed_start first nodP okP⟩, eP1, eW1, S12, K12.mono (fun _ h => List.mem_cons_of_mem _ h)⟩ (fun k σ H11 hk hP => ?_) (fun σ H11 hP => ?_)
        · obtain ⟨⟨y11, y12, y14, rfl⟩, ⟨fs, eF, mx⟩, eP, eW, S13, K13⟩ := hP
          -- word = some[(first + k) % 13]
          have g0 := Int.emod_nonneg (first + k) (show (13 : Int) ≠ 0 by decide)
          have g1 := Int.emod_lt_of_pos (first + k) (show (0 : Int) < 13 by decide)
          have gw : (words13.map V.str)[((first + k) % 13).toNat]? = some (.str (wordAt first k)) := by
            rw [List.getElem?_map, wordAt_get first k]
            rfl
          refine ⟨.ref W9, rfl, .int first, rfl, .int (0 + (k : Int)), rfl, _, _, rfl, rfl, _, _, rfl, rfl, (by decide : (0 : Int) < 13), W9, _, _, .str (wordAt first k), rfl, rfl, .inl (.inl eW), ?_, ?_⟩
          · show atI (words13.map V.str) ((first + (0 + (k : Int))) % 13) = _
            rw [Int.zero_add, show (first + k) % 13 = ((((first + k) % 13).toNat : Nat) : Int) by omega]
            exact atI_nat gw
          -- if word not in plain and ..
          refine ⟨.str (wordAt first k), rfl, .ref P9, rfl, P9, _, rfl, .inl (.inl (.inl eP)), rfl, flat_strs ps, _, rfl, ?_⟩
          rw [if_pos rfl, inV_strs]
          refine ite2 (fun hn => ?_) (fun hn => ?_)
          · have hnot : wordAt first k ∉ ps := by simpa using hn
            refine ⟨.ref s, rfl, s, c, _, _, rfl, S13, by omega, by decide, by decide, fun d H12 d0 d1 S14 K14 => ?_⟩
            have out : ∀ q, q = P9 ∨ q = W9 ∨ q = F10 → q ∉ [s, c] := by
              intro q hq hm'
              simp only [List.mem_cons, List.not_mem_nil, or_false] at hm'
              rcases hq with rfl | rfl | rfl <;> rcases hm' with z | z
              · exact nsP z.symm
              · exact ncP z.symm
              · exact nsW z.symm
              · exact ncW z.symm
              · exact nsF z.symm
              · exact ncF z.symm
            have eF' := K14.at eF (out _ (.inr (.inr rfl)))
            have eP' := K14.at eP (out _ (.inl rfl))
            have eW' := K14.at eW (out _ (.inr (.inl rfl)))
            have K15 : Kept [F10, P9, W9, s, c] H8 H12 := K13.trans (K14.mono (by
              intro q hq
              exact List.mem_cons_of_mem _ (List.mem_cons_of_mem _ (List.mem_cons_of_mem _ hq))))
            refine ⟨rfl, _, rfl, ite2 (fun _ => ?_) (fun _ => ?_)⟩
            · -- found[k] = word
              refine ⟨.str (wordAt first k), rfl, .ref F10, rfl, .int (0 + (k : Int)), rfl, F10, _, _, k, rfl, rfl, eF', ?_, ?_⟩
              · rw [Int.zero_add, List.length_map, mx.len, lenP]
                exact ixN_nat (by omega)
              · refine ⟨⟨some (.int (0 + (k : Int))), y12, some (.str (wordAt first k)), rfl⟩, ⟨_, by rw [upd_same, ← List.map_set], mx.put hnot (by omega)⟩, by rw [upd_ne nPF]; exact eP', by rw [upd_ne nWF]; exact eW', (S14.upd nsF ncF).mono (by omega), K15.trans (Kept.upd_in (List.mem_cons_self ..))⟩
            · exact ⟨⟨some (.int (0 + (k : Int))), y12, some (.str (wordAt first k)), rfl⟩, ⟨fs, eF', mx.skip⟩, eP', eW', S14.mono (by omega), K15⟩
          · refine iteF ?_
            exact ⟨⟨some (.int (0 + (k : Int))), y12, some (.str (wordAt first k)), rfl⟩, ⟨fs, eF, mx.skip⟩, eP, eW, S13.mono (by omega), K13⟩
        · obtain ⟨⟨y11, y12, y14, rfl⟩, ⟨fs, eF, mx⟩, eP, eW, S13, K13⟩ := hP
          refine ⟨.ref F10, rfl, ?_⟩
          refine q F10 fs H11 (by rw [mx.len, lenP]) (mx.nodup nodP (by omega)) (mx.ok okP) (K8.fresh nF8 ?_) eF (S13.mono (by omega)) (K8.trans ?_)
          · intro z hz
            simp only [List.mem_cons, List.not_mem_nil, or_false] at hz
            rcases hz with rfl | rfl
            · exact nsF
            · exact ncF
          · intro p o e hp
            exact K13 p o e (by
              intro z
              simp only [List.mem_cons, List.not_mem_nil, or_false] at z hp
              rcases z with rfl | rfl | rfl | z
              · rw [nF8] at e; cases e
              · rw [nP] at e; cases e
              · rw [Same.free (same_upd nP) nW] at e; cases e
              · exact hp z)
end
end TT

set_option Elab.async false
set_option linter.all false
set_option maxRecDepth 100000
namespace TT
open PySem PySem.Spec PyProof.Rows L2
/-! ### worths -/
def wV : Option Int → V
  | none => .non
  | some i => .int i
def wD : Option Int → PyData
  | none => .none
  | some i => .int i
def WOk : Option Int → Prop
  | none => True
  | some i => -1000000000 ≤ i ∧ i ≤ 1000000000
theorem dp_w {K : PySem.W.Frag} {H : Hp} : ∀ o : Option Int, Dp K H (wV o) (wD o)
  | none => .non
  | some i => .int i
section
variable {P : Program} {w : World} {K : PySem.W.Frag} {mg : Str → Option Value} {base : Heap}
def spWorth : Sp := fun vs H Q _ => ∃ (s c : Addr) (T : Nat), vs = [.ref s] ∧ StAt H s c T ∧ T + 3 ≤ 1000000 ∧
  ∀ (o : Option Int) (H' : Hp), WOk o → StAt H' s c (T + 3) → Kept [s, c] H H' → Q (wV o) H'
abbrev s_law_worth : Stmt := topS 23
abbrev N_law_worth : List Str := ["state", "way"]
theorem sc_law_worth : FnScope N_law_worth ["state"] (defScope s_law_worth) := ⟨rfl, rfl, rfl, by decide +kernel, rfl, by decide +kernel, by decide +kernel⟩

theorem ok_worth {f : Addr} {fd : FuncData} (F : Fun K "_law_worth" "_law_worth" s_law_worth f fd) (D_law_take : Def P w K mg base 1 "_law_take" ["state", "many"] spTake) : FnOk P w K mg base CX0 2 f fd ["state"] spWorth := by
  refine F.ok sc_law_worth (fun vs H Q E h => ?_) (fun cdv A outer sh H vs Q E hr h => ?_)
  · obtain ⟨s, c, T, rfl, _⟩ := h
    rfl
  · obtain ⟨s, c, T, rfl, S, hT, q⟩ := h
    have nd := sc_law_worth.nd
    have hu := hu_of hr
    refine ⟨_, (pss_cons (ps_set (i := 1) nd rfl (Or.inl rfl) (pe_own D_law_take hr (pa_cons (pv 0) (pa_cons pe_int pa_nil))))
      (pss_cons (ps_if (pt_cmpR op_lt (pv 1) pe_int (nomark _))
        (pss_one (ps_ret (pe_ix ix_list (pe_lst (pa_cons pe_non (pa_cons pe_int pa_nil))) (pv 1) (fun _ _ => rfl))))
        pss_nil)
      (pss_cons (ps_if (pt_cmpR op_lt (pv 1) pe_int (nomark _))
        (pss_one (ps_ret (pe_op op_sub (pe_own D_law_take hr (pa_cons (pv 0) (pa_cons pe_int pa_nil))) pe_int)))
        pss_nil)
      (pss_one (ps_ret (pe_ix ix_list (pe_lst (pa_cons (pe_op op_sub (pe_own D_law_take hr (pa_cons (pv 0) (pa_cons (pe_op op_add (pe_op op_mul pe_int (pe_op op_pow pe_int pe_int)) pe_int) pa_nil))) (pe_op op_pow pe_int pe_int)) (pa_cons (pe_op op_sub (pe_op op_pow pe_int pe_int) (pe_op op_mul (pe_op op_mul pe_int (pe_op op_pow pe_int pe_int)) (pe_own D_law_take hr (pa_cons (pv 0) (pa_cons pe_int pa_nil))))) pa_nil))) (pe_op op_sub (pv 1) pe_int) (fun _ _ => rfl))))))), ?_⟩
    refine ⟨.ref s, rfl, s, c, T, _, rfl, S, by omega, by decide, by decide, fun way H1 w0 w1 S1 K1 => ?_⟩
    refine ⟨.int way, rfl, _, _, rfl, rfl, _, rfl, ite2 (fun h1 => ?_) (fun h1 => ?_)⟩
    · have h1 : way < 2 := of_decide_eq_true h1
      refine ⟨(by show 2 ≤ sizeLine; decide), fun p np => ?_⟩
      have : way = 0 ∨ way = 1 := by omega
      rcases this with rfl | rfl
      · exact ⟨.int 0, rfl, p, _, _, .non, rfl, rfl, .inl (.inl upd_same), rfl, q none _ trivial ((S1.upd_new np).mono (by omega)) (K1.trans (Kept.upd_new np))⟩
      · exact ⟨.int 1, rfl, p, _, _, .int 0, rfl, rfl, .inl (.inl upd_same), rfl, q (some 0) _ ⟨by decide, by decide⟩ ((S1.upd_new np).mono (by omega)) (K1.trans (Kept.upd_new np))⟩
    · have h1 : ¬ way < 2 := fun h => h1 (decide_eq_true h)
      refine ⟨.int way, rfl, _, _, rfl, rfl, _, rfl, ite2 (fun h2 => ?_) (fun h2 => ?_)⟩
      · refine ⟨.ref s, rfl, s, c, _, _, rfl, S1, by omega, by decide, by decide, fun d H2 d0 d1 S2 K2 => ⟨_, _, rfl, rfl, ?_⟩⟩
        exact q (some (d - 4)) _ ⟨by omega, by omega⟩ (S2.mono (by omega)) (K1.trans K2)
      · have h2 : ¬ way < 6 := fun h => h2 (decide_eq_true h)
        refine ⟨.ref s, rfl, 10, 9, rfl, rfl, ⟨by decide, by decide, by decide⟩, _, _, rfl, rfl, .inl ⟨by decide, by decide⟩, _, _, rfl, rfl, s, c, _, _, rfl, S1, by omega, by decide, by decide, fun d H2 d0 d1 S2 K2 => ?_⟩
        refine ⟨10, 9, rfl, rfl, ⟨by decide, by decide, by decide⟩, _, _, rfl, rfl, ?_⟩
        refine ⟨10, 9, rfl, rfl, ⟨by decide, by decide, by decide⟩, 10, 9, rfl, rfl, ⟨by decide, by decide, by decide⟩, _, _, rfl, rfl, .inl ⟨by decide, by decide⟩, .ref s, rfl, s, c, _, _, rfl, S2, by omega, by decide, by decide, fun e H3 e0 e1 S3 K3 => ?_⟩
        refine ⟨_, _, rfl, rfl, .inl ⟨by decide, by decide⟩, _, _, rfl, rfl, (by show 2 ≤ sizeLine; decide), fun p np => ?_⟩
        have e9 : (10 : Int) ^ (9 : Int).toNat = 1000000000 := by decide
        have d1' : d < 2 * 1000000000 + 1 := by rw [← e9]; exact d1
        have S4 := (S3.upd_new (o := .lst [.int (d - 10 ^ (9 : Int).toNat), .int (10 ^ (9 : Int).toNat - 2 * 10 ^ (9 : Int).toNat * e)]) np).mono (T' := T + 3) (by omega)
        have K4 : Kept [s, c] H (upd H3 p (.lst [.int (d - 10 ^ (9 : Int).toNat), .int (10 ^ (9 : Int).toNat - 2 * 10 ^ (9 : Int).toNat * e)])) := K1.trans (K2.trans (K3.trans (Kept.upd_new np)))
        have : way = 6 ∨ way = 7 := by omega
        rcases this with rfl | rfl
        · exact ⟨.int 6, rfl, _, _, rfl, rfl, p, _, _, .int (d - 10 ^ (9 : Int).toNat), rfl, rfl, .inl (.inl upd_same), rfl, q (some (d - 10 ^ (9 : Int).toNat)) _ ⟨by rw [e9]; omega, by rw [e9]; omega⟩ S4 K4⟩
        · exact ⟨.int 7, rfl, _, _, rfl, rfl, p, _, _, .int (10 ^ (9 : Int).toNat - 2 * 10 ^ (9 : Int).toNat * e), rfl, rfl, .inl (.inl upd_same), rfl, q (some (10 ^ (9 : Int).toNat - 2 * 10 ^ (9 : Int).toNat * e)) _ ⟨by rw [e9]; omega, by rw [e9]; omega⟩ S4 K4⟩
end
end TT

set_option Elab.async false
set_option linter.all false
set_option maxRecDepth 100000
namespace TT
open PySem PySem.Spec PyProof.Rows L2
/-! ### tables as plain data -/
abbrev Col := Str × Option Int
abbrev Tab := Str × List Col
def colD (x : Col) : PyData := .tuple [.str x.1, wD x.2]
def tabD (x : Tab) : PyData := .tuple [.str x.1, .tuple (x.2.map colD)]
structure ColsOk (n : Nat) (cs : List Col) : Prop where
  top : cs.length ≤ n
  nd : (cs.map (·.1)).Nodup
  nm : ∀ x ∈ cs, NameOk x.1
  w : ∀ x ∈ cs, WOk x.2
  key : ∀ x, cs[0]? = some x → x.2 = none
structure TabsOk (n : Nat) (ts : List Tab) : Prop where
  nd : (ts.map (·.1)).Nodup
  nm : ∀ x ∈ ts, NameOk x.1
  cs : ∀ x ∈ ts, ColsOk n x.2 ∧ 0 < x.2.length
theorem strOk_name {z : Str} (h : NameOk z) : PyData.strOk z = true := by
  unfold PyData.strOk
  rw [Array.all_eq_true']
  intro x hx
  have := h.low x (by unfold cl; exact Array.mem_toList_iff.mpr hx)
  unfold low at this
  simp; omega
theorem lay_w : ∀ o : Option Int, (wD o).canLay0 = true ∧ (wD o).depth = 0
  | none => ⟨rfl, rfl⟩
  | some _ => ⟨rfl, rfl⟩
theorem lay_cols : ∀ cs : List Col, (∀ x ∈ cs, NameOk x.1) → PyData.canLayAll0 (cs.map colD) = true ∧ PyData.depthAll (cs.map colD) ≤ 1
  | [], _ => ⟨rfl, Nat.zero_le _⟩
  | x :: cs, h => by
    obtain ⟨h1, h2⟩ := lay_cols cs fun y hy => h y (List.mem_cons_of_mem _ hy)
    have h3 := strOk_name (h x (List.mem_cons_self ..))
    obtain ⟨h4, h5⟩ := lay_w x.2
    constructor
    · show ((PyData.strOk x.1 && ((wD x.2).canLay0 && true)) && PyData.canLayAll0 (cs.map colD)) = true
      rw [h3, h4, h1]; rfl
    · show max (max 0 (max (wD x.2).depth 0) + 1) (PyData.depthAll (cs.map colD)) ≤ 1
      rw [h5]
      exact Nat.max_le.mpr ⟨Nat.le_refl _, h2⟩
theorem shaped_cols {cs : List Col} (h : ∀ x ∈ cs, NameOk x.1) : SeqAt.shaped (.list (cs.map colD)) = true := by
  obtain ⟨h1, h2⟩ := lay_cols cs h
  show (PyData.canLayAll0 (cs.map colD) && decide (PyData.depthAll (cs.map colD) + 1 ≤ 64)) = true
  rw [h1, decide_eq_true (by omega)]; rfl
theorem eqv_nil (ds : List PyData) : PyData.eqv (.list ds) (.list []) = ds.isEmpty := by
  cases ds <;> rfl
section
variable {P : Program} {w : World} {K : PySem.W.Frag} {mg : Str → Option Value} {base : Heap}
def spTables (K : PySem.W.Frag) : Sp := fun vs H Q _ => ∃ (s c : Addr) (T m n : Nat), vs = [.ref s, .int m, .int n] ∧ StAt H s c T ∧ T + 1000 ≤ 1000000 ∧ m ≤ 8 ∧ 0 < n ∧ n ≤ 8 ∧
  ∀ (p : Addr) (ts : List Tab) (H' : Hp), ts.length = m → TabsOk n ts → H p = none → Dp K (msk [s, c] H') (.ref p) (.tuple (ts.map tabD)) → StAt H' s c (T + 1000) → Kept [s, c] H H' → Q (.ref p) H'
abbrev s_law_tables : Stmt := topS 24
abbrev N_law_tables : List Str := ["state", "many", "wide", "found", "name", "columns", "column"]
theorem sc_law_tables : FnScope N_law_tables ["state", "many", "wide"] (defScope s_law_tables) := ⟨rfl, rfl, rfl, by decide +kernel, rfl, by decide +kernel, by decide +kernel⟩

theorem ok_tables {f : Addr} {fd : FuncData} (F : Fun K "_law_tables" "_law_tables" s_law_tables f fd) (nb : NB mg) (D_law_take : Def P w K mg base 1 "_law_take" ["state", "many"] spTake)
    (D_law_names : Def P w K mg base 2 "_law_names" ["state", "many"] spNames) (D_law_worth : Def P w K mg base 2 "_law_worth" ["state"] spWorth) : FnOk P w K mg base CX0 3 f fd ["state", "many", "wide"] (spTables K) := by
  refine F.ok sc_law_tables (fun vs H Q E h => ?_) (fun cdv A outer sh H vs Q E hr h => ?_)
  · obtain ⟨s, c, T, m, n, rfl, _⟩ := h
    rfl
  · obtain ⟨s, c, T, m, n, rfl, S, hT, hm, hn0, hn, q⟩ := h
    have nd := sc_law_tables.nd
    have hu := hu_of hr
    refine ⟨_, (pss_cons (ps_set (i := 3) nd rfl (Or.inl rfl) (pe_lst pa_nil))
      (pss_cons (ps_for PassesOwn.never rfl (pi_list (pe_own D_law_names hr (pa_cons (pv 0) (pa_cons (pv 1) pa_nil)))) (pg_name (i := 4) nd rfl (Or.inl rfl))
        (pss_cons (ps_set (i := 5) nd rfl (Or.inl rfl) (pe_lst pa_nil))
        (pss_cons (ps_for PassesOwn.never rfl (pi_list (pe_own D_law_names hr (pa_cons (pv 0) (pa_cons (pe_op op_add pe_int (pe_own D_law_take hr (pa_cons (pv 0) (pa_cons (pv 2) pa_nil)))) pa_nil)))) (pg_name (i := 6) nd rfl (Or.inl rfl))
          (pss_one (ps_expr (pe_bm PySem.F.plainAttrs_list PySem.F.slot_list_append PySem.F.type_list_append mt_append (pv 5) (pa_cons (pe_tup (pa_cons (pv 6) (pa_cons (pe_ifExp (pt_cmpR (op_neD hr.units) (pv 5) (pe_lst pa_nil) (nomark _)) (pe_own D_law_worth hr (pa_cons (pv 0) pa_nil)) pe_non) pa_nil))) pa_nil)))))
        (pss_one (ps_expr (pe_bm PySem.F.plainAttrs_list PySem.F.slot_list_append PySem.F.type_list_append mt_append (pv 3) (pa_cons (pe_tup (pa_cons (pv 4) (pa_cons (pe_callTy call_tuple_of (by rfl) nb.b_tuple (by decide +kernel) (pa_cons (pv 5) pa_nil)) pa_nil))) pa_nil)))))))
      (pss_one (ps_ret (pe_callTy call_tuple_of (by rfl) nb.b_tuple (by decide +kernel) (pa_cons (pv 3) pa_nil)))))), ?_⟩
    refine ⟨Nat.zero_le _, fun P3 n3 => ?_⟩
    have S1 := S.upd_new (o := .lst []) n3
    have ns3 := S.nes n3
    have nc3 := S.nec n3
    have out3 : P3 ∉ [s, c] := by
      intro z
      simp only [List.mem_cons, List.not_mem_nil, or_false] at z
      rcases z with z | z
      · exact ns3 z.symm
      · exact nc3 z.symm
    have e3 : (upd H P3 (.lst [])) P3 = some (.lst []) := upd_same
    have K01 : Kept [P3, s, c] H (upd H P3 (.lst [])) := Kept.upd_new n3
    -- for name in ..
    refine ⟨.ref s, rfl, .int m, rfl, s, c, _, m, rfl, S1, by omega, by omega, fun pn zs H2 lz ndz okz nfz ez S2 K2 => ⟨pn, rfl, ⟨_, .inl (.inl ez)⟩, ?_⟩⟩
    have e3' : H2 P3 = some (.lst []) := K2.at e3 out3
    have ncn : pn ≠ P3 := fun z => by
      rw [z, e3] at nfz
      cases nfz
    have nsn : s ≠ pn := S1.nes nfz
    have ncp : c ≠ pn := S1.nec nfz
    have outn : pn ∉ [P3, s, c] := by
      intro z
      simp only [List.mem_cons, List.not_mem_nil, or_false] at z
      rcases z with z | z | z
      · exact ncn z
      · exact nsn z.symm
      · exact ncp z.symm
    have K02 : Kept [P3, s, c] H H2 := K01.trans (K2.mono (by intro p hp; exact List.mem_cons_of_mem _ hp))
    refine for_list (K := K) (a := pn) (xs := zs.map V.str) (fun i σ H' => (∃ y5 y6 y7, σ = [some (.ref s), some (.int m), some (.int n), some (.ref P3), y5, y6, y7]) ∧
      (∃ (vs : List V) (ts : List Tab), H' P3 = some (.lst vs) ∧ DpAll K (msk [P3, s, c] H') vs (ts.map tabD) ∧ ts.map (·.1) = zs.take i ∧ ∀ x ∈ ts, ColsOk n x.2 ∧ 0 < x.2.length) ∧ H' pn = some (.lst (zs.map V.str)) ∧ StAt H' s c (T + 31 + i * 100) ∧ Kept [P3, s, c] H H')
      ⟨⟨none, none, none, rfl⟩, ⟨[], [], e3', .nil, rfl, fun _ h => absurd h List.not_mem_nil⟩, ez, S2.mono (by omega), K02⟩ (fun i σ H' _ hP => .inl (.inl hP.2.2.1)) (fun i x σ H3 hx hP => ?_) (fun σ H3 hP => ?_)
    · obtain ⟨⟨y5, y6, y7, rfl⟩, ⟨vs, ts, eP, dp, em, okc⟩, en, S3, K3⟩ := hP
      rw [List.getElem?_map] at hx
      obtain ⟨z, hz, rfl⟩ := Option.map_eq_some_iff.mp hx
      have hi : i < zs.length := (List.getElem?_eq_some_iff.mp hz).1
      -- columns = []
      refine ⟨Nat.zero_le _, fun P6 n6 => ?_⟩
      have ns6 := S3.nes n6
      have nc6 := S3.nec n6
      have n36 : P3 ≠ P6 := ne_of_none eP n6
      have nn6 : pn ≠ P6 := ne_of_none en n6
      have S4 := S3.upd_new (o := .lst []) n6
      have K4 : Kept [P6, P3, s, c] H3 (upd H3 P6 (.lst [])) := Kept.upd_new n6
      have e6 : (upd H3 P6 (.lst [])) P6 = some (.lst []) := upd_same
      have n6H : H P6 = none := K3.fresh n6 (by
        intro q hq
        simp only [List.mem_cons, List.not_mem_nil, or_false] at hq
        rcases hq with rfl | rfl | rfl
        · exact n36
        · exact ns6
        · exact nc6)
      -- for column in ..
      have im : i < 8 := by omega
      refine ⟨.ref s, rfl, ?_⟩
      refine ⟨.ref s, rfl, .int n, rfl, s, c, _, _, rfl, S4, by omega, by omega, by omega, fun e H7 g0 g1 S7 K7 => ⟨_, _, rfl, rfl, ?_⟩⟩
      obtain ⟨kk, hkk⟩ : ∃ kk : Nat, 1 + e = (kk : Int) := ⟨(1 + e).toNat, by omega⟩
      refine ⟨s, c, _, kk, congrArg (fun z => [V.ref s, V.int z]) hkk, S7, by omega, by omega, fun pq ys H5 ly ndy oky nfy ey S5 K5 => ⟨pq, rfl, ⟨_, .inl (.inl ey)⟩, ?_⟩⟩
      have ly2 : 0 < ys.length ∧ ys.length ≤ n := by omega
      have n5 : P6 ≠ pq := ne_of_none (K7.at e6 (by simp [ns6.symm, nc6.symm])) nfy
      have n35 : P3 ≠ pq := ne_of_none (K7.at (show (upd H3 P6 (.lst [])) P3 = some _ by rw [upd_ne n36]; exact eP) out3) nfy
      have nn5 : pn ≠ pq := ne_of_none (K7.at (show (upd H3 P6 (.lst [])) pn = some _ by rw [upd_ne nn6]; exact en) (by simp [nsn.symm, ncp.symm])) nfy
      have K6 : Kept [s, c] (upd H3 P6 (.lst [])) H5 := K7.trans K5
      have S6 : StAt H5 s c (T + 62 + i * 100) := S5.mono (by omega)
      have nsq : s ≠ pq := S7.nes nfy
      have ncq : c ≠ pq := S7.nec nfy
      · have out6 : P6 ∉ [s, c] := by simp [ns6.symm, nc6.symm]
        have eP5 : H5 P3 = some (.lst vs) := K6.at (show (upd H3 P6 (.lst [])) P3 = some _ by rw [upd_ne n36]; exact eP) out3
        have e65 : H5 P6 = some (.lst []) := K6.at e6 out6
        have en5 : H5 pn = some (.lst (zs.map V.str)) := K6.at (show (upd H3 P6 (.lst [])) pn = some _ by rw [upd_ne nn6]; exact en) (by simp [nsn.symm, ncp.symm])
        have K36 : Kept [P6, P3, s, c] H3 H5 := K4.trans (K6.mono (by intro p hp; exact List.mem_cons_of_mem _ (List.mem_cons_of_mem _ hp)))
        refine for_list (K := K) (a := pq) (xs := ys.map V.str) (fun j σ H' => (∃ y7, σ = [some (.ref s), some (.int m), some (.int n), some (.ref P3), some (.str z), some (.ref P6), y7]) ∧
          (∃ (us : List V) (cs : List Col), H' P6 = some (.lst us) ∧ DpAll K (msk [P6, P3, s, c] H') us (cs.map colD) ∧ cs.map (·.1) = ys.take j ∧ (∀ x ∈ cs, WOk x.2) ∧ ∀ x, cs[0]? = some x → x.2 = none) ∧ H' pq = some (.lst (ys.map V.str)) ∧ StAt H' s c (T + 62 + i * 100 + j * 3) ∧ Kept [P6, P3, s, c] H3 H' ∧ H' P3 = some (.lst vs))
          ⟨⟨y7, rfl⟩, ⟨[], [], e65, .nil, rfl, fun _ h => absurd h List.not_mem_nil, fun _ h => nomatch h⟩, ey, S6, K36, eP5⟩ (fun j σ H' _ hP => .inl (.inl hP.2.2.1)) (fun j x σ H8 hx8 hP => ?_) (fun σ H8 hP => ?_)
        · obtain ⟨⟨y7, rfl⟩, ⟨us, cs, e6, dpu, emu, okw, oky0⟩, eq, S8, K8, eP8⟩ := hP
          rw [List.getElem?_map] at hx8
          obtain ⟨y, hy, rfl⟩ := Option.map_eq_some_iff.mp hx8
          have hj : j < ys.length := (List.getElem?_eq_some_iff.mp hy).1
          have hcl : cs.length = j := by
            have := congrArg List.length emu
            rw [List.length_map, List.length_take] at this
            omega
          have okn : ∀ x ∈ cs, NameOk x.1 := fun x hx => oky x.1 (by
            have h : x.1 ∈ cs.map (·.1) := List.mem_map.mpr ⟨x, hx, rfl⟩
            rw [emu] at h
            exact List.mem_of_mem_take h)
          have uslen : us.length = j := by rw [dpAll_len dpu, List.length_map, hcl]
          -- columns.append((column, worth if columns != [] else None))
          refine ⟨.ref P6, rfl, .inl ⟨rfl, _, .inl (.inl e6)⟩, .str y, rfl, .ref P6, rfl, Nat.zero_le _, fun q9 n9 => ?_⟩
          have n69 : P6 ≠ q9 := ne_of_none e6 n9
          have n39 : P3 ≠ q9 := ne_of_none eP8 n9
          have nq9 : pq ≠ q9 := ne_of_none eq n9
          have S9 := S8.upd_new (o := .lst []) n9
          have K9 : Kept [P6, P3, s, c] H3 (upd H8 q9 (.lst [])) := K8.trans (Kept.upd_new n9)
          have sm9 : Same H8 (upd H8 q9 (.lst [])) := same_upd n9
          refine ⟨.list (cs.map colD), .list [], .lst (.inl (.inl (sm9 _ _ e6))) (dpAll_same sm9 (dpAll_same (msk_sub _ _) dpu)), .lst (.inl (.inl upd_same)) .nil, shaped_cols okn, rfl, _, rfl, ?_⟩
          rw [eqv_nil]
          cases hE : (cs.map colD).isEmpty
          case' false =>
            have hcs : ¬ cs = [] := fun z => by rw [z] at hE; cases hE
            refine iteT ?_
            refine ⟨.ref s, rfl, s, c, _, rfl, S9, by omega, fun o H10 wo S10 K10 => ?_⟩
            have hon : cs = [] → o = none := fun z => absurd z hcs
          case' true =>
            have hcs : cs = [] := by
              cases cs with
              | nil => rfl
              | cons a r => cases hE
            refine iteF ?_
            obtain ⟨o, ho, wo⟩ : ∃ o : Option Int, o = none ∧ WOk o := ⟨none, rfl, trivial⟩
            have hon : cs = [] → o = none := fun _ => ho
            obtain ⟨H10, hH10⟩ : ∃ H10, H10 = upd H8 q9 (.lst []) := ⟨_, rfl⟩
            have S10 : StAt H10 s c (T + 62 + i * 100 + j * 3 + 3) := by rw [hH10]; exact S9.mono (by omega)
            have K10 : Kept [s, c] (upd H8 q9 (.lst [])) H10 := by rw [hH10]; exact Kept.refl _ _
            rw [← hH10]
            have hv : (V.non) = wV o := by rw [ho]; rfl
            rw [hv]
          all_goals
            refine ⟨(by show 2 ≤ sizeLine; decide), fun t nt => ?_⟩
            have outq : pq ∉ [s, c] := by
              intro hz
              simp only [List.mem_cons, List.not_mem_nil, or_false] at hz
              rcases hz with hz | hz
              · exact nsq hz.symm
              · exact ncq hz.symm
            have e6b : H10 P6 = some (.lst us) := K10.at (sm9 _ _ e6) out6
            have eqb : H10 pq = some (.lst (ys.map V.str)) := K10.at (sm9 _ _ eq) outq
            have ePb : H10 P3 = some (.lst vs) := K10.at (sm9 _ _ eP8) out3
            have n6t : P6 ≠ t := ne_of_none e6b nt
            have nqt : pq ≠ t := ne_of_none eqb nt
            have n3t : P3 ≠ t := ne_of_none ePb nt
            have Kb : Kept [P6, P3, s, c] H8 H10 := (Kept.of_same sm9).trans (K10.mono (by intro p hp; exact List.mem_cons_of_mem _ (List.mem_cons_of_mem _ hp)))
            have Kc : Kept [P6, P3, s, c] H8 (upd (upd H10 t (.tup [.str y, wV o])) P6 (.lst (us ++ [.ref t]))) := Kb.trans ((Kept.upd_new nt).trans (Kept.upd_in (List.mem_cons_self ..)))
            refine ⟨P6, us, _, rfl, rfl, (by rw [upd_ne n6t]; exact e6b), by rw [uslen]; exact small1000 (by omega), ⟨some (.str y), rfl⟩, ⟨_, cs ++ [(y, o)], upd_same, ?_, ?_, ?_, ?_⟩, ?_, ((S10.upd_new nt).upd ns6 nc6).mono (by omega), K8.trans Kc, ?_⟩
            · rw [List.map_append]
              refine dpAll_snoc (dpAll_same (msk_same Kc) dpu) ?_
              refine .tup (xs := [.str y, wV o]) (.inl (.inl ?_)) (.cons (.str y) (.cons (dp_w o) .nil))
              unfold msk
              rw [if_neg (by
                intro hz
                simp only [List.mem_cons, List.not_mem_nil, or_false] at hz
                rcases hz with hz | hz | hz | hz
                · exact n6t hz.symm
                · exact n3t hz.symm
                · exact S10.nes nt hz.symm
                · exact S10.nec nt hz.symm), upd_ne n6t.symm, upd_same]
            · rw [List.map_append, emu, List.take_add_one, hy]; rfl
            · intro x hx
              rcases List.mem_append.mp hx with h | h
              · exact okw x h
              · rw [List.mem_singleton.mp h]; exact wo
            · intro x hx
              cases cs with
              | nil =>
                have : x = (y, o) := (Option.some.inj hx).symm
                rw [this]; exact hon rfl
              | cons a r => exact oky0 x hx
            · rw [upd_ne n5.symm, upd_ne nqt]; exact eqb
            · rw [upd_ne n36, upd_ne n3t]; exact ePb
        · obtain ⟨⟨y7, rfl⟩, ⟨us, cs, e6, dpu, emu, okw, oky0⟩, eq, S8, K8, eP8⟩ := hP
          have lyy : (ys.map V.str).length = ys.length := List.length_map ..
          rw [lyy] at emu S8
          rw [List.take_length] at emu
          have hcl : cs.length = ys.length := by rw [← emu, List.length_map]
          have uslen : us.length = cs.length := by rw [dpAll_len dpu, List.length_map]
          -- found.append((name, tuple(columns)))
          refine ⟨.ref P3, rfl, .inl ⟨rfl, _, .inl (.inl eP8)⟩, .str z, rfl, .ref P6, rfl, P6, us, rfl, .inl ⟨.inl (.inl e6), fun t nt => ?_⟩⟩
          have n6t : P6 ≠ t := ne_of_none e6 nt
          have n3t : P3 ≠ t := ne_of_none eP8 nt
          have nst := S8.nes nt
          have nct := S8.nec nt
          refine ⟨(by show 2 ≤ sizeLine; decide), fun t2 nt2 => ?_⟩
          have n3t2 : P3 ≠ t2 := ne_of_none (show (upd H8 t (.tup us)) P3 = some _ by rw [upd_ne n3t]; exact eP8) nt2
          have n6t2 : P6 ≠ t2 := ne_of_none (show (upd H8 t (.tup us)) P6 = some _ by rw [upd_ne n6t]; exact e6) nt2
          have ntt2 : t ≠ t2 := ne_of_none upd_same nt2
          have nst2 := (S8.upd_new (o := .tup us) nt).nes nt2
          have nct2 := (S8.upd_new (o := .tup us) nt).nec nt2
          have Kd : Kept [P6, P3, s, c] H8 (upd (upd (upd H8 t (.tup us)) t2 (.tup [.str z, .ref t])) P3 (.lst (vs ++ [.ref t2]))) := (Kept.upd_new nt).trans ((Kept.upd_new nt2).trans (Kept.upd_in (List.mem_cons_of_mem _ (List.mem_cons_self ..))))
          have Ke : Kept [P3, s, c] H3 (upd (upd (upd H8 t (.tup us)) t2 (.tup [.str z, .ref t])) P3 (.lst (vs ++ [.ref t2]))) := (K8.trans Kd).new n6
          have vlen : vs.length = i := by
            have h1 := congrArg List.length em
            rw [List.length_map, List.length_take] at h1
            rw [dpAll_len dp, List.length_map]; omega
          refine ⟨P3, vs, _, rfl, rfl, (by rw [upd_ne n3t2, upd_ne n3t]; exact eP8), by rw [vlen]; exact small1000 (by omega), ⟨_, _, _, rfl⟩, ⟨_, ts ++ [(z, cs)], upd_same, ?_, ?_, ?_⟩, Ke.at en outn, (((S8.upd_new nt).upd_new nt2).upd ns3 nc3).mono (by omega), K3.trans Ke⟩
          · rw [List.map_append]
            refine dpAll_snoc (dpAll_same (msk_same Ke) dp) ?_
            have at3 : ∀ b o, b ≠ P3 → b ≠ s → b ≠ c → (upd (upd (upd H8 t (.tup us)) t2 (.tup [.str z, .ref t])) P3 (.lst (vs ++ [.ref t2]))) b = some o → msk [P3, s, c] (upd (upd (upd H8 t (.tup us)) t2 (.tup [.str z, .ref t])) P3 (.lst (vs ++ [.ref t2]))) b = some o := by
              intro b o h1 h2 h3 h4
              unfold msk
              rw [if_neg (by simp [h1, h2, h3])]
              exact h4
            refine .tup (xs := [.str z, .ref t]) (.inl (.inl (at3 _ _ n3t2.symm nst2.symm nct2.symm ?_))) (.cons (.str z) (.cons ?_ .nil))
            · rw [upd_ne n3t2.symm, upd_same]
            · refine .tup (xs := us) (.inl (.inl (at3 _ _ n3t.symm nst.symm nct.symm ?_))) ?_
              · rw [upd_ne n3t.symm, upd_ne ntt2, upd_same]
              · exact dpAll_same (msk_less (M := [P6, P3, s, c]) (by intro p hp; exact List.mem_cons_of_mem _ hp)) (dpAll_same (msk_same Kd) dpu)
          · rw [List.map_append, em, List.take_add_one, hz]; rfl
          · intro x hx
            rcases List.mem_append.mp hx with h | h
            · exact okc x h
            · rw [List.mem_singleton.mp h]
              refine ⟨⟨?_, ?_, ?_, okw, oky0⟩, ?_⟩
              · show cs.length ≤ n; omega
              · show (cs.map (·.1)).Nodup; rw [emu]; exact ndy
              · intro x hx
                exact oky x.1 (by rw [← emu]; exact List.mem_map.mpr ⟨x, hx, rfl⟩)
              · show 0 < cs.length; omega
    · obtain ⟨⟨y5, y6, y7, rfl⟩, ⟨vs, ts, eP, dp, em, okc⟩, en, S3, K3⟩ := hP
      have lzz : (zs.map V.str).length = zs.length := List.length_map ..
      rw [lzz] at em S3
      rw [List.take_length] at em
      have tl : ts.length = zs.length := by rw [← em, List.length_map]
      refine ⟨.ref P3, rfl, P3, vs, rfl, .inl ⟨.inl (.inl eP), fun t nt => ?_⟩⟩
      have n3t : P3 ≠ t := ne_of_none eP nt
      have nst := S3.nes nt
      have nct := S3.nec nt
      have Kf : Kept [P3, s, c] H3 (upd H3 t (.tup vs)) := Kept.upd_new nt
      refine q t ts _ (by omega) ⟨by rw [em]; exact ndz, fun x hx => okz x.1 (by rw [← em]; exact List.mem_map.mpr ⟨x, hx, rfl⟩), okc⟩ (K3.fresh nt ?_) ?_ ((S3.upd_new nt).mono (by omega)) ((K3.trans Kf).new n3)
      · intro b hb
        simp only [List.mem_cons, List.not_mem_nil, or_false] at hb
        rcases hb with rfl | rfl | rfl
        · exact n3t
        · exact nst
        · exact nct
      · refine .tup (xs := vs) (.inl (.inl ?_)) ?_
        · unfold msk
          rw [if_neg (by simp [nst.symm, nct.symm]), upd_same]
        · exact dpAll_same (msk_less (M := [P3, s, c]) (by intro p hp; exact List.mem_cons_of_mem _ hp)) (dpAll_same (msk_same Kf) dp)
end
end TT

set_option Elab.async false
set_option linter.all false
set_option maxRecDepth 100000
namespace TT
open PySem PySem.Spec PyProof.Rows L2
/-! ### what is told of data -/
def tyN : PyData → String
  | .none => "NoneType"
  | .bool _ => "bool"
  | .int _ => "int"
  | .str _ => "str"
  | .list _ => "list"
  | .tuple _ => "tuple"
  | .dict _ => "dict"
theorem dp_ty {K : PySem.W.Frag} {H : Hp} {v : V} {d : PyData} (h : Dp K H v d) : TyX K H v (.type (tyN d)) := by
  cases h with
  | non => exact .base .non
  | bl b => exact .base (.bl b)
  | int i => exact .base (.int i)
  | str x => exact .base (.str x)
  | lst h _ =>
    rcases h with (h | ⟨o, h⟩) | ⟨o, _, _, h, c, _⟩
    · exact .base (.lst h)
    · exact .base (.frz h)
    · exact .kList h c
  | tup h _ =>
    rcases h with (h | ⟨o, h⟩) | ⟨o, _, _, h, c, _⟩
    · exact .base (.tup h)
    · exact .fTuple h
    · exact .kTuple h c
def isIB : PyData → Bool
  | .int _ | .bool _ => true
  | _ => false
def isBB : PyData → Bool
  | .bool _ => true
  | _ => false
def isSB : PyData → Bool
  | .str _ => true
  | _ => false
def isTB : PyData → Bool
  | .tuple _ => true
  | _ => false
def isLB : PyData → Bool
  | .list _ => true
  | _ => false
theorem kit_i {K : PySem.W.Frag} (d : PyData) : PySem.W.kitOne K (.type (tyN d)) (.type "int") = some (isIB d) := by
  cases d
  · exact kit_ty (show kitB "NoneType" "int" = some false by decide +kernel)
  · exact kit_ty (show kitB "bool" "int" = some true by decide +kernel)
  · exact kit_ty (show kitB "int" "int" = some true by decide +kernel)
  · exact kit_ty (show kitB "str" "int" = some false by decide +kernel)
  · exact kit_ty (show kitB "list" "int" = some false by decide +kernel)
  · exact kit_ty (show kitB "tuple" "int" = some false by decide +kernel)
  · exact kit_ty (show kitB "dict" "int" = some false by decide +kernel)
theorem kit_b {K : PySem.W.Frag} (d : PyData) : PySem.W.kitOne K (.type (tyN d)) (.type "bool") = some (isBB d) := by
  cases d
  · exact kit_ty (show kitB "NoneType" "bool" = some false by decide +kernel)
  · exact kit_ty (show kitB "bool" "bool" = some true by decide +kernel)
  · exact kit_ty (show kitB "int" "bool" = some false by decide +kernel)
  · exact kit_ty (show kitB "str" "bool" = some false by decide +kernel)
  · exact kit_ty (show kitB "list" "bool" = some false by decide +kernel)
  · exact kit_ty (show kitB "tuple" "bool" = some false by decide +kernel)
  · exact kit_ty (show kitB "dict" "bool" = some false by decide +kernel)
theorem kit_s {K : PySem.W.Frag} (d : PyData) : PySem.W.kitOne K (.type (tyN d)) (.type "str") = some (isSB d) := by
  cases d
  · exact kit_ty (show kitB "NoneType" "str" = some false by decide +kernel)
  · exact kit_ty (show kitB "bool" "str" = some false by decide +kernel)
  · exact kit_ty (show kitB "int" "str" = some false by decide +kernel)
  · exact kit_ty (show kitB "str" "str" = some true by decide +kernel)
  · exact kit_ty (show kitB "list" "str" = some false by decide +kernel)
  · exact kit_ty (show kitB "tuple" "str" = some false by decide +kernel)
  · exact kit_ty (show kitB "dict" "str" = some false by decide +kernel)
theorem kit_t {K : PySem.W.Frag} (d : PyData) : PySem.W.kitOne K (.type (tyN d)) (.type "tuple") = some (isTB d) := by
  cases d
  · exact kit_ty (show kitB "NoneType" "tuple" = some false by decide +kernel)
  · exact kit_ty (show kitB "bool" "tuple" = some false by decide +kernel)
  · exact kit_ty (show kitB "int" "tuple" = some false by decide +kernel)
  · exact kit_ty (show kitB "str" "tuple" = some false by decide +kernel)
  · exact kit_ty (show kitB "list" "tuple" = some false by decide +kernel)
  · exact kit_ty (show kitB "tuple" "tuple" = some true by decide +kernel)
  · exact kit_ty (show kitB "dict" "tuple" = some false by decide +kernel)
theorem kit_l {K : PySem.W.Frag} (d : PyData) : PySem.W.kitOne K (.type (tyN d)) (.type "list") = some (isLB d) := by
  cases d
  · exact kit_ty (show kitB "NoneType" "list" = some false by decide +kernel)
  · exact kit_ty (show kitB "bool" "list" = some false by decide +kernel)
  · exact kit_ty (show kitB "int" "list" = some false by decide +kernel)
  · exact kit_ty (show kitB "str" "list" = some false by decide +kernel)
  · exact kit_ty (show kitB "list" "list" = some true by decide +kernel)
  · exact kit_ty (show kitB "tuple" "list" = some false by decide +kernel)
  · exact kit_ty (show kitB "dict" "list" = some false by decide +kernel)
theorem kit_tl {K : PySem.W.Frag} (d : PyData) : PySem.W.kitAny K (.type (tyN d)) [.type "tuple", .type "list"] = some (isTB d || isLB d) :=
  kitAny_cons (b := isTB d) (kit_t d) (fun h => by
    rw [h]
    exact kitAny_cons (b := isLB d) (kit_l d) (fun h => by rw [h]; exact kitAny_nil) fun h => by rw [h]; rfl) fun h => by rw [h]; rfl
theorem kit_lt {K : PySem.W.Frag} (d : PyData) : PySem.W.kitAny K (.type (tyN d)) [.type "list", .type "tuple"] = some (isLB d || isTB d) :=
  kitAny_cons (b := isLB d) (kit_l d) (fun h => by
    rw [h]
    exact kitAny_cons (b := isTB d) (kit_t d) (fun h => by rw [h]; exact kitAny_nil) fun h => by rw [h]; rfl) fun h => by rw [h]; rfl
/-! sizes -/
mutual
def Fit : PyData → Prop
  | .str z => z.length ≤ 10000
  | .list ds | .tuple ds => ds.length ≤ 900 ∧ FitAll ds
  | _ => True
def FitAll : List PyData → Prop
  | [] => True
  | d :: ds => Fit d ∧ FitAll ds
end
theorem fit_mem : ∀ {ds : List PyData} {d : PyData}, FitAll ds → d ∈ ds → Fit d
  | d :: ds, e, h, m => by
    rcases List.mem_cons.mp m with rfl | m
    · exact h.1
    · exact fit_mem h.2 m
theorem fit_of : ∀ {ds : List PyData}, (∀ d ∈ ds, Fit d) → FitAll ds
  | [], _ => trivial
  | d :: ds, h => ⟨h d (List.mem_cons_self ..), fit_of fun e m => h e (List.mem_cons_of_mem _ m)⟩
theorem dpAll_at {K : PySem.W.Frag} {H : Hp} {ds : List PyData} {vs : List V} {i : Nat} {d : PyData} (a : DpAll K H vs ds) (h : ds[i]? = some d) : ∃ v, vs[i]? = some v ∧ Dp K H v d := by
  have l := dpAll_len a
  have hi : i < vs.length := by rw [l]; exact (List.getElem?_eq_some_iff.mp h).1
  obtain ⟨d', h1, h2⟩ := dpAll_get i a (List.getElem?_eq_getElem hi)
  rw [h] at h1
  cases h1
  exact ⟨_, List.getElem?_eq_getElem hi, h2⟩
/-- the promise of what looks at a thing and tells True or False: new objects alone are laid -/
def spB (R : PyData → Bool) (K : PySem.W.Frag) : Sp := fun vs H Q _ => ∃ (v : V) (d : PyData), vs = [v] ∧ Dp K H v d ∧ Fit d ∧ ∀ H', Same H H' → Q (.bl (R d)) H'
/-! ### the program's words, of data -/
def numB : PyData → Bool
  | .int _ => true
  | _ => false
def worthB : PyData → Bool
  | .none => true
  | .int i => decide (-1000000000 ≤ i) && decide (i ≤ 1000000000)
  | _ => false
def lowB (c : Nat) : Bool := decide (97 ≤ c) && decide (c ≤ 122)
def nameB : PyData → Bool
  | .str z => (decide (1 ≤ z.length) && decide (z.length ≤ 8)) && (cl z).all lowB
  | _ => false
def tupB (lo hi : Int) : PyData → Bool
  | .tuple ds => decide (lo ≤ (ds.length : Int)) && decide ((ds.length : Int) ≤ hi)
  | _ => false
def fstD : PyData → PyData
  | .tuple (a :: _) => a
  | _ => .none
def sndD : PyData → PyData
  | .tuple (_ :: b :: _) => b
  | _ => .none
def strOf : PyData → Str
  | .str z => z
  | _ => Str.empty
def isN : PyData → Bool
  | .none => true
  | _ => false
def colB (d : PyData) : Bool := tupB 2 2 d && (nameB (fstD d) && worthB (sndD d))
def namesOf (ds : List PyData) : List Str := ds.map fun d => strOf (fstD d)
def colsB : PyData → Bool
  | .tuple ds => (decide (1 ≤ ds.length) && decide (ds.length ≤ 5)) && (ds.all colB && (isN (sndD (ds.headD .none)) && decide (namesOf ds).Nodup))
  | _ => false
def tabB (d : PyData) : Bool := tupB 2 2 d && (nameB (fstD d) && colsB (sndD d))
def tabsB : PyData → Bool
  | .tuple ds => (decide (1 ≤ ds.length) && decide (ds.length ≤ 6)) && (ds.all tabB && decide (namesOf ds).Nodup)
  | _ => false
end TT

set_option Elab.async false
set_option linter.all false
set_option maxRecDepth 100000
namespace TT
open PySem PySem.Spec PyProof.Rows L2
/-! ### comprehensions that ask item by item -/
def PvM (H1 : Hp) (D : Addr) (f : Nat → V) (i : Nat) (H : Hp) : Prop := H D = some (.lst ((List.range i).map f)) ∧ Kept [D] H1 H
theorem pvm_start (H1 : Hp) (D : Addr) (f : Nat → V) : PvM H1 D f 0 (upd H1 D (.lst [])) := ⟨upd_same, Kept.upd_in (List.mem_cons_self ..)⟩
theorem pvm_step {H1 H H4 : Hp} {D : Addr} {f : Nat → V} {i : Nat} {y : V} (h : PvM H1 D f i H) (s : Same H H4) (e : y = f i) (l : i ≤ 1000) :
    ∃ acc, H4 D = some (.lst acc) ∧ acc.length < sizeLine ∧ PvM H1 D f (i + 1) (upd H4 D (.lst (acc ++ [y]))) := by
  refine ⟨_, s _ _ h.1, ?_, ?_, (h.2.trans (Kept.of_same s)).trans (Kept.upd_in (List.mem_cons_self ..))⟩
  · rw [List.length_map, List.length_range]; exact small1000 l
  · rw [upd_same, List.range_succ, List.map_append, e]; rfl
theorem pvm_same {H1 H : Hp} {D : Addr} {f : Nat → V} {i : Nat} (h : PvM H1 D f i H) (n : H1 D = none) : Same H1 H := fun b o e => h.2 b o e fun z => by
  rw [List.mem_singleton.mp z, n] at e
  cases e
theorem range_all {α : Type} (R : α → Bool) (d : α) : ∀ (l : List α), ((List.range l.length).map fun i => R (l.getD i d)).all id = l.all R := by
  intro l
  have e : (List.range l.length).map (fun i => R (l.getD i d)) = l.map R := by
    refine List.ext_getElem (by simp) fun i h1 h2 => ?_
    simp only [List.length_map, List.length_range] at h1
    simp [List.getD_eq_getElem?_getD, List.getElem?_eq_getElem h1]
  rw [e, List.all_map]
  rfl
theorem range_map {α β : Type} (f : α → β) (d : α) (l : List α) : (List.range l.length).map (fun i => f (l.getD i d)) = l.map f := by
  refine List.ext_getElem (by simp) fun i h1 h2 => ?_
  simp only [List.length_map, List.length_range] at h1
  simp [List.getD_eq_getElem?_getD, List.getElem?_eq_getElem h1]
theorem lt_one (c d : Nat) : decide (([c] : List Nat) < [d]) = decide (c < d) := by
  refine decide_eq_decide.mpr ?_
  rw [List.cons_lt_cons_iff]
  constructor
  · rintro (h | ⟨_, h⟩)
    · exact h
    · exact absurd h (List.not_lt_nil [])
  · intro h; exact .inl h
theorem two_of {α : Type} : ∀ {l : List α}, l.length = 2 → ∃ a b, l = [a, b]
  | [a, b], _ => ⟨a, b, rfl⟩
  | [], h => by cases h
  | [_], h => by cases h
  | _ :: _ :: _ :: _, h => by simp at h
theorem tup2 {K : PySem.W.Frag} {H : Hp} {v : V} {d : PyData} (hd : Dp K H v d) (h : tupB 2 2 d = true) : ∃ p x y a b, v = .ref p ∧ d = .tuple [a, b] ∧ SqT K H p [x, y] ∧ Dp K H x a ∧ Dp K H y b := by
  cases hd with
  | non => cases h
  | bl b => cases h
  | int i => cases h
  | str z => cases h
  | lst _ _ => cases h
  | tup hs a =>
    rename_i p xs ds
    have h' : (decide ((2 : Int) ≤ (ds.length : Int)) && decide ((ds.length : Int) ≤ 2)) = true := h
    rw [Bool.and_eq_true] at h'
    have g1 := of_decide_eq_true h'.1
    have g2 := of_decide_eq_true h'.2
    have hl : ds.length = 2 := by omega
    obtain ⟨a1, b1, rfl⟩ := two_of hl
    cases a with
    | cons h1 r =>
      cases r with
      | cons h2 r =>
        cases r
        exact ⟨p, _, _, a1, b1, rfl, rfl, hs, h1, h2⟩
theorem isT_of {K : PySem.W.Frag} {H : Hp} {v : V} {d : PyData} (hd : Dp K H v d) (h : isTB d = true) : ∃ p xs ds, v = .ref p ∧ d = .tuple ds ∧ SqT K H p xs ∧ DpAll K H xs ds := by
  cases hd with
  | non => cases h
  | bl b => cases h
  | int i => cases h
  | str z => cases h
  | lst _ _ => cases h
  | tup hs a => exact ⟨_, _, _, rfl, rfl, hs, a⟩
theorem tupB_isT {lo hi : Int} {d : PyData} (h : tupB lo hi d = true) : isTB d = true := by
  cases d <;> first | rfl | cases h
def strName (d : PyData) : Bool := tupB 2 2 d && isSB (fstD d)
theorem getD_of {α : Type} {l : List α} {i : Nat} {a d : α} (h : l[i]? = some a) : l.getD i d = a := by
  rw [List.getD_eq_getElem?_getD, h]; rfl
theorem all_imp {R S : PyData → Bool} {ds : List PyData} (h : ds.all R = true) (i : ∀ d, R d = true → S d = true) : ds.all S = true :=
  List.all_eq_true.mpr fun d hd => i d (List.all_eq_true.mp h d hd)
theorem takeWhile_full {α : Type} (p : α → Bool) : ∀ l : List α, l.all p = true → l.takeWhile p = l
  | [], _ => rfl
  | a :: r, h => by
    rw [List.all_cons, Bool.and_eq_true] at h
    rw [List.takeWhile_cons, if_pos h.1, takeWhile_full p r h.2]
theorem takeWhile_short {α : Type} (p : α → Bool) : ∀ l : List α, (l.takeWhile p).length = l.length → l.all p = true
  | [], _ => rfl
  | a :: r, h => by
    rw [List.takeWhile_cons] at h
    by_cases ha : p a = true
    · rw [if_pos ha, List.length_cons, List.length_cons] at h
      rw [List.all_cons, ha, takeWhile_short p r (by omega)]; rfl
    · rw [if_neg ha] at h
      simp at h
theorem takeWhile_le {α : Type} (p : α → Bool) : ∀ l : List α, (l.takeWhile p).length ≤ l.length
  | [] => Nat.le_refl 0
  | a :: r => by
    rw [List.takeWhile_cons]
    split
    · rw [List.length_cons, List.length_cons]
      exact Nat.succ_le_succ (takeWhile_le p r)
    · exact Nat.zero_le _
theorem takeWhile_next {α : Type} (p : α → Bool) : ∀ (l : List α), (l.takeWhile p).length < l.length → ∃ a r, l.drop (l.takeWhile p).length = a :: r ∧ p a = false
  | [], h => by simp at h
  | a :: r, h => by
    rw [List.takeWhile_cons] at h ⊢
    by_cases ha : p a = true
    · rw [if_pos ha, List.length_cons, List.length_cons] at h
      rw [if_pos ha, List.length_cons, List.drop_succ_cons]
      exact takeWhile_next p r (by omega)
    · rw [if_neg ha]
      exact ⟨a, r, rfl, by simpa using ha⟩
/-- nothing is left of a text just where all its signs are among those stripped -/
theorem strip_empty (z y : Str) : Txt.stripChars z y = Str.ofString "" ↔ (cl z).all y.cps.contains = true := by
  have e0 : cl (Str.ofString "") = [] := rfl
  unfold Txt.stripChars
  rw [stripBy_eq]
  generalize y.cps.contains = p
  have cs : ∀ i j, cl (Builtin.Str.strSub z i j) = ((cl z).drop i).take (j - i) := fun i j => StrLaws.strSub_toList ..
  have lo : stripLo p true z = ((cl z).takeWhile p).length := rfl
  constructor
  · intro h
    have h1 := congrArg cl h
    rw [cs, e0, lo] at h1
    have h2 := congrArg List.length h1
    rw [List.length_take, List.length_drop, List.length_nil] at h2
    by_cases hlt : ((cl z).takeWhile p).length < (cl z).length
    · exfalso
      obtain ⟨a, r, hd, hp⟩ := takeWhile_next p _ hlt
      have hi : stripHi p true z ((cl z).takeWhile p).length = z.length - (((cl z).drop ((cl z).takeWhile p).length).reverse.takeWhile p).length := rfl
      rw [hi] at h2
      have hle : (((cl z).drop ((cl z).takeWhile p).length).reverse.takeWhile p).length < ((cl z).drop ((cl z).takeWhile p).length).length := by
        have g := takeWhile_le p ((cl z).drop ((cl z).takeWhile p).length).reverse
        rw [List.length_reverse] at g
        refine Nat.lt_of_le_of_ne g fun e => ?_
        have g2 := takeWhile_short p ((cl z).drop ((cl z).takeWhile p).length).reverse (by rw [List.length_reverse]; exact e)
        rw [List.all_reverse, hd, List.all_cons, hp] at g2
        cases g2
      rw [List.length_drop] at hle
      have el : z.length = (cl z).length := rfl
      omega
    · exact takeWhile_short p _ (by have := takeWhile_le p (cl z); omega)
  · intro h
    refine cl_inj ?_
    rw [cs, e0, lo, takeWhile_full p _ h, List.drop_length, List.take_nil]
theorem abc_low (c : Nat) : abc.cps.contains c = lowB c := by
  rw [Array.contains_eq_mem]
  unfold lowB
  have h : (c ∈ abc.cps) ↔ (97 ≤ c ∧ c ≤ 122) := by
    rw [← Array.mem_toList_iff]
    show c ∈ cl abc ↔ _
    rw [abc_cl, List.mem_map]
    constructor
    · rintro ⟨a, ha, rfl⟩
      have := List.mem_range.mp ha
      omega
    · intro ⟨h1, h2⟩
      exact ⟨c - 97, List.mem_range.mpr (by omega), by omega⟩
  by_cases h1 : c ∈ abc.cps
  · have h2 := h.mp h1
    rw [decide_eq_true h1, decide_eq_true h2.1, decide_eq_true h2.2]; rfl
  · rw [decide_eq_false h1]
    by_cases h3 : 97 ≤ c
    · rw [decide_eq_true h3, decide_eq_false (fun h4 => h1 (h.mpr ⟨h3, h4⟩))]; rfl
    · rw [decide_eq_false h3]; rfl
theorem strip_name (z : Str) : decide (Txt.stripChars z abc = Str.ofString "") = (cl z).all lowB := by
  have e : abc.cps.contains = lowB := funext abc_low
  have h := strip_empty z abc
  rw [e] at h
  cases g : (cl z).all lowB with
  | true => exact decide_eq_true (h.mpr g)
  | false => exact decide_eq_false fun q => by rw [h.mp q] at g; cases g
theorem nameB_ok {z : Str} (h : nameB (.str z) = true) : NameOk z := by
  have h' : ((decide (1 ≤ z.length) && decide (z.length ≤ 8)) && (cl z).all lowB) = true := h
  simp only [Bool.and_eq_true, decide_eq_true_eq, List.all_eq_true] at h'
  refine ⟨h'.1.1, h'.1.2, fun c hc => ?_⟩
  have := h'.2 c hc
  unfold lowB at this
  simp only [Bool.and_eq_true, decide_eq_true_eq] at this
  exact this
theorem dp_strs {K : PySem.W.Frag} {H : Hp} : ∀ zs : List Str, DpAll K H (zs.map V.str) (zs.map PyData.str)
  | [] => .nil
  | z :: zs => .cons (.str z) (dp_strs zs)
theorem lay_strs : ∀ zs : List Str, (∀ z ∈ zs, NameOk z) → PyData.canLayAll0 (zs.map PyData.str) = true ∧ PyData.depthAll (zs.map PyData.str) = 0
  | [], _ => ⟨rfl, rfl⟩
  | z :: zs, h => by
    obtain ⟨h1, h2⟩ := lay_strs zs fun y hy => h y (List.mem_cons_of_mem _ hy)
    constructor
    · show (PyData.strOk z && PyData.canLayAll0 (zs.map PyData.str)) = true
      rw [strOk_name (h z (List.mem_cons_self ..)), h1]; rfl
    · show max 0 (PyData.depthAll (zs.map PyData.str)) = 0
      rw [h2]; rfl
theorem shaped_strs {zs : List Str} (h : ∀ z ∈ zs, NameOk z) : SeqAt.shaped (.list (zs.map PyData.str)) = true := by
  obtain ⟨h1, h2⟩ := lay_strs zs h
  show (PyData.canLayAll0 (zs.map PyData.str) && decide (PyData.depthAll (zs.map PyData.str) + 1 ≤ 64)) = true
  rw [h1, h2]; rfl
theorem name_at {K : PySem.W.Frag} {H : Hp} {x : V} {a : PyData} (h : Dp K H x a) (hn : nameB a = true) : ∃ z, a = .str z ∧ x = .str z ∧ NameOk z := by
  cases h with
  | str z => exact ⟨z, rfl, rfl, nameB_ok hn⟩
  | non => cases hn
  | bl b => cases hn
  | int i => cases hn
  | lst _ _ => cases hn
  | tup _ _ => cases hn
/-- what may be shown whole -/
structure Shows (d : PyData) : Prop where
  sh : d.showable = true
  nd : d.hasDict = false
  dp : d.depth ≤ 60
  sz : d.shown.length ≤ sizeLine
end TT

set_option Elab.async false
set_option linter.all false
set_option maxRecDepth 100000
namespace TT
open PySem PySem.Spec PyProof.Rows L2
/-! ### sizes of data: bounds of its ints, of its lists' lengths, of all its signs -/
mutual
def Nice (B L : Nat) : PyData → Prop
  | .none | .bool _ => True
  | .int i => i.natAbs ≤ B
  | .str z => ∀ c ∈ cl z, c < 128
  | .list ds | .tuple ds => ds.length ≤ L ∧ NiceAll B L ds
  | .dict _ => False
def NiceAll (B L : Nat) : List PyData → Prop
  | [] => True
  | d :: ds => Nice B L d ∧ NiceAll B L ds
end
mutual
def wt : PyData → Nat
  | .none => 4
  | .bool _ => 5
  | .int _ => 25
  | .str z => 10 * z.length + 12
  | .list ds | .tuple ds => 6 + wtAll ds
  | .dict _ => 0
def wtAll : List PyData → Nat
  | [] => 0
  | d :: ds => wt d + 3 + wtAll ds
end
theorem niceAll_iff {B L : Nat} : ∀ {ds : List PyData}, NiceAll B L ds ↔ ∀ d ∈ ds, Nice B L d
  | [] => ⟨fun _ _ h => absurd h List.not_mem_nil, fun _ => trivial⟩
  | d :: ds => by
    constructor
    · intro h e he
      rcases List.mem_cons.mp he with rfl | he
      · exact h.1
      · exact niceAll_iff.mp h.2 e he
    · intro h
      exact ⟨h d (List.mem_cons_self ..), niceAll_iff.mpr fun e he => h e (List.mem_cons_of_mem _ he)⟩
mutual
theorem Nice.mono {B B' L L' : Nat} (hB : B ≤ B') (hL : L ≤ L') : ∀ {d : PyData}, Nice B L d → Nice B' L' d
  | .none, _ => trivial
  | .bool _, _ => trivial
  | .int i, h => Nat.le_trans (show i.natAbs ≤ B from h) hB
  | .str _, h => h
  | .list ds, h => ⟨Nat.le_trans h.1 hL, NiceAll.mono hB hL h.2⟩
  | .tuple ds, h => ⟨Nat.le_trans h.1 hL, NiceAll.mono hB hL h.2⟩
  | .dict _, h => h
theorem NiceAll.mono {B B' L L' : Nat} (hB : B ≤ B') (hL : L ≤ L') : ∀ {ds : List PyData}, NiceAll B L ds → NiceAll B' L' ds
  | [], _ => trivial
  | d :: ds, h => ⟨Nice.mono hB hL h.1, NiceAll.mono hB hL h.2⟩
end
theorem wtAll_app : ∀ (ds es : List PyData), wtAll (ds ++ es) = wtAll ds + wtAll es
  | [], es => by simp [wtAll]
  | d :: ds, es => by
    show wt d + 3 + wtAll (ds ++ es) = wt d + 3 + wtAll ds + wtAll es
    rw [wtAll_app ds es]; omega
theorem wtAll_len : ∀ ds : List PyData, ds.length ≤ wtAll ds
  | [] => Nat.zero_le _
  | d :: ds => by
    have := wtAll_len ds
    show ds.length + 1 ≤ wt d + 3 + wtAll ds
    omega
theorem wt_mem : ∀ {ds : List PyData} {d : PyData}, d ∈ ds → wt d + 3 ≤ wtAll ds
  | e :: ds, d, h => by
    show wt d + 3 ≤ wt e + 3 + wtAll ds
    rcases List.mem_cons.mp h with rfl | h
    · omega
    · have := wt_mem h; omega
theorem depth_mem : ∀ {ds : List PyData} {d : PyData}, d ∈ ds → d.depth ≤ PyData.depthAll ds
  | e :: ds, d, h => by
    show d.depth ≤ max e.depth (PyData.depthAll ds)
    rcases List.mem_cons.mp h with rfl | h
    · exact Nat.le_max_left _ _
    · exact Nat.le_trans (depth_mem h) (Nat.le_max_right _ _)
theorem depthAll_le {n : Nat} : ∀ {ds : List PyData}, (∀ d ∈ ds, d.depth ≤ n) → PyData.depthAll ds ≤ n
  | [], _ => Nat.zero_le _
  | d :: ds, h => Nat.max_le.mpr ⟨h d (List.mem_cons_self ..), depthAll_le fun e he => h e (List.mem_cons_of_mem _ he)⟩
mutual
theorem fit_nice {B L : Nat} (hL : L ≤ 900) : ∀ {d : PyData}, Nice B L d → wt d ≤ 100000 → Fit d
  | .none, _, _ => trivial
  | .bool _, _, _ => trivial
  | .int _, _, _ => trivial
  | .str z, _, h => by
    show z.length ≤ 10000
    have h' : 10 * z.length + 12 ≤ 100000 := h
    omega
  | .list ds, h, hw => ⟨Nat.le_trans h.1 hL, fitAll_nice hL h.2 (by have : 6 + wtAll ds ≤ 100000 := hw; omega)⟩
  | .tuple ds, h, hw => ⟨Nat.le_trans h.1 hL, fitAll_nice hL h.2 (by have : 6 + wtAll ds ≤ 100000 := hw; omega)⟩
  | .dict _, h, _ => h.elim
theorem fitAll_nice {B L : Nat} (hL : L ≤ 900) : ∀ {ds : List PyData}, NiceAll B L ds → wtAll ds ≤ 100000 → FitAll ds
  | [], _, _ => trivial
  | d :: ds, h, hw => by
    have hw' : wt d + 3 + wtAll ds ≤ 100000 := hw
    exact ⟨fit_nice hL h.1 (by omega), fitAll_nice hL h.2 (by omega)⟩
end
theorem int_len {i : Int} (h : i.natAbs ≤ 10 ^ 20) : (Str.ofString (toString i)).length ≤ 22 := by
  by_cases h0 : 0 ≤ i
  · exact Nat.le_trans (toString_length_le (v := i) (k := 21) h0 (by decide) (by omega)) (by decide)
  · have g := len_text_negI (n := i) (by omega)
    have g2 := toString_length_le (v := 0 - i) (k := 21) (by omega) (by decide) (by omega)
    omega
theorem list_len (ts : List Str) : (listText ts).length ≤ piled ts + 4 := by
  unfold listText
  rw [str_len_app]
  cases ts with
  | nil => decide +kernel
  | cons t r =>
    have e : (textFrom 0 "[" (t :: r)).length ≤ piled (t :: r) + 3 := by
      show (textFrom 1 (_ ++ t) r).length ≤ _
      rw [textFrom_length_pos _ _ _ (by decide), str_len_app, piled_cons]
      have : (Str.ofString "[" ++ Str.ofString (if 0 > 0 then ", " else "")).length = 1 := by decide +kernel
      omega
    have : (Str.ofString "]").length = 1 := by decide +kernel
    omega
theorem tup_len (ts : List Str) : (tupleText ts).length ≤ piled ts + 4 := by
  have e1 : (Str.ofString "(").length = 1 := by decide +kernel
  have e3 : (Str.ofString (if ts.length == 1 then ",)" else ")" : String)).length ≤ 2 := by split <;> decide +kernel
  unfold tupleText
  rw [str_len_app, str_len_app]
  by_cases h : ts = []
  · subst h
    decide +kernel
  · have := join_length_add ts h
    omega
mutual
theorem shown_len {B L : Nat} (hB : B ≤ 10 ^ 20) : ∀ {d : PyData}, Nice B L d → d.shown.length ≤ wt d
  | .none, _ => by decide +kernel
  | .bool b, _ => by cases b <;> decide +kernel
  | .int i, h => Nat.le_trans (int_len (Nat.le_trans (show i.natAbs ≤ B from h) hB)) (by show 22 ≤ 25; decide)
  | .str z, h => by
    show (reprText z).length ≤ 10 * z.length + 12
    have := StrLaws.reprText_len z fun c hc => Nat.lt_of_lt_of_le (h c hc) (by decide)
    omega
  | .list ds, h => by
    show (listText (PyData.shownAll ds)).length ≤ 6 + wtAll ds
    have g1 := list_len (PyData.shownAll ds)
    have g2 := shownAll_len hB h.2
    omega
  | .tuple ds, h => by
    show (tupleText (PyData.shownAll ds)).length ≤ 6 + wtAll ds
    have g1 := tup_len (PyData.shownAll ds)
    have g2 := shownAll_len hB h.2
    omega
  | .dict _, h => h.elim
theorem shownAll_len {B L : Nat} (hB : B ≤ 10 ^ 20) : ∀ {ds : List PyData}, NiceAll B L ds → piled (PyData.shownAll ds) ≤ wtAll ds
  | [], _ => Nat.le_refl _
  | d :: ds, h => by
    show piled (d.shown :: PyData.shownAll ds) ≤ wt d + 3 + wtAll ds
    rw [piled_cons]
    have g1 := shown_len hB h.1
    have g2 := shownAll_len hB h.2
    omega
end
mutual
theorem showable_nice {B L : Nat} (hB : B ≤ 10 ^ 20) : ∀ {d : PyData}, Nice B L d → d.showable = true ∧ d.hasDict = false
  | .none, _ => ⟨rfl, rfl⟩
  | .bool _, _ => ⟨rfl, rfl⟩
  | .int i, h => ⟨decide_eq_true (Nat.lt_of_lt_of_le (PySem.Flt.log2_lt_of (k := 70) (by decide) (Nat.lt_of_le_of_lt (Nat.le_trans (show i.natAbs ≤ B from h) hB) (by decide))) (by decide)), rfl⟩
  | .str _, _ => ⟨rfl, rfl⟩
  | .list ds, h => showableAll_nice hB h.2
  | .tuple ds, h => showableAll_nice hB h.2
  | .dict _, h => h.elim
theorem showableAll_nice {B L : Nat} (hB : B ≤ 10 ^ 20) : ∀ {ds : List PyData}, NiceAll B L ds → PyData.showableAll ds = true ∧ PyData.hasDictAll ds = false
  | [], _ => ⟨rfl, rfl⟩
  | d :: ds, h => by
    obtain ⟨a1, a2⟩ := showable_nice hB h.1
    obtain ⟨b1, b2⟩ := showableAll_nice hB h.2
    constructor
    · show (d.showable && PyData.showableAll ds) = true
      rw [a1, b1]; rfl
    · show (d.hasDict || PyData.hasDictAll ds) = false
      rw [a2, b2]; rfl
end
theorem shows_nice {B L : Nat} {d : PyData} (h : Nice B L d) (hB : B ≤ 10 ^ 20) (hd : d.depth ≤ 60) (hw : wt d ≤ 100000) : Shows d :=
  ⟨(showable_nice hB h).1, (showable_nice hB h).2, hd, Nat.le_trans (shown_len hB h) (Nat.le_trans hw (by decide))⟩
/-! ### numbers that may be truths -/
inductive NumV : V → Int → Prop
  | int (i : Int) : NumV (.int i) i
  | bl (b : Bool) : NumV (.bl b) (if b = true then 1 else 0)
section
variable {X : Cx}
theorem op_addN : OpR X (binaryOp .Add) (fun x y H Q => ∃ i j, NumV x i ∧ y = .int j ∧ Q (.int (i + j)) H) := by
  intro pins s σ H x y v u Q I rx ry h
  obtain ⟨i, j, n, rfl, q⟩ := h
  obtain ⟨t, rfl⟩ := ry
  cases n with
  | int i => exact op_add pins s σ H (.int i) (.int j) v _ Q I rx ⟨t, rfl⟩ ⟨i, j, rfl, rfl, q⟩
  | bl b => cases rx; exact IntBool.add_bool_int ⟨.int _, H, I.tok _, ⟨_, rfl⟩, q⟩
theorem op_subN : OpR X (binaryOp .Sub) (fun x y H Q => ∃ i j, NumV x i ∧ y = .int j ∧ Q (.int (i - j)) H) := by
  intro pins s σ H x y v u Q I rx ry h
  obtain ⟨i, j, n, rfl, q⟩ := h
  obtain ⟨t, rfl⟩ := ry
  cases n with
  | int i => exact op_sub pins s σ H (.int i) (.int j) v _ Q I rx ⟨t, rfl⟩ ⟨i, j, rfl, rfl, q⟩
  | bl b => cases rx; exact IntBool.sub_bool_int ⟨.int _, H, I.tok _, ⟨_, rfl⟩, q⟩
theorem op_subIN : OpR X (binaryOp .Sub) (fun x y H Q => ∃ i j, x = .int i ∧ NumV y j ∧ Q (.int (i - j)) H) := by
  intro pins s σ H x y v u Q I rx ry h
  obtain ⟨i, j, rfl, n, q⟩ := h
  obtain ⟨t, rfl⟩ := rx
  cases n with
  | int j => exact op_sub pins s σ H (.int i) (.int j) _ u Q I ⟨t, rfl⟩ ry ⟨i, j, rfl, rfl, q⟩
  | bl b => cases ry; exact IntBool.sub_int_bool ⟨.int _, H, I.tok _, ⟨_, rfl⟩, q⟩
/-- str of such -/
def numText : V → Str
  | .int i => Str.ofString (toString i)
  | .bl b => if b = true then Str.ofString "True" else Str.ofString "False"
  | _ => Str.empty
theorem call_str_num : CallR X (.type "str") (fun xs H Q => ∃ x i, xs = [x] ∧ NumV x i ∧ i.natAbs.log2 < 1920 ∧ Q (.str (numText x)) H) := by
  intro pins s σ H xs us Q I r h
  obtain ⟨x, i, rfl, n, hi, q⟩ := h
  cases n with
  | int i => exact call_str_int pins s σ H _ us Q I r ⟨i, rfl, hi, q⟩
  | bl b =>
    obtain ⟨u, rfl, rx⟩ := vals1 r
    cases rx
    exact P.str_of_bool ⟨.str _, H, I.tok _, ⟨_, rfl⟩, q⟩
end
end TT

set_option Elab.async false
set_option linter.all false
set_option maxRecDepth 100000
namespace TT
open PySem PySem.Spec PyProof.Rows L2
/-! ### what may be put in another's place -/
structure Good (B W : Nat) (e : PyData) : Prop where
  nice : Nice B 1 e
  wt : wt e ≤ W
  dep : e.depth ≤ 1
theorem msk_at {M : List Addr} {H : Hp} {p : Addr} {o : HO} (h : H p = some o) (n : p ∉ M) : msk M H p = some o := by
  unfold msk
  rw [if_neg n]
  exact h
/-- a mask over the state of the draws and more, all of it there -/
structure Mask (M : List Addr) (H : Hp) (s c : Addr) : Prop where
  sc : ∀ p ∈ [s, c], p ∈ M
  tr : ∀ p ∈ M, H p ≠ none
theorem Mask.new {M : List Addr} {H : Hp} {s c p : Addr} (h : Mask M H s c) (n : H p = none) : p ∉ M := fun z => h.tr p z n
theorem Mask.up {M : List Addr} {H : Hp} {s c p : Addr} {o : HO} (h : Mask M H s c) : Mask M (upd H p o) s c := ⟨h.sc, fun b hb => by
  unfold upd
  split
  · exact fun z => nomatch z
  · exact h.tr b hb⟩
theorem Mask.kept {M : List Addr} {H H' : Hp} {s c : Addr} {T : Nat} (h : Mask M H s c) (k : Kept [s, c] H H') (S : StAt H' s c T) : Mask M H' s c := ⟨h.sc, fun b hb z => by
  by_cases hm : b ∈ [s, c]
  · simp only [List.mem_cons, List.not_mem_nil, or_false] at hm
    rcases hm with rfl | rfl
    · obtain ⟨t, _, e⟩ := S.ex
      rw [z] at e; cases e
    · obtain ⟨ns, _, _, e⟩ := S.cs
      rw [z] at e; cases e
  · cases e : H b with
    | none => exact h.tr b hb e
    | some o =>
      have := k b o e hm
      rw [z] at this; cases this⟩
theorem Mask.same {M : List Addr} {H H' : Hp} {s c : Addr} (h : Mask M H s c) (k : Kept [s, c] H H') : Same (msk M H) (msk M H') := msk_same (k.mono h.sc)
/-- a list of such, at an address of its own -/
structure Bag (K : PySem.W.Frag) (M : List Addr) (s c : Addr) (T B W : Nat) (H0 H : Hp) (L : Addr) (vs : List V) (ds : List PyData) : Prop where
  at' : H L = some (.lst vs)
  dp : DpAll K (msk M H) vs ds
  good : ∀ e ∈ ds, Good B W e
  kept : Kept [s, c] H0 H
  st : StAt H s c T
  out : L ∉ M
  mask : Mask M H s c
section
variable {K : PySem.W.Frag} {M : List Addr} {s c L L' p : Addr} {T B W : Nat} {H0 H : Hp} {vs us : List V} {ds es : List PyData} {o : HO}
theorem Bag.up (b : Bag K M s c T B W H0 H L vs ds) (n : H p = none) : Bag K M s c T B W H0 (upd H p o) L vs ds :=
  ⟨by rw [upd_ne (ne_of_none b.at' n)]; exact b.at', dpAll_same (msk_same (Kept.upd_new n)) b.dp, b.good, b.kept.trans (Kept.upd_new n), b.st.upd_new n, b.out, b.mask.up⟩
theorem Bag.mk' (dp : DpAll K (msk M H) vs ds) (good : ∀ e ∈ ds, Good B W e) (kept : Kept [s, c] H0 H) (S : StAt H s c T) (hM : Mask M H s c) (n : H L = none) : Bag K M s c T B W H0 (upd H L (.lst vs)) L vs ds :=
  ⟨upd_same, dpAll_same (msk_same (Kept.upd_new n)) dp, good, kept.trans (Kept.upd_new n), S.upd_new n, hM.new n, hM.up⟩
theorem Bag.cat (a : Bag K M s c T B W H0 H L vs ds) (b : Bag K M s c T B W H0 H L' us es) (n : H p = none) : Bag K M s c T B W H0 (upd H p (.lst (vs ++ us))) p (vs ++ us) (ds ++ es) :=
  Bag.mk' (dpAll_app a.dp b.dp) (fun e he => (List.mem_append.mp he).elim (a.good e) (b.good e)) a.kept a.st a.mask n
theorem dp_tup_new {v : List V} {d : List PyData} (hM : Mask M H s c) (n : H p = none) (h : DpAll K (msk M H) v d) : Dp K (msk M (upd H p (.tup v))) (.ref p) (.tuple d) :=
  .tup (.inl (.inl (msk_at upd_same (hM.new n)))) (dpAll_same (msk_same (Kept.upd_new n)) h)
theorem dp_lst_new {v : List V} {d : List PyData} (hM : Mask M H s c) (n : H p = none) (h : DpAll K (msk M H) v d) : Dp K (msk M (upd H p (.lst v))) (.ref p) (.list d) :=
  .lst (.inl (.inl (msk_at upd_same (hM.new n)))) (dpAll_same (msk_same (Kept.upd_new n)) h)
theorem dp_up {v : V} {d : PyData} (n : H p = none) (h : Dp K (msk M H) v d) : Dp K (msk M (upd H p o)) v d := dp_same (msk_same (Kept.upd_new n)) h
end
def ascB (z : Str) : Bool := (cl z).all (fun c => decide (c < 128)) && decide (z.length ≤ 10)
theorem asc_of {z : Str} (h : ascB z = true) {B W : Nat} (hW : 112 ≤ W) : Good B W (.str z) := by
  unfold ascB at h
  simp only [Bool.and_eq_true, List.all_eq_true, decide_eq_true_eq] at h
  exact ⟨h.1, by show 10 * z.length + 12 ≤ W; omega, Nat.zero_le _⟩
theorem int_of {i : Int} {B W : Nat} (h : i.natAbs ≤ B) (hW : 112 ≤ W) : Good B W (.int i) := ⟨h, by show 25 ≤ W; omega, Nat.zero_le _⟩
theorem good_one {B W : Nat} {e : PyData} (h : Nice B 1 e) (hd : e.depth = 0) (hw : wt e + 9 ≤ W) : Good B W (.tuple [e]) ∧ Good B W (.list [e]) := by
  have g : 6 + (wt e + 3 + 0) ≤ W := by omega
  have d1 : max e.depth 0 + 1 ≤ 1 := by rw [hd]; decide
  exact ⟨⟨⟨Nat.le_refl 1, h, trivial⟩, g, d1⟩, ⟨⟨Nat.le_refl 1, h, trivial⟩, g, d1⟩⟩
theorem name_asc {z : Str} (h : NameOk z) {B W : Nat} (hW : 112 ≤ W) : Good B W (.str z) := by
  have l : z.length ≤ 8 := h.top
  exact ⟨fun c hc => by have := h.low c hc; unfold low at this; omega, by show 10 * z.length + 12 ≤ W; omega, Nat.zero_le _⟩
/-- the first fifteen -/
def first15V (t1 l1 t2 : Addr) : List V := [.non, .bl true, .bl false, .str "", .str "a1", .str "Ab", .str "abcdefghi", .str "a b", .ref t1, .ref l1, .ref t2, .int 0, .int (-1), .int (10 ^ (9 : Int).toNat), .str "none"]
def first15D : List PyData := [.none, .bool true, .bool false, .str "", .str "a1", .str "Ab", .str "abcdefghi", .str "a b", .tuple [], .list [], .tuple [.int 0], .int 0, .int (-1), .int (10 ^ (9 : Int).toNat), .str "none"]
theorem first15_good {B W : Nat} (hB : 2000000000 ≤ B) (hW : 200 ≤ W) : ∀ e ∈ first15D, Good B W e := by
  have e9 : (10 : Int) ^ (9 : Int).toNat = 1000000000 := by decide
  intro e he
  unfold first15D at he
  simp only [List.mem_cons, List.not_mem_nil, or_false] at he
  rcases he with rfl | rfl | rfl | rfl | rfl | rfl | rfl | rfl | rfl | rfl | rfl | rfl | rfl | rfl | rfl
  · exact ⟨trivial, by show 4 ≤ W; omega, Nat.zero_le _⟩
  · exact ⟨trivial, by show 5 ≤ W; omega, Nat.zero_le _⟩
  · exact ⟨trivial, by show 5 ≤ W; omega, Nat.zero_le _⟩
  · exact asc_of (by decide +kernel) (by omega)
  · exact asc_of (by decide +kernel) (by omega)
  · exact asc_of (by decide +kernel) (by omega)
  · exact asc_of (by decide +kernel) (by omega)
  · exact asc_of (by decide +kernel) (by omega)
  · exact ⟨⟨Nat.zero_le _, trivial⟩, by show 6 ≤ W; omega, Nat.le_refl _⟩
  · exact ⟨⟨Nat.zero_le _, trivial⟩, by show 6 ≤ W; omega, Nat.le_refl _⟩
  · exact (good_one (e := .int 0) (Nat.zero_le _) rfl (by show 34 ≤ W; omega)).1
  · exact int_of (Nat.zero_le _) (by omega)
  · exact int_of (by show 1 ≤ B; omega) (by omega)
  · exact int_of (by rw [e9]; show 1000000000 ≤ B; omega) (by omega)
  · exact asc_of (by decide +kernel) (by omega)
theorem upper_asc {z : Str} (h : ∀ c ∈ cl z, c < 128) : (∀ c ∈ cl (Txt.upper z), c < 128) ∧ (Txt.upper z).length = z.length := by
  rw [upper_ascii h]
  constructor
  · intro c hc
    have hc' : c ∈ (cl z).map up1 := by
      have e : cl (⟨z.cps.map up1⟩ : Str) = (cl z).map up1 := by
        show (z.cps.map up1).toList = z.cps.toList.map up1
        exact Array.toList_map
      rw [e] at hc; exact hc
    obtain ⟨a, ha, rfl⟩ := List.mem_map.mp hc'
    have := h a ha
    unfold up1
    split <;> omega
  · show (z.cps.map up1).size = z.cps.size
    exact Array.size_map
theorem cut_asc {z : Str} (h : ∀ c ∈ cl z, c < 128) (lo hi : Option Int) : (∀ c ∈ cl (cutS z lo hi), c < 128) ∧ (cutS z lo hi).length ≤ z.length := by
  constructor
  · intro c hc
    rw [cut_cl] at hc
    exact h c (List.mem_of_mem_drop (List.mem_of_mem_take hc))
  · rw [cl_len, cut_cl, List.length_take, List.length_drop]
    have : (cl z).length = z.length := rfl
    omega
theorem num_asc {v : V} {i : Int} (h : NumV v i) (hi : i.natAbs ≤ 10 ^ 20) : (∀ c ∈ cl (numText v), c < 128) ∧ (numText v).length ≤ 22 := by
  cases h with
  | bl b => cases b <;> exact ⟨by decide +kernel, by decide +kernel⟩
  | int i =>
    refine ⟨?_, int_len hi⟩
    have all : ∀ m : Nat, ∀ ch ∈ (toString (Int.ofNat m)).toList, ch.toNat < 128 := fun m ch hch => by
      have e1 := text_ofNat m
      rw [Str.ofString_eq_toList] at e1
      have e2 : (toString (Int.ofNat m)).toList.map Char.toNat = (Nat.toDigits 10 m).map Char.toNat := congrArg (fun z : Str => z.cps.toList) e1
      have hm : ch.toNat ∈ (Nat.toDigits 10 m).map Char.toNat := by rw [← e2]; exact List.mem_map.mpr ⟨ch, hch, rfl⟩
      obtain ⟨c2, h2, e3⟩ := List.mem_map.mp hm
      rw [← e3]
      have h3 := Nat.isDigit_of_mem_toDigits (by decide) (by decide) h2
      simp only [Char.isDigit, Bool.and_eq_true, decide_eq_true_eq] at h3
      have h4 : c2.val.toNat ≤ 57 := h3.2
      show c2.val.toNat < 128
      omega
    intro c hc
    have hc' : c ∈ (toString i).toList.map Char.toNat := by
      have e : cl (Str.ofString (toString i)) = (toString i).toList.map Char.toNat := by
        unfold cl
        rw [Str.ofString_eq_toList]
      rw [← e]; exact hc
    obtain ⟨ch, hch, rfl⟩ := List.mem_map.mp hc'
    by_cases h0 : 0 ≤ i
    · obtain ⟨m, rfl⟩ : ∃ m : Nat, i = Int.ofNat m := ⟨i.toNat, by show i = ((i.toNat : Nat) : Int); omega⟩
      exact all m ch hch
    · rw [toString_neg (by omega), String.toList_append] at hch
      obtain ⟨m, hm⟩ : ∃ m : Nat, 0 - i = Int.ofNat m := ⟨(0 - i).toNat, by show 0 - i = (((0 - i).toNat : Nat) : Int); omega⟩
      rcases List.mem_append.mp hch with h | h
      · have e : ("-" : String).toList = ['-'] := by decide
        rw [e] at h
        rw [List.mem_singleton.mp h]
        decide
      · rw [hm] at h
        exact all m ch h
/-! ### pieces of data -/
theorem dpAll_take {K : PySem.W.Frag} {H : Hp} : ∀ {ds : List PyData} {vs : List V} (n : Nat), DpAll K H vs ds → DpAll K H (vs.take n) (ds.take n)
  | _, _, 0, _ => .nil
  | _, _, _ + 1, .nil => .nil
  | _, _, n + 1, .cons h t => .cons h (dpAll_take n t)
theorem dpAll_drop {K : PySem.W.Frag} {H : Hp} : ∀ {ds : List PyData} {vs : List V} (n : Nat), DpAll K H vs ds → DpAll K H (vs.drop n) (ds.drop n)
  | _, _, 0, h => h
  | _, _, _ + 1, .nil => .nil
  | _, _, n + 1, .cons _ t => dpAll_drop n t
theorem dpAll_rev {K : PySem.W.Frag} {H : Hp} : ∀ {ds : List PyData} {vs : List V}, DpAll K H vs ds → DpAll K H vs.reverse ds.reverse
  | _, _, .nil => .nil
  | _, _, .cons h t => by
    rw [List.reverse_cons, List.reverse_cons]
    exact dpAll_snoc (dpAll_rev t) h
theorem dpAll_set {K : PySem.W.Frag} {H : Hp} {v : V} {d : PyData} (h : Dp K H v d) : ∀ {ds : List PyData} {vs : List V} (n : Nat), DpAll K H vs ds → DpAll K H (vs.set n v) (ds.set n d)
  | _, _, _, .nil => .nil
  | _, _, 0, .cons _ t => .cons h t
  | _, _, n + 1, .cons g t => .cons g (dpAll_set h n t)
theorem wtAll_rev : ∀ ds : List PyData, wtAll ds.reverse = wtAll ds
  | [] => rfl
  | d :: ds => by
    rw [List.reverse_cons, wtAll_app, wtAll_rev ds]
    show wtAll ds + (wt d + 3 + 0) = wt d + 3 + wtAll ds
    omega
theorem wtAll_cut (ds : List PyData) (n : Nat) : wtAll (ds.take n) + wtAll (ds.drop n) = wtAll ds := by
  rw [← wtAll_app, List.take_append_drop]
/-- what has become of a list's items -/
structure Pc (B L : Nat) (ds es : List PyData) : Prop where
  len : es.length ≤ L + 1
  mem : ∀ e ∈ es, Nice B (L + 1) e ∧ e.depth ≤ PyData.depthAll ds + 1
  wt : wtAll es ≤ 3 * wtAll ds + 2000
theorem pc_mem {B L : Nat} {ds : List PyData} (h : NiceAll B L ds) : ∀ e ∈ ds, Nice (B + 2000000000) (L + 1) e ∧ e.depth ≤ PyData.depthAll ds + 1 := fun e he =>
  ⟨(niceAll_iff.mp h e he).mono (by omega) (by omega), Nat.le_trans (depth_mem he) (Nat.le_succ _)⟩
/-- the things that are made of a container -/
structure Bt (B L : Nat) (d e : PyData) : Prop where
  nice : Nice (B + 2000000000) (L + 1) e
  wt : wt e ≤ 3 * wt d + 2000
  dep : e.depth ≤ d.depth + 1
theorem bt_good {B L : Nat} {d e : PyData} (h : Good (B + 2000000000) (wt d + 300) e) : Bt B L d e := ⟨h.nice.mono (Nat.le_refl _) (by omega), by have := h.wt; omega, by have := h.dep; omega⟩
theorem cutV_lo (xs : List V) (a : Nat) : cutV xs none (some (a : Int)) = xs.take a := by
  unfold cutV
  rw [HT.sIx_none, HT.sIx_nat, List.drop_zero, Nat.sub_zero]
  by_cases h : a ≤ xs.length
  · rw [Nat.min_eq_left h]
  · rw [Nat.min_eq_right (by omega), List.take_of_length_le (Nat.le_refl _), List.take_of_length_le (by omega)]
theorem cutV_hi (xs : List V) (a : Nat) : cutV xs (some (a : Int)) none = xs.drop a := by
  unfold cutV
  rw [HT.sIx_none, HT.sIx_nat]
  by_cases h : a ≤ xs.length
  · rw [Nat.min_eq_left h, List.take_of_length_le]
    rw [List.length_drop]; exact Nat.le_refl _
  · rw [Nat.min_eq_right (by omega), List.drop_length, List.drop_of_length_le (by omega)]
    simp
theorem cutV_mid (xs : List V) (a b : Nat) (h : a ≤ xs.length) : cutV xs (some (a : Int)) (some ((a : Int) + b)) = (xs.drop a).take b := by
  unfold cutV
  rw [show ((a : Int) + b) = ((a + b : Nat) : Int) by omega, HT.sIx_nat, HT.sIx_nat, Nat.min_eq_left h, List.take_eq_take_iff, List.length_drop]
  omega
/-- a container: a tuple or a list -/
theorem cont_of {K : PySem.W.Frag} {H : Hp} {v : V} {d : PyData} (hd : Dp K H v d) (h : (isTB d || isLB d) = true) : ∃ p xs ds, v = .ref p ∧ DpAll K H xs ds ∧ ((d = .tuple ds ∧ SqT K H p xs) ∨ (d = .list ds ∧ SqL K H p xs)) := by
  cases hd with
  | non => cases h
  | bl b => cases h
  | int i => cases h
  | str z => cases h
  | lst hs a => exact ⟨_, _, _, rfl, a, .inr ⟨rfl, hs⟩⟩
  | tup hs a => exact ⟨_, _, _, rfl, a, .inl ⟨rfl, hs⟩⟩
end TT

set_option Elab.async false
set_option linter.all false
set_option maxRecDepth 100000
namespace TT
open PySem PySem.Spec PyProof.Rows L2
/-! ### is some data among names -/
def inS (zs : List Str) : PyData → Bool
  | .str z => decide (z ∈ zs)
  | _ => false
theorem any_eqv (zs : List Str) (d : PyData) : (zs.map PyData.str).any (fun z => PyData.eqv z d) = inS zs d := by
  rw [List.any_map]
  cases d with
  | str z =>
    show zs.any (fun y => y == z) = decide (z ∈ zs)
    rw [Bool.eq_iff_iff]
    simp
  | none => exact List.any_eq_false.mpr fun x _ => by simp [Function.comp, PyData.eqv]
  | bool b => exact List.any_eq_false.mpr fun x _ => by simp [Function.comp, PyData.eqv]
  | int i => exact List.any_eq_false.mpr fun x _ => by simp [Function.comp, PyData.eqv]
  | list ds => exact List.any_eq_false.mpr fun x _ => by simp [Function.comp, PyData.eqv]
  | tuple ds => exact List.any_eq_false.mpr fun x _ => by simp [Function.comp, PyData.eqv]
  | dict ds => exact List.any_eq_false.mpr fun x _ => by simp [Function.comp, PyData.eqv]
def rInN (K : PySem.W.Frag) : R2 := fun x y H Q => ∃ (d : PyData) (zs : List Str) (p : Addr), y = .ref p ∧ Dp K H x d ∧ SeqAt.shaped d = true ∧ (SqL K H p (zs.map V.str) ∨ SqT K H p (zs.map V.str)) ∧ SeqAt.shaped (.list (zs.map PyData.str)) = true ∧ Q (.bl (inS zs d)) H
def rNinN (K : PySem.W.Frag) : R2 := fun x y H Q => ∃ (d : PyData) (zs : List Str) (p : Addr), y = .ref p ∧ Dp K H x d ∧ SeqAt.shaped d = true ∧ (SqL K H p (zs.map V.str) ∨ SqT K H p (zs.map V.str)) ∧ SeqAt.shaped (.list (zs.map PyData.str)) = true ∧ Q (.bl (!inS zs d)) H
section
variable {X : Cx}
theorem op_inN (hu : X.A.units + 65 < cLine) : OpR X (compareOp .In) (rInN X.K) := by
  intro pins s σ H x y v u Q I rx ry h
  obtain ⟨d, zs, p, rfl, hd, sd, he, se, q⟩ := h
  rw [← any_eqv] at q
  obtain ⟨as, r1⟩ := Dp.reads I d x v hd rx
  rcases he with he | he
  · obtain ⟨bs, r2⟩ := Dp.reads I (.list (zs.map PyData.str)) (.ref p) u (.lst he (dp_strs zs)) ry
    exact SeqAt.in_list_reads r2 r1 (SeqAt.canLay_of_shaped se) (SeqAt.canLay_of_shaped sd) (room_in_shaped sd hu) ⟨.bl _, H, I, rfl, q⟩
  · obtain ⟨bs, r2⟩ := Dp.reads I (.tuple (zs.map PyData.str)) (.ref p) u (.tup he (dp_strs zs)) ry
    exact SeqAt.in_tuple_reads r2 r1 (SeqAt.canLay_of_shaped se) (SeqAt.canLay_of_shaped sd) (room_in_shaped sd hu) ⟨.bl _, H, I, rfl, q⟩
theorem op_ninN (hu : X.A.units + 65 < cLine) : OpR X (compareOp .NotIn) (rNinN X.K) := by
  intro pins s σ H x y v u Q I rx ry h
  obtain ⟨d, zs, p, rfl, hd, sd, he, se, q⟩ := h
  rw [← any_eqv] at q
  obtain ⟨as, r1⟩ := Dp.reads I d x v hd rx
  rcases he with he | he
  · obtain ⟨bs, r2⟩ := Dp.reads I (.list (zs.map PyData.str)) (.ref p) u (.lst he (dp_strs zs)) ry
    exact SeqAt.notIn_list_reads r2 r1 (SeqAt.canLay_of_shaped se) (SeqAt.canLay_of_shaped sd) (room_in_shaped sd hu) ⟨.bl _, H, I, rfl, q⟩
  · obtain ⟨bs, r2⟩ := Dp.reads I (.tuple (zs.map PyData.str)) (.ref p) u (.tup he (dp_strs zs)) ry
    exact SeqAt.notIn_tuple_reads r2 r1 (SeqAt.canLay_of_shaped se) (SeqAt.canLay_of_shaped sd) (room_in_shaped sd hu) ⟨.bl _, H, I, rfl, q⟩
/-- a statement that is never come to -/
theorem ps_nv {st : Stmt} : PS X st (fun _ _ _ => False) := ⟨fun _ _ _ _ _ _ h => h.elim⟩
end
/-! ### sizes -/
mutual
theorem lay_nice {B L : Nat} : ∀ {d : PyData}, Nice B L d → d.canLay0 = true
  | .none, _ => rfl
  | .bool _, _ => rfl
  | .int _, _ => rfl
  | .str z, h => by
    show PyData.strOk z = true
    unfold PyData.strOk
    rw [Array.all_eq_true']
    intro x hx
    have := h x (by unfold cl; exact Array.mem_toList_iff.mpr hx)
    simp; omega
  | .list ds, h => layAll_nice h.2
  | .tuple ds, h => layAll_nice h.2
  | .dict _, h => h.elim
theorem layAll_nice {B L : Nat} : ∀ {ds : List PyData}, NiceAll B L ds → PyData.canLayAll0 ds = true
  | [], _ => rfl
  | d :: ds, h => by
    show (d.canLay0 && PyData.canLayAll0 ds) = true
    rw [lay_nice h.1, layAll_nice h.2]; rfl
end
theorem shaped_nice {B L : Nat} {d : PyData} (h : Nice B L d) (hd : d.depth ≤ 60) : SeqAt.shaped d = true := by
  unfold SeqAt.shaped
  rw [lay_nice h, decide_eq_true (show d.depth ≤ 64 by omega)]; rfl
theorem shaped_str {z : Str} (h : NameOk z) : SeqAt.shaped (.str z) = true := by
  show (PyData.strOk z && decide (0 ≤ 64)) = true
  rw [strOk_name h]; rfl
theorem shaped_mem {ds : List PyData} {d : PyData} (h : SeqAt.shaped (.tuple ds) = true) (m : d ∈ ds) : SeqAt.shaped d = true := by
  have h' : (PyData.canLayAll0 ds && decide (PyData.depthAll ds + 1 ≤ 64)) = true := h
  rw [Bool.and_eq_true, decide_eq_true_eq] at h'
  have hd := depth_mem m
  unfold SeqAt.shaped
  rw [decide_eq_true (show d.depth ≤ 64 by omega), Bool.and_true]
  have g : ∀ {l : List PyData}, PyData.canLayAll0 l = true → d ∈ l → d.canLay0 = true := by
    intro l
    induction l with
    | nil => intro _ m; cases m
    | cons e l ih =>
      intro h m
      have h2 : (e.canLay0 && PyData.canLayAll0 l) = true := h
      rw [Bool.and_eq_true] at h2
      rcases List.mem_cons.mp m with rfl | m
      · exact h2.1
      · exact ih h2.2 m
  exact g h'.1 m
/-! ### the tables handed along -/
structure Tabs (K : PySem.W.Frag) (H : Hp) (tp : Addr) (ts : List Tab) : Prop where
  dp : Dp K H (.ref tp) (.tuple (ts.map tabD))
  ok : TabsOk 5 ts
  l0 : 0 < ts.length
  l8 : ts.length ≤ 8
theorem Tabs.same {K : PySem.W.Frag} {H H' : Hp} {tp : Addr} {ts : List Tab} (h : Tabs K H tp ts) (s : Same H H') : Tabs K H' tp ts := ⟨dp_same s h.dp, h.ok, h.l0, h.l8⟩
theorem Tabs.parts {K : PySem.W.Frag} {H : Hp} {tp : Addr} {ts : List Tab} (h : Tabs K H tp ts) : ∃ xs, SqT K H tp xs ∧ DpAll K H xs (ts.map tabD) ∧ xs.length = ts.length := by
  cases h.dp with
  | tup h1 h2 => exact ⟨_, h1, h2, by rw [dpAll_len h2, List.length_map]⟩
/-- one of the tables, taken apart -/
theorem tab_at {K : PySem.W.Frag} {H : Hp} {xs : List V} {ts : List Tab} {i : Nat} {x : V} (h : DpAll K H xs (ts.map tabD)) (hx : xs[i]? = some x) : ∃ (t : Tab) (q pc : Addr) (ys : List V), ts[i]? = some t ∧ x = .ref q ∧ SqT K H q [.str t.1, .ref pc] ∧ SqT K H pc ys ∧ DpAll K H ys (t.2.map colD) := by
  obtain ⟨dd, h1, h2⟩ := dpAll_get i h hx
  rw [List.getElem?_map] at h1
  obtain ⟨t, ht, rfl⟩ := Option.map_eq_some_iff.mp h1
  cases h2 with
  | tup g1 g2 =>
    cases g2 with
    | cons g3 g4 =>
      cases g4 with
      | cons g5 g6 =>
        cases g6
        cases g3
        cases g5 with
        | tup k1 k2 => exact ⟨t, _, _, _, ht, rfl, g1, k1, k2⟩
theorem col_at {K : PySem.W.Frag} {H : Hp} {ys : List V} {cs : List Col} {i : Nat} {x : V} (h : DpAll K H ys (cs.map colD)) (hx : ys[i]? = some x) : ∃ (co : Col) (q : Addr) (y : V), cs[i]? = some co ∧ x = .ref q ∧ SqT K H q [.str co.1, y] := by
  obtain ⟨dd, h1, h2⟩ := dpAll_get i h hx
  rw [List.getElem?_map] at h1
  obtain ⟨co, hco, rfl⟩ := Option.map_eq_some_iff.mp h1
  cases h2 with
  | tup g1 g2 =>
    cases g2 with
    | cons g3 g4 =>
      cases g4 with
      | cons g5 g6 =>
        cases g6
        cases g3
        exact ⟨co, _, _, hco, rfl, g1⟩
abbrev tns (ts : List Tab) : List Str := ts.map (·.1)
def colsOf (ts : List Tab) (t : Str) : List Col := match ts.find? (fun x => x.1 == t) with
  | some x => x.2
  | none => []
abbrev cns (ts : List Tab) (t : Str) : List Str := (colsOf ts t).map (·.1)
theorem colsOf_mem {ts : List Tab} (nd : (ts.map (·.1)).Nodup) {x : Tab} (hx : x ∈ ts) : colsOf ts x.1 = x.2 := by
  unfold colsOf
  induction ts with
  | nil => cases hx
  | cons a r ih =>
    rw [List.map_cons, List.nodup_cons] at nd
    rw [List.find?_cons]
    by_cases e : a.1 = x.1
    · rw [show (a.1 == x.1) = true by simp [e]]
      rcases List.mem_cons.mp hx with h | h
      · rw [h]
      · exact absurd (List.mem_map.mpr ⟨x, h, e.symm⟩) nd.1
    · rw [show (a.1 == x.1) = false by simp [e]]
      rcases List.mem_cons.mp hx with h | h
      · exact absurd (by rw [h]) e
      · exact ih nd.2 h
theorem tns_len {ts : List Tab} : (tns ts).length = ts.length := List.length_map ..
theorem tab_of {ts : List Tab} (nd : (ts.map (·.1)).Nodup) {t : Str} (h : t ∈ tns ts) : ∃ x ∈ ts, x.1 = t ∧ colsOf ts t = x.2 := by
  obtain ⟨x, hx, rfl⟩ := List.mem_map.mp h
  exact ⟨x, hx, rfl, colsOf_mem nd hx⟩
end TT

set_option Elab.async false
set_option linter.all false
set_option maxRecDepth 100000
namespace TT
open PySem PySem.Spec PyProof.Rows L2
/-- len of a list or a tuple, named -/
def rLenQ (K : PySem.W.Frag) : List V → Hp → VK → Prop := fun xs H Q => ∃ p ys, xs = [V.ref p] ∧ (SqL K H p ys ∨ SqT K H p ys) ∧ Q (.int (ys.length : Int)) H
/-! ### a list that grows, its items beside what is masked -/
structure Grow (K : PySem.W.Frag) (M : List Addr) (H : Hp) (P : Addr) (vs : List V) (ds : List PyData) : Prop where
  at' : H P = some (.lst vs)
  dp : DpAll K (msk (P :: M) H) vs ds
section
variable {K : PySem.W.Frag} {M : List Addr} {H H' : Hp} {P : Addr} {vs : List V} {ds : List PyData} {v : V} {d : PyData} {o : HO} {s c : Addr}
theorem Grow.start : Grow K M (upd H P (.lst [])) P [] [] := ⟨upd_same, .nil⟩
theorem sub_push : ∀ p ∈ M, p ∈ P :: M := fun _ h => List.mem_cons_of_mem _ h
theorem Grow.kept (g : Grow K M H P vs ds) (k : Kept M H H') (n : P ∉ M) : Grow K M H' P vs ds := ⟨k.at g.at' n, dpAll_same (msk_same (k.mono sub_push)) g.dp⟩
theorem Grow.put (g : Grow K M H P vs ds) (h : Dp K (msk (P :: M) H) v d) : Grow K M (upd H P (.lst (vs ++ [v]))) P (vs ++ [v]) (ds ++ [d]) :=
  ⟨upd_same, dpAll_same (msk_same (Kept.upd_in (List.mem_cons_self ..))) (dpAll_snoc g.dp h)⟩
theorem Grow.done (g : Grow K M H P vs ds) (n : P ∉ M) : Dp K (msk M H) (.ref P) (.list ds) := .lst (.inl (.inl (msk_at g.at' n))) (dpAll_same (msk_less sub_push) g.dp)
theorem Grow.len (g : Grow K M H P vs ds) : vs.length = ds.length := dpAll_len g.dp
theorem Mask.push (h : Mask M H s c) : Mask (P :: M) (upd H P o) s c := ⟨fun p hp => List.mem_cons_of_mem _ (h.sc p hp), fun b hb => by
  rcases List.mem_cons.mp hb with rfl | hb
  · rw [upd_same]; exact fun z => nomatch z
  · exact h.up.tr b hb⟩
theorem Mask.pop (h : Mask (P :: M) H s c) (sc : ∀ p ∈ [s, c], p ∈ M) : Mask M H s c := ⟨sc, fun b hb => h.tr b (List.mem_cons_of_mem _ hb)⟩
theorem mask0 {T : Nat} (S : StAt H s c T) : Mask [s, c] H s c := ⟨fun _ h => h, fun b hb z => by
  simp only [List.mem_cons, List.not_mem_nil, or_false] at hb
  rcases hb with rfl | rfl
  · obtain ⟨t, _, e⟩ := S.ex
    rw [z] at e; cases e
  · obtain ⟨ns, _, _, e⟩ := S.cs
    rw [z] at e; cases e⟩
end
theorem dp_ws {K : PySem.W.Frag} {H : Hp} : ∀ r : List (Option Int), DpAll K H (r.map wV) (r.map wD)
  | [] => .nil
  | w :: r => .cons (dp_w w) (dp_ws r)
/-! ### contents as plain data -/
abbrev Rw := List (Option Int)
def rowD (r : Rw) : PyData := .tuple (r.map wD)
def rowsD (rs : List Rw) : PyData := .list (rs.map rowD)
def contD (ct : List (List Rw)) : PyData := .list (ct.map rowsD)
def keyW : Rw → Int
  | some k :: _ => k
  | _ => 0
/-- a row of so many columns -/
structure RwOk (n : Nat) (r : Rw) : Prop where
  len : r.length = n
  w : ∀ o ∈ r, WOk o
  key : ∃ k t, r = some k :: t
structure RwsOk (n : Nat) (rs : List Rw) : Prop where
  row : ∀ r ∈ rs, RwOk n r
  up : (rs.map keyW).Pairwise (· < ·)
structure ContOk (L : Nat) (ts : List Tab) (ct : List (List Rw)) : Prop where
  len : ct.length = ts.length
  rows : ∀ (i : Nat) (t : Tab) (rs : List Rw), ts[i]? = some t → ct[i]? = some rs → RwsOk t.2.length rs
  few : ∀ rs ∈ ct, rs.length ≤ L
theorem RwsOk.snoc {n : Nat} {rs : List Rw} {r : Rw} (h : RwsOk n rs) (hr : RwOk n r) (hk : ∀ x ∈ rs, keyW x < keyW r) : RwsOk n (rs ++ [r]) where
  row := fun x hx => by
    rcases List.mem_append.mp hx with h1 | h1
    · exact h.row x h1
    · rw [List.mem_singleton.mp h1]; exact hr
  up := by
    rw [List.map_append, List.pairwise_append]
    refine ⟨h.up, by simp, fun a ha b hb => ?_⟩
    obtain ⟨x, hx, rfl⟩ := List.mem_map.mp ha
    rw [List.map_singleton] at hb
    rw [List.mem_singleton.mp hb]
    exact hk x hx
section
variable {P : Program} {w : World} {K : PySem.W.Frag} {mg : Str → Option Value} {base : Heap}
def spNear : Sp := fun vs H Q _ => ∃ (s c : Addr) (T m : Nat) (low : Int), vs = [.ref s, .int low, .int m] ∧ StAt H s c T ∧ T + 5 ≤ 1000000 ∧ 0 < m ∧ m ≤ 1000 ∧ -900000000 ≤ low ∧ low ≤ 900000000 ∧
  ∀ (o : Option Int) (H' : Hp), WOk o → StAt H' s c (T + 5) → Kept [s, c] H H' → Q (wV o) H'
abbrev s_law_near : Stmt := topS 26
abbrev N_law_near : List Str := ["state", "low", "many", "way"]
theorem sc_law_near : FnScope N_law_near ["state", "low", "many"] (defScope s_law_near) := ⟨rfl, rfl, rfl, by decide +kernel, rfl, by decide +kernel, by decide +kernel⟩

theorem ok_near {f : Addr} {fd : FuncData} (F : Fun K "_law_near" "_law_near" s_law_near f fd) (nb : NB mg) (D_law_take : Def P w K mg base 1 "_law_take" ["state", "many"] spTake) (D_law_worth : Def P w K mg base 2 "_law_worth" ["state"] spWorth) : FnOk P w K mg base CX0 3 f fd ["state", "low", "many"] spNear := by
  refine F.ok sc_law_near (fun vs H Q E h => ?_) (fun cdv A outer sh H vs Q E hr h => ?_)
  · obtain ⟨s, c, T, m, low, rfl, _⟩ := h
    rfl
  · obtain ⟨s, c, T, m, low, rfl, S, hT, hm0, hm, hl0, hl1, q⟩ := h
    have nd := sc_law_near.nd
    refine ⟨_, (pss_cons (ps_set (i := 3) nd rfl (Or.inl rfl) (pe_own D_law_take hr (pa_cons (pv 0) (pa_cons pe_int pa_nil))))
      (pss_one (ps_ret (pe_ifExp (pt_cmpR op_eq (pv 3) pe_int (nomark _)) (pe_own D_law_worth hr (pa_cons (pv 0) pa_nil)) (pe_ix ix_list (pe_lst (pa_cons (pe_op op_add (pv 1) (pe_own D_law_take hr (pa_cons (pv 0) (pa_cons (pe_op op_mul pe_int (pv 2)) pa_nil)))) (pa_cons pe_non pa_nil))) (pe_callTy call_int1 (by rfl) nb.b_int (by decide +kernel) (pa_cons (pe_cmpR op_eq (pv 3) pe_int (nomark _)) pa_nil)) (fun _ _ => rfl)))))), ?_⟩
    refine ⟨.ref s, rfl, s, c, T, _, rfl, S, by omega, by decide, by decide, fun way H1 w0 w1 S1 K1 => ?_⟩
    refine ⟨.int way, rfl, rfl, _, rfl, ite2 (fun h1 => ?_) (fun h1 => ?_)⟩
    · refine ⟨.ref s, rfl, s, c, _, rfl, S1, by omega, fun o H2 wo S2 K2 => ?_⟩
      exact q o H2 wo (S2.mono (by omega)) (K1.trans K2)
    · refine ⟨.int low, rfl, .ref s, rfl, .int m, rfl, _, _, rfl, rfl, .inl ⟨by decide, by decide⟩, s, c, _, _, rfl, S1, by omega, by omega, by omega, fun d H2 d0 d1 S2 K2 => ?_⟩
      refine ⟨_, _, rfl, rfl, (by show 2 ≤ sizeLine; decide), fun p np => ?_⟩
      refine ⟨.int way, rfl, rfl, .inr ⟨_, rfl, ?_⟩⟩
      have S3 := (S2.upd_new (o := .lst [.int (low + d), .non]) np).mono (T' := T + 5) (by omega)
      have K3 : Kept [s, c] H (upd H2 p (.lst [.int (low + d), .non])) := K1.trans (K2.trans (Kept.upd_new np))
      have d1' : d < 2 * (m : Int) := d1
      cases h2 : decide (V.int way = V.int 1) with
      | true => exact ⟨p, _, 1, .non, rfl, rfl, .inl (.inl upd_same), rfl, q none _ trivial S3 K3⟩
      | false => exact ⟨p, _, 0, .int (low + d), rfl, rfl, .inl (.inl upd_same), rfl, q (some (low + d)) _ ⟨by omega, by omega⟩ S3 K3⟩
end
end TT

set_option Elab.async false
set_option linter.all false
set_option maxRecDepth 100000
namespace TT
open PySem PySem.Spec PyProof.Rows L2
structure TabX (K : PySem.W.Frag) (H : Hp) (tp : Addr) (ts : List Tab) (xs : List V) : Prop where
  sq : SqT K H tp xs
  dp : DpAll K H xs (ts.map tabD)
theorem TabX.same {K : PySem.W.Frag} {H H' : Hp} {tp : Addr} {ts : List Tab} {xs : List V} (h : TabX K H tp ts xs) (s : Same H H') : TabX K H' tp ts xs := ⟨sameT s h.sq, dpAll_same s h.dp⟩
theorem TabX.len {K : PySem.W.Frag} {H : Hp} {tp : Addr} {ts : List Tab} {xs : List V} (h : TabX K H tp ts xs) : xs.length = ts.length := by rw [dpAll_len h.dp, List.length_map]
section
variable {P : Program} {w : World} {K : PySem.W.Frag} {mg : Str → Option Value} {base : Heap}
def spContent (K : PySem.W.Frag) : Sp := fun vs H Q _ => ∃ (s c tp : Addr) (T m : Nat) (ts : List Tab), vs = [.ref s, .ref tp, .int m] ∧ StAt H s c T ∧ T + 6000 ≤ 1000000 ∧ 0 < m ∧ m ≤ 10 ∧ Tabs K (msk [s, c] H) tp ts ∧
  ∀ (p : Addr) (ct : List (List Rw)) (H' : Hp), ContOk m ts ct → (∀ rs ∈ ct, ∀ r ∈ rs, -3 ≤ keyW r ∧ keyW r < 1000030) → H p = none → Dp K (msk [s, c] H') (.ref p) (contD ct) → StAt H' s c (T + 6000) → Kept [s, c] H H' → Q (.ref p) H'
abbrev s_law_content : Stmt := topS 25
abbrev N_law_content : List Str := ["state", "tables", "many", "content", "low", "table", "columns", "rows", "key", "others", "column"]
theorem sc_law_content : FnScope N_law_content ["state", "tables", "many"] (defScope s_law_content) := ⟨rfl, rfl, rfl, by decide +kernel, rfl, by decide +kernel, by decide +kernel⟩

set_option maxHeartbeats 4000000 in
theorem ok_content {f : Addr} {fd : FuncData} (F : Fun K "_law_content" "_law_content" s_law_content f fd) (nb : NB mg) (D_law_take : Def P w K mg base 1 "_law_take" ["state", "many"] spTake)
    (D_law_near : Def P w K mg base 3 "_law_near" ["state", "low", "many"] spNear) : FnOk P w K mg base CX0 4 f fd ["state", "tables", "many"] (spContent K) := by
  refine F.ok sc_law_content (fun vs H Q E h => ?_) (fun cdv A outer sh H vs Q E hr h => ?_)
  · obtain ⟨s, c, tp, T, m, ts, rfl, _⟩ := h
    rfl
  · obtain ⟨s, c, tp, T, m, ts, rfl, S, hT, hm0, hm, hTt, q⟩ := h
    have nd := sc_law_content.nd
    have hu := hu_of hr
    refine ⟨_, (pss_cons (ps_asg (pe_tup (pa_cons (pe_lst pa_nil) (pa_cons (pe_ix ix_list (pe_lst (pa_cons pe_int (pa_cons pe_int (pa_cons (pe_un un_neg pe_int) (pa_cons (pe_op op_pow pe_int pe_int) pa_nil))))) (pe_own D_law_take hr (pa_cons (pv 0) (pa_cons pe_int pa_nil))) (fun _ _ => rfl)) pa_nil))) (pg_tup rfl (pgs_cons (pg_name (i := 3) nd rfl (Or.inl rfl)) (pgs_cons (pg_name (i := 4) nd rfl (Or.inr rfl)) pgs_nil))))
      (pss_cons (ps_for PassesOwn.never rfl (pi_tup (pv 1)) (pg_tup rfl (pgs_cons (pg_name (i := 5) nd rfl (Or.inl rfl)) (pgs_cons (pg_name (i := 6) nd rfl (Or.inl rfl)) pgs_nil)))
        (pss_cons (ps_set (i := 7) nd rfl (Or.inl rfl) (pe_lst pa_nil))
        (pss_cons (ps_for PassesOwn.never rfl (pi_range2 (by rfl) nb.b_range (pa_cons (pv 4) (pa_cons (pe_op op_add (pv 4) (pe_op op_mul pe_int (pv 2))) pa_nil))) (pg_name (i := 8) nd rfl (Or.inl rfl))
          (pss_one (ps_if (PW.pt (pw_and (pt_cmpR op_lt (pe_callB call_len_seq (by rfl) nb.b_len (by decide +kernel) (pa_cons (pv 7) pa_nil)) (pv 2) (nomark _)) (pw_and1 (pt_cmpR op_eq (pe_own D_law_take hr (pa_cons (pv 0) (pa_cons pe_int pa_nil))) pe_int (nomark _)))))
            (pss_cons (ps_setLc (i := 9) (own := [("column", 10)]) (g := (gName 10)) (tt := tYes) rfl nd rfl rfl (sw_true rfl rfl rfl (by decide +kernel)) (pi_tup (pe_slice sl_tup (pv 6) (po_some pe_int) po_none)) (blkOk_by (N := N_law_content) (sc := defScope s_law_content) (by decide +kernel)) (fun _ _ _ _ _ => (pg_name (i := 10) nd rfl (Or.inl rfl))) (fun _ _ _ _ _ => pts_nil) (fun _ _ _ _ _ => (pe_own D_law_near hr (pa_cons (pv 0) (pa_cons (pv 4) (pa_cons (pv 2) pa_nil))))))
            (pss_one (ps_expr (pe_bm PySem.F.plainAttrs_list PySem.F.slot_list_append PySem.F.type_list_append mt_append (pv 7) (pa_cons (pe_callTy call_tuple_of (by rfl) nb.b_tuple (by decide +kernel) (pa_cons (pe_op op_cat (pe_lst (pa_cons (pv 8) pa_nil)) (pv 9)) pa_nil)) pa_nil)))))
            pss_nil)))
        (pss_one (ps_expr (pe_bm PySem.F.plainAttrs_list PySem.F.slot_list_append PySem.F.type_list_append mt_append (pv 3) (pa_cons (pv 7) pa_nil)))))))
      (pss_one (ps_ret (pv 3))))), ?_⟩
    have M0 := mask0 S
    obtain ⟨xs, hX⟩ : ∃ xs, TabX K (msk [s, c] H) tp ts xs := by
      obtain ⟨xs, h1, h2, _⟩ := hTt.parts
      exact ⟨xs, h1, h2⟩
    have okt := hTt.ok
    have l0 := hTt.l0
    have l8 := hTt.l8
    -- content, low = ..
    refine ⟨Nat.zero_le _, fun P3 n3 => ?_⟩
    have S1 := S.upd_new (o := .lst []) n3
    have g1 : Grow K [s, c] (upd H P3 (.lst [])) P3 [] [] := .start
    have M1 : Mask [P3, s, c] (upd H P3 (.lst [])) s c := M0.push
    have X1 : TabX K (msk [P3, s, c] (upd H P3 (.lst []))) tp ts xs := hX.same ((msk_new n3).trans (msk_same (Kept.upd_new n3)))
    have o3 : P3 ∉ [s, c] := M0.new n3
    have k1 : Kept [P3, s, c] H (upd H P3 (.lst [])) := Kept.upd_new n3
    generalize upd H P3 (.lst []) = H1 at S1 g1 M1 X1 k1 ⊢
    refine ⟨3, rfl, 10, 6, rfl, rfl, ⟨by decide, by decide, by decide⟩, (by show 4 ≤ sizeLine; decide), fun p1 n1 => ?_⟩
    have e6 : (10 : Int) ^ (6 : Int).toNat = 1000000 := by decide
    have e1 : (upd H1 p1 (.lst [.int 0, .int 1, .int (-3), .int (10 ^ (6 : Int).toNat)])) p1 = some (.lst [.int 0, .int 1, .int (-3), .int (10 ^ (6 : Int).toNat)]) := upd_same
    have S2 := S1.upd_new (o := .lst [.int 0, .int 1, .int (-3), .int (10 ^ (6 : Int).toNat)]) n1
    have k2 : Kept [s, c] H1 (upd H1 p1 (.lst [.int 0, .int 1, .int (-3), .int (10 ^ (6 : Int).toNat)])) := Kept.upd_new n1
    have op1 : p1 ∉ [s, c] := by simp [(S1.nes n1).symm, (S1.nec n1).symm]
    refine ⟨.ref s, rfl, s, c, T, _, rfl, S2, by omega, by decide, by decide, fun d H3 d0 d1 S3 K3 => ?_⟩
    obtain ⟨low, hl0, hl1, hat⟩ : ∃ low : Int, -3 ≤ low ∧ low ≤ 1000000 ∧ atI [V.int 0, V.int 1, V.int (-3), V.int (10 ^ (6 : Int).toNat)] d = some (.int low) := by
      have : d = 0 ∨ d = 1 ∨ d = 2 ∨ d = 3 := by omega
      rcases this with rfl | rfl | rfl | rfl
      · exact ⟨0, by decide, by decide, rfl⟩
      · exact ⟨1, by decide, by decide, rfl⟩
      · exact ⟨-3, by decide, by decide, rfl⟩
      · exact ⟨10 ^ (6 : Int).toNat, by decide, by decide, rfl⟩
    refine ⟨p1, _, _, _, rfl, rfl, .inl (.inl (K3.at e1 op1)), hat, (by show 2 ≤ sizeLine; decide), fun pt nt => ⟨pt, _, rfl, .inl (.inl upd_same), rfl, .ref P3, _, rfl, .int low, _, rfl, rfl, ?_⟩⟩
    have k4 : Kept [s, c] H1 (upd H3 pt (.tup [.ref P3, .int low])) := k2.trans (K3.trans (Kept.upd_new nt))
    have S4 := S3.upd_new (o := .tup [.ref P3, .int low]) nt
    have g4 := g1.kept k4 o3
    have k4' : Kept [P3, s, c] H1 (upd H3 pt (.tup [.ref P3, .int low])) := k4.mono sub_push
    have M4 := M1.kept k4 S4
    have X4 := X1.same (msk_same k4')
    have kk4 := k1.trans k4'
    generalize upd H3 pt (.tup [.ref P3, .int low]) = H4 at k4 S4 g4 k4' M4 X4 kk4 ⊢
    clear k2 K3 S3 S2 e1 g1 k1 k4 k4' X1 M1 S1 hat op1
    -- for table, columns in tables
    refine ⟨.ref tp, rfl, tp, rfl, ⟨_, sameT (msk_sub _ _) X4.sq⟩, ?_⟩
    refine for_tup (K := K) (a := tp) (xs := xs) (fun i σ H' => (∃ y5 y6 y7 y8 y9, σ = [some (.ref s), some (.ref tp), some (.int m), some (.ref P3), some (.int low), y5, y6, y7, y8, y9, none]) ∧
      (∃ (vs : List V) (ct : List (List Rw)), Grow K [s, c] H' P3 vs (ct.map rowsD) ∧ ct.length = i ∧ (∀ (j : Nat) (t : Tab) (rs : List Rw), ts[j]? = some t → ct[j]? = some rs → RwsOk t.2.length rs) ∧ ∀ rs ∈ ct, rs.length ≤ m ∧ ∀ r ∈ rs, -3 ≤ keyW r ∧ keyW r < 1000030) ∧
      StAt H' s c (T + 1 + i * 600) ∧ TabX K (msk [P3, s, c] H') tp ts xs ∧ Mask [P3, s, c] H' s c ∧ Kept [P3, s, c] H H')
      ⟨⟨none, none, none, none, none, rfl⟩, ⟨[], [], g4, rfl, fun j t rs _ h => by simp at h, fun _ h => absurd h List.not_mem_nil⟩, S4.mono (by omega), X4, M4, kk4⟩ (fun i σ H' _ hP => sameT (msk_sub _ _) hP.2.2.2.1.sq) (fun i x σ H5 hx hP => ?_) (fun σ H5 hP => ?_)
    · obtain ⟨⟨y5, y6, y7, y8, y9, rfl⟩, ⟨vs, ct, g5, lct, okc, few⟩, S5, X5, M5, k5⟩ := hP
      obtain ⟨tb, qq, pc, ys, htb, rfl, h1, h2, h3⟩ := tab_at X5.dp hx
      have hi : i < xs.length := (List.getElem?_eq_some_iff.mp hx).1
      have hi8 : i < 8 := by have := X5.len; omega
      obtain ⟨okcol, lcol⟩ := okt.cs tb (List.mem_of_getElem? htb)
      have lc5 := okcol.top
      have ly : ys.length = tb.2.length := by rw [dpAll_len h3, List.length_map]
      refine ⟨qq, _, rfl, sameT (msk_sub _ _) h1, rfl, .str tb.1, _, rfl, .ref pc, _, rfl, rfl, ?_⟩
      -- rows = []
      refine ⟨Nat.zero_le _, fun P7 n7 => ?_⟩
      have S6 := S5.upd_new (o := .lst []) n7
      have o7 : P7 ∉ [P3, s, c] := M5.new n7
      have M6 : Mask [P7, P3, s, c] (upd H5 P7 (.lst [])) s c := M5.push
      have g6 : Grow K [P3, s, c] (upd H5 P7 (.lst [])) P7 [] [] := .start
      have sm6 : Same (msk [P3, s, c] H5) (msk [P7, P3, s, c] (upd H5 P7 (.lst []))) := (msk_new n7).trans (msk_same (Kept.upd_new n7))
      have X6 := X5.same sm6
      have hc6 := sameT sm6 h2
      have k6 : Kept [P7, P3, s, c] H5 (upd H5 P7 (.lst [])) := Kept.upd_new n7
      have e36 : (upd H5 P7 (.lst [])) P3 = some (.lst vs) := by rw [upd_ne (ne_of_none g5.at' n7)]; exact g5.at'
      generalize upd H5 P7 (.lst []) = H6 at S6 M6 g6 sm6 X6 hc6 k6 e36 ⊢
      -- for key in range(low, low + 2 * many)
      refine ⟨.int low, rfl, .int low, rfl, .int m, rfl, _, _, rfl, rfl, .inl ⟨by decide, by decide⟩, _, _, rfl, rfl, low, _, rfl, ⟨by omega, by omega, by show _ ≤ low + 2 * (m : Int); omega, by show low + 2 * (m : Int) < _; omega⟩, ?_⟩
      have en : (low + 2 * (m : Int) - low).toNat = 2 * m := by omega
      show ∃ W : Nat → Nat → L2.St → Hp → Prop, _
      rw [en]
      refine for_range (lo := low) (n := 2 * m) (fun k σ H' => (∃ y8 y9, σ = [some (.ref s), some (.ref tp), some (.int m), some (.ref P3), some (.int low), some (.str tb.1), some (.ref pc), some (.ref P7), y8, y9, none]) ∧
        (∃ (us : List V) (rs : List Rw), Grow K [P3, s, c] H' P7 us (rs.map rowD) ∧ RwsOk tb.2.length rs ∧ rs.length ≤ m ∧ ∀ r ∈ rs, low ≤ keyW r ∧ keyW r < low + k) ∧
        StAt H' s c (T + 1 + i * 600 + k * 26) ∧ TabX K (msk [P7, P3, s, c] H') tp ts xs ∧ SqT K (msk [P7, P3, s, c] H') pc ys ∧ Mask [P7, P3, s, c] H' s c ∧ H' P3 = some (.lst vs) ∧ Kept [P7, P3, s, c] H5 H')
        ⟨⟨y8, y9, rfl⟩, ⟨[], [], g6, ⟨fun _ h => absurd h List.not_mem_nil, .nil⟩, Nat.zero_le _, fun _ h => absurd h List.not_mem_nil⟩, S6.mono (by omega), X6, hc6, M6, e36, k6⟩ (fun k σ H7 hk hP => ?_) (fun σ H7 hP => ?_)
      · obtain ⟨⟨y8, y9, rfl⟩, ⟨us, rs, g7, okr, lrs, kup⟩, S7, X7, hc7, M7, e37, k7⟩ := hP
        have lus : us.length = rs.length := by rw [g7.len, List.length_map]
        -- len(rows) < many
        refine ⟨.ref P7, rfl, P7, us, rfl, .inl (.inl (.inl g7.at')), .int m, rfl, _, _, rfl, rfl, _, rfl, ite2 (fun hb1 => ?_) (fun hb1 => ?_)⟩
        · have hb1 : (us.length : Int) < (m : Int) := of_decide_eq_true hb1
          refine ⟨.ref s, rfl, s, c, _, _, rfl, S7, by omega, by decide, by decide, fun d H8 d0 d1 S8 K8 => ?_⟩
          have M8 := M7.kept K8 S8
          have K8' : Kept [P7, P3, s, c] H7 H8 := K8.mono M7.sc
          have g8 := g7.kept (K8.mono M5.sc) o7
          have X8 := X7.same (msk_same K8')
          have hc8 := sameT (msk_same K8') hc7
          have e38 := K8.at e37 o3
          have k8 := k7.trans K8'
          refine ⟨rfl, _, rfl, ite2 (fun hb2 => ?_) (fun hb2 => ?_)⟩
          · -- others = [near(..) for column in columns[1:]]
            refine ⟨.ref pc, rfl, 1, rfl, pc, ys, rfl, sameT (msk_sub _ _) hc8, ?_, fun p9 n9 => ?_⟩
            · intro z
              have z1 := z.1
              rw [show ((1 : Int)) = ((1 : Nat) : Int) from rfl, HT.sIx_nat] at z1
              omega
            rw [show cutV ys (some 1) none = ys.drop 1 from cutV_hi ys 1]
            have S9 := S8.upd_new (o := .tup (ys.drop 1)) n9
            have e9 : (upd H8 p9 (.tup (ys.drop 1))) p9 = some (.tup (ys.drop 1)) := upd_same
            have k9 : Kept [s, c] H8 (upd H8 p9 (.tup (ys.drop 1))) := Kept.upd_new n9
            generalize upd H8 p9 (.tup (ys.drop 1)) = H9 at S9 e9 k9 ⊢
            refine ⟨p9, rfl, ⟨_, .inl (.inl e9)⟩, fun D nD => ?_⟩
            have o9 : p9 ∉ [D, s, c] := by
              intro z
              simp only [List.mem_cons, List.not_mem_nil, or_false] at z
              rcases z with rfl | rfl | rfl
              · rw [nD] at e9; cases e9
              · obtain ⟨t, _, e⟩ := S9.ex
                rw [e9] at e; cases e
              · obtain ⟨ns, _, _, e⟩ := S9.cs
                rw [e9] at e; cases e
            have ld : (ys.drop 1).length = tb.2.length - 1 := by rw [List.length_drop, ly]
            have oD : D ∉ [s, c] := by simp [(S9.nes nD).symm, (S9.nec nD).symm]
            refine lc_it (walk_tup (xs := ys.drop 1)) (fun j H' => (∃ ws : Rw, H' D = some (.lst (ws.map wV)) ∧ ws.length = j ∧ ∀ o ∈ ws, WOk o) ∧ StAt H' s c (T + 1 + i * 600 + k * 26 + 1 + j * 5) ∧ Kept [D, s, c] H9 H')
              ⟨⟨[], upd_same, rfl, fun _ h => absurd h List.not_mem_nil⟩, S9.upd_new nD, Kept.upd_new nD⟩ (fun j H' _ hP => .inl (.inl (hP.2.2.at e9 o9))) (fun j x H' H'' hj hP hY => ?_) (fun H10 hP => ?_)
            · obtain ⟨rfl, hx⟩ := hY
              obtain ⟨⟨ws, eD, lws, okw⟩, SS, kk⟩ := hP
              refine ⟨rfl, ?_⟩
              unfold tYes
              dsimp only
              refine iteT ?_
              refine ⟨.ref s, rfl, .int low, rfl, .int m, rfl, s, c, _, m, low, rfl, SS, by omega, hm0, by omega, by omega, by omega, fun o H12 wo S12 K12 => ?_⟩
              have eD2 := K12.at eD oD
              refine ⟨_, eD2, by rw [List.length_map, lws]; exact small1000 (by omega), ⟨ws ++ [o], by rw [upd_same, List.map_append]; rfl, by rw [List.length_append, lws]; rfl, fun z hz => ?_⟩, (S12.upd ?_ ?_).mono (by omega), kk.trans ((K12.mono sub_push).trans (Kept.upd_in (List.mem_cons_self ..)))⟩
              · rcases List.mem_append.mp hz with h | h
                · exact okw z h
                · rw [List.mem_singleton.mp h]; exact wo
              · exact S9.nes nD
              · exact S9.nec nD
            · obtain ⟨⟨ws, eD, lws, okw⟩, SS, kk⟩ := hP
              have kD : Kept [s, c] H9 H10 := kk.new nD
              have k10 : Kept [s, c] H8 H10 := k9.trans kD
              have M10 := M8.kept k10 SS
              have k10' : Kept [P7, P3, s, c] H8 H10 := k10.mono M7.sc
              have g10 := g8.kept (k10.mono M5.sc) o7
              have X10 := X8.same (msk_same k10')
              have hc10 := sameT (msk_same k10') hc8
              have e310 := k10.at e38 o3
              have kk10 := k8.trans k10'
              have n7D : P7 ≠ D := fun z => by
                have h1 := k9.at g8.at' (fun h => o7 (M5.sc _ h))
                rw [z, nD] at h1; cases h1
              clear k9 S9 e9 o9 kk n9 g8 X8 hc8 k8 k10 k10' kD K8 K8'
              -- rows.append(tuple([key] + others))
              refine ⟨.ref P7, rfl, .inl ⟨rfl, _, .inl (.inl g10.at')⟩, .int (low + k), rfl, (by show 1 ≤ sizeLine; decide), fun q1 nq1 => ?_⟩
              have nD1 : D ≠ q1 := ne_of_none eD nq1
              refine ⟨.ref D, rfl, q1, D, _, _, rfl, rfl, upd_same, (by rw [upd_ne nD1]; exact eD), Nat.le_of_lt (small1000 (by rw [List.length_map, lws]; show 1 + _ ≤ 1000; omega)), fun q2 nq2 => ?_⟩
              refine ⟨q2, _, rfl, .inl ⟨.inl (.inl upd_same), fun t nt => ?_⟩⟩
              have Sx := ((SS.upd_new (o := .lst [.int (low + k)]) nq1).upd_new (o := .lst ([.int (low + k)] ++ ws.map wV)) nq2).upd_new (o := .tup ([.int (low + k)] ++ ws.map wV)) nt
              have kx : Kept [s, c] H10 (upd (upd (upd H10 q1 (.lst [.int (low + k)])) q2 (.lst ([.int (low + k)] ++ ws.map wV))) t (.tup ([.int (low + k)] ++ ws.map wV))) := (Kept.upd_new nq1).trans ((Kept.upd_new nq2).trans (Kept.upd_new nt))
              have Mx := M10.kept kx Sx
              have kx' : Kept [P7, P3, s, c] H10 _ := kx.mono M7.sc
              have gx := g10.kept (kx.mono M5.sc) o7
              have Xx := X10.same (msk_same kx')
              have hcx := sameT (msk_same kx') hc10
              have e3x := kx.at e310 o3
              have kkx := kk10.trans kx'
              have Mt : Mask [P7, P3, s, c] (upd (upd H10 q1 (.lst [.int (low + k)])) q2 (.lst ([.int (low + k)] ++ ws.map wV))) s c := M10.up.up
              have ot : t ∉ [P7, P3, s, c] := Mt.new nt
              have et : (upd (upd (upd H10 q1 (.lst [.int (low + k)])) q2 (.lst ([.int (low + k)] ++ ws.map wV))) t (.tup ([.int (low + k)] ++ ws.map wV))) t = some (.tup ([.int (low + k)] ++ ws.map wV)) := upd_same
              generalize upd (upd (upd H10 q1 (.lst [.int (low + k)])) q2 (.lst ([.int (low + k)] ++ ws.map wV))) t (.tup ([.int (low + k)] ++ ws.map wV)) = Hx at Sx kx Mx kx' gx Xx hcx e3x kkx et ⊢
              have ns7 : s ≠ P7 := fun z => o7 (by rw [← z]; simp)
              have nc7 : c ≠ P7 := fun z => o7 (by rw [← z]; simp)
              have n37 : P3 ≠ P7 := fun z => o7 (by rw [← z]; simp)
              have ki : Kept [P7, P3, s, c] Hx (upd Hx P7 (.lst (us ++ [.ref t]))) := Kept.upd_in (List.mem_cons_self ..)
              have lr1 : (some (low + (k : Int)) :: ws).length = tb.2.length := by rw [List.length_cons, lws, ld]; omega
              have okr1 : RwOk tb.2.length (some (low + (k : Int)) :: ws) := ⟨lr1, fun o ho => by
                rcases List.mem_cons.mp ho with rfl | ho
                · exact ⟨by omega, by omega⟩
                · exact okw o ho, ⟨_, _, rfl⟩⟩
              refine ⟨P7, us, _, rfl, rfl, gx.at', small1000 (by rw [lus]; omega), ⟨_, _, rfl⟩, ⟨_, rs ++ [some (low + (k : Int)) :: ws], by rw [List.map_append]; exact gx.put (.tup (.inl (.inl (msk_at et ot))) (dp_ws (some (low + (k : Int)) :: ws))), okr.snoc okr1 (fun r hr => (kup r hr).2), ?_, fun r hr => ?_⟩, (Sx.upd ns7 nc7).mono (by omega), Xx.same (msk_same ki), sameT (msk_same ki) hcx, Mx.up, by rw [upd_ne n37]; exact e3x, kkx.trans ki⟩
              · rw [List.length_append]; show rs.length + 1 ≤ m; omega
              · rcases List.mem_append.mp hr with h | h
                · have := kup r h; omega
                · rw [List.mem_singleton.mp h]; show low ≤ low + (k : Int) ∧ low + (k : Int) < _; omega
          · exact ⟨⟨_, _, rfl⟩, ⟨us, rs, g8, okr, lrs, fun r hr => by have := kup r hr; omega⟩, S8.mono (by omega), X8, hc8, M8, e38, k8⟩
        · refine iteF ?_
          exact ⟨⟨_, _, rfl⟩, ⟨us, rs, g7, okr, lrs, fun r hr => by have := kup r hr; omega⟩, S7.mono (by omega), X7, hc7, M7, e37, k7⟩
      · obtain ⟨⟨y8, y9, rfl⟩, ⟨us, rs, g7, okr, lrs, kup⟩, S7, X7, hc7, M7, e37, k7⟩ := hP
        -- content.append(rows)
        have lvs : vs.length = i := by rw [g5.len, List.length_map, lct]
        have kn : Kept [P3, s, c] H5 H7 := k7.new n7
        have ns3 : s ≠ P3 := fun z => o3 (by rw [← z]; simp)
        have nc3 : c ≠ P3 := fun z => o3 (by rw [← z]; simp)
        have ki : Kept [P3, s, c] H7 (upd H7 P3 (.lst (vs ++ [.ref P7]))) := Kept.upd_in (List.mem_cons_self ..)
        have M7' : Mask [P3, s, c] H7 s c := M7.pop M5.sc
        have g7' : Grow K [s, c] H7 P3 vs (ct.map rowsD) := ⟨e37, dpAll_same (msk_same kn) g5.dp⟩
        refine ⟨.ref P3, rfl, .inl ⟨rfl, _, .inl (.inl e37)⟩, .ref P7, rfl, P3, vs, _, rfl, rfl, e37, small1000 (by omega), ⟨_, _, _, _, _, rfl⟩, ⟨_, ct ++ [rs], by rw [List.map_append]; exact g7'.put (g7.done o7), by rw [List.length_append, lct]; rfl, fun j t r hj hr => ?_, fun r hr => ?_⟩, (S7.upd ns3 nc3).mono (by omega), (X5.same (msk_same (kn.trans ki))), M7'.up, k5.trans (kn.trans ki)⟩
        · by_cases hji : j < ct.length
          · rw [List.getElem?_append_left hji] at hr
            exact okc j t r hj hr
          · have hl := (List.getElem?_eq_some_iff.mp hr).1
            rw [List.length_append] at hl
            have : j = i := by simp at hl; omega
            subst this
            rw [htb] at hj
            cases hj
            rw [List.getElem?_append_right (by omega), lct, Nat.sub_self] at hr
            cases hr
            exact okr
        · rcases List.mem_append.mp hr with h | h
          · exact few r h
          · rw [List.mem_singleton.mp h]; exact ⟨lrs, fun r hr => by have := kup r hr; omega⟩
    · obtain ⟨⟨y5, y6, y7, y8, y9, rfl⟩, ⟨vs, ct, g5, lct, okc, few⟩, S5, X5, M5, k5⟩ := hP
      have lx := X5.len
      refine ⟨.ref P3, rfl, ?_⟩
      exact q P3 ct H5 ⟨by omega, okc, fun rs h => (few rs h).1⟩ (fun rs h => (few rs h).2) n3 (g5.done o3) (S5.mono (by omega)) (k5.new n3)
end
end TT

set_option Elab.async false
set_option linter.all false
set_option maxRecDepth 100000
namespace TT
open PySem PySem.Spec PyProof.Rows L2
structure GC (mg : Str → Option Value) : Prop where
  MOST_NUMBER : ∃ u, mg "MOST_NUMBER" = some (.int 1000000000 u)
def boundB : PyData → Bool
  | .int i => decide (-1000000000 ≤ i) && decide (i ≤ 1000000000)
  | _ => false
def rowB (n : Nat) : PyData → Bool
  | .tuple ws => decide (ws.length = n) && (!isN (ws.headD .none) && ws.all worthB)
  | _ => false
def keyD : PyData → Int
  | .tuple (.int i :: _) => i
  | _ => 0
def risesB (rs : List PyData) : Bool := ((List.range (rs.length - 1)).map fun i => decide (keyD (rs.getD i .none) < keyD (rs.getD (i + 1) .none))).all id
def rowsB (n : Nat) : PyData → Bool
  | .list rs => rs.all (rowB n) && risesB rs
  | _ => false
theorem isL_of {K : PySem.W.Frag} {H : Hp} {v : V} {d : PyData} (hd : Dp K H v d) (h : isLB d = true) : ∃ p xs ds, v = .ref p ∧ d = .list ds ∧ SqL K H p xs ∧ DpAll K H xs ds := by
  cases hd with
  | non => cases h
  | bl b => cases h
  | int i => cases h
  | str z => cases h
  | lst hs a => exact ⟨_, _, _, rfl, rfl, hs, a⟩
  | tup hs a => cases h
theorem spB_len {R : PyData → Bool} {K : PySem.W.Frag} {vs : List V} {H : Hp} {Q : VK} {E : XK} (h : spB R K vs H Q E) : vs.length = 1 := by
  obtain ⟨v, d, rfl, _⟩ := h
  rfl
section
variable {P : Program} {w : World} {K : PySem.W.Frag} {mg : Str → Option Value} {base : Heap}
def spTup (K : PySem.W.Frag) : Sp := fun vs H Q _ => ∃ (v : V) (d : PyData) (lo hi : Int), vs = [v, .int lo, .int hi] ∧ Dp K H v d ∧ Fit d ∧ ∀ H', Same H H' → Q (.bl (tupB lo hi d)) H'
abbrev s_is_tuple : Stmt := topS 7
abbrev N_is_tuple : List Str := ["thing", "least", "most"]
theorem sc_is_tuple : FnScope N_is_tuple ["thing", "least", "most"] (defScope s_is_tuple) := ⟨rfl, rfl, rfl, by decide +kernel, rfl, by decide +kernel, by decide +kernel⟩

theorem ok_is_tuple {f : Addr} {fd : FuncData} (F : Fun K "is_tuple" "is_tuple" s_is_tuple f fd) (nb : NB mg) : FnOk P w K mg base CX0 1 f fd ["thing", "least", "most"] (spTup K) := by
  refine F.ok sc_is_tuple (fun vs H Q E h => ?_) (fun cdv A outer sh H vs Q E hr h => ?_)
  · obtain ⟨v, d, lo, hi, rfl, _⟩ := h
    rfl
  obtain ⟨v, d, lo, hi, rfl, hd, hf, q⟩ := h
  have nd := sc_is_tuple.nd
  refine ⟨_, (pss_one (ps_ret (pe_and (pe_callB call_isi (by rfl) nb.b_isinstance (by decide +kernel) (pa_cons (pv 0) (pa_cons (pe_bltn (v := .ty "tuple") (by rfl) nb.b_tuple (by decide +kernel) rfl) pa_nil))) (pe_one (pe_chain op_le op_le (pv 1) (pe_callB call_len_seq (by rfl) nb.b_len (by decide +kernel) (pa_cons (pv 0) pa_nil)) (pv 2)))))), ?_⟩
  refine ⟨v, rfl, v, .ty "tuple", _, _, _, rfl, .ty "tuple", dp_ty hd, kit_t d, _, rfl, ite2 (fun h1 => ?_) (fun h1 => ?_)⟩
  · cases hd with
    | non => cases h1
    | bl b => cases h1
    | int i => cases h1
    | str z => cases h1
    | lst _ _ => cases h1
    | tup h a =>
      rename_i p xs ds
      have l := dpAll_len a
      refine ⟨.int lo, rfl, .ref p, rfl, p, xs, rfl, .inr h, _, _, rfl, rfl, _, rfl, ite2 (fun h3 => ?_) (fun h3 => ?_)⟩
      · refine ⟨.int hi, rfl, _, _, rfl, rfl, ?_⟩
        have e : decide ((xs.length : Int) ≤ hi) = tupB lo hi (.tuple ds) := by
          show _ = (decide (lo ≤ (ds.length : Int)) && decide ((ds.length : Int) ≤ hi))
          rw [← l, h3]; rfl
        have z := q H (Same.refl H)
        rw [← e] at z
        exact z
      · have e : false = tupB lo hi (.tuple ds) := by
          show _ = (decide (lo ≤ (ds.length : Int)) && decide ((ds.length : Int) ≤ hi))
          rw [← l, Bool.eq_false_iff.mpr h3]; rfl
        have z := q H (Same.refl H)
        rw [← e] at z
        exact z
  · have e : false = tupB lo hi d := by
      cases hd <;> first | rfl | exact absurd rfl h1
    have z := q H (Same.refl H)
    rw [← e] at z
    exact z
abbrev s_is_number : Stmt := topS 4
abbrev N_is_number : List Str := ["thing"]
theorem sc_is_number : FnScope N_is_number ["thing"] (defScope s_is_number) := ⟨rfl, rfl, rfl, by decide +kernel, rfl, by decide +kernel, by decide +kernel⟩

theorem ok_is_number {f : Addr} {fd : FuncData} (F : Fun K "is_number" "is_number" s_is_number f fd) (nb : NB mg) : FnOk P w K mg base CX0 1 f fd ["thing"] (spB numB K) := by
  refine F.ok sc_is_number (fun vs H Q E h => spB_len h) (fun cdv A outer sh H vs Q E hr h => ?_)
  obtain ⟨v, d, rfl, hd, hf, q⟩ := h
  have nd := sc_is_number.nd
  refine ⟨_, (pss_one (ps_ret (pe_and (pe_callB call_isi (by rfl) nb.b_isinstance (by decide +kernel) (pa_cons (pv 0) (pa_cons (pe_bltn (v := .ty "int") (by rfl) nb.b_int (by decide +kernel) rfl) pa_nil))) (pe_one (pe_not (pe_callB call_isi (by rfl) nb.b_isinstance (by decide +kernel) (pa_cons (pv 0) (pa_cons (pe_bltn (v := .ty "bool") (by rfl) nb.b_bool (by decide +kernel) rfl) pa_nil)))))))), ?_⟩
  refine ⟨v, rfl, v, .ty "int", _, _, _, rfl, .ty "int", dp_ty hd, kit_i d, _, rfl, ite2 (fun h1 => ?_) (fun h1 => ?_)⟩
  · refine ⟨v, rfl, v, .ty "bool", _, _, _, rfl, .ty "bool", dp_ty hd, kit_b d, _, rfl, ?_⟩
    have e : (!isBB d) = numB d := by cases d <;> simp_all [isIB, isBB, numB]
    have z := q H (Same.refl H)
    rw [← e] at z
    exact z
  · have e : false = numB d := by cases d <;> simp_all [isIB, numB]
    have z := q H (Same.refl H)
    rw [← e] at z
    exact z
abbrev s_is_bounded : Stmt := topS 5
abbrev N_is_bounded : List Str := ["thing"]
theorem sc_is_bounded : FnScope N_is_bounded ["thing"] (defScope s_is_bounded) := ⟨rfl, rfl, rfl, by decide +kernel, rfl, by decide +kernel, by decide +kernel⟩

theorem ok_is_bounded {f : Addr} {fd : FuncData} (F : Fun K "is_bounded" "is_bounded" s_is_bounded f fd) (gc : GC mg) (D_is_number : Def P w K mg base 1 "is_number" ["thing"] (spB numB K)) : FnOk P w K mg base CX0 2 f fd ["thing"] (spB boundB K) := by
  refine F.ok sc_is_bounded (fun vs H Q E h => spB_len h) (fun cdv A outer sh H vs Q E hr h => ?_)
  obtain ⟨v, d, rfl, hd, hf, q⟩ := h
  have nd := sc_is_bounded.nd
  refine ⟨_, (pss_one (ps_ret (pe_and (pe_own D_is_number hr (pa_cons (pv 0) pa_nil)) (pe_one (pe_chain op_le op_le (pe_un un_neg (pe_gint gc.MOST_NUMBER)) (pv 0) (pe_gint gc.MOST_NUMBER)))))), ?_⟩
  refine ⟨v, rfl, v, d, rfl, hd, hf, fun H1 sm => ⟨_, rfl, ite2 (fun h2 => ?_) (fun h2 => ?_)⟩⟩
  · obtain ⟨i, rfl, rfl⟩ : ∃ i, d = .int i ∧ v = .int i := by
      cases hd <;> first | exact ⟨_, rfl, rfl⟩ | cases h2
    refine ⟨_, rfl, .int i, rfl, _, _, rfl, rfl, _, rfl, ite2 (fun h3 => ?_) (fun h3 => ?_)⟩
    · refine ⟨_, _, rfl, rfl, ?_⟩
      have h3 : -1000000000 ≤ i := of_decide_eq_true h3
      have e : decide (i ≤ 1000000000) = boundB (.int i) := by
        show _ = (decide (-1000000000 ≤ i) && decide (i ≤ 1000000000))
        rw [decide_eq_true h3]; rfl
      have z := q H1 sm
      rw [← e] at z
      exact z
    · have h3 : ¬ -1000000000 ≤ i := fun z => h3 (decide_eq_true z)
      have e : false = boundB (.int i) := by
        show _ = (decide (-1000000000 ≤ i) && decide (i ≤ 1000000000))
        rw [decide_eq_false h3]; rfl
      have z := q H1 sm
      rw [← e] at z
      exact z
  · have e : false = boundB d := by cases d <;> first | rfl | exact absurd rfl h2
    have z := q H1 sm
    rw [← e] at z
    exact z
theorem worth_bound (d : PyData) : worthB d = (isN d || boundB d) := by cases d <;> rfl
theorem isN_v {K : PySem.W.Frag} {H : Hp} {v : V} {d : PyData} (h : Dp K H v d) : decide (v = V.non) = isN d := by cases h <;> rfl
abbrev s_is_worth : Stmt := topS 6
abbrev N_is_worth : List Str := ["thing"]
theorem sc_is_worth : FnScope N_is_worth ["thing"] (defScope s_is_worth) := ⟨rfl, rfl, rfl, by decide +kernel, rfl, by decide +kernel, by decide +kernel⟩

theorem ok_is_worth {f : Addr} {fd : FuncData} (F : Fun K "is_worth" "is_worth" s_is_worth f fd) (D_is_bounded : Def P w K mg base 2 "is_bounded" ["thing"] (spB boundB K)) : FnOk P w K mg base CX0 3 f fd ["thing"] (spB worthB K) := by
  refine F.ok sc_is_worth (fun vs H Q E h => spB_len h) (fun cdv A outer sh H vs Q E hr h => ?_)
  obtain ⟨v, d, rfl, hd, hf, q⟩ := h
  have nd := sc_is_worth.nd
  have q' : ∀ H', Same H H' → ∀ b, b = worthB d → Q (.bl b) H' := fun H' s b e => by rw [e]; exact q H' s
  refine ⟨_, (pss_one (ps_ret (pe_or (pe_cmpR op_isN (pv 0) pe_non (nomark _)) (pe_one (pe_own D_is_bounded hr (pa_cons (pv 0) pa_nil)))))), ?_⟩
  refine ⟨v, rfl, rfl, _, rfl, ?_⟩
  rw [isN_v hd]
  refine ite2 (fun h1 => ?_) (fun h1 => ?_)
  · refine q' H (Same.refl H) _ ?_
    rw [worth_bound, h1]; rfl
  · refine ⟨v, rfl, v, d, rfl, hd, hf, fun H1 sm => q' H1 sm _ ?_⟩
    rw [worth_bound, Bool.eq_false_iff.mpr h1]; rfl
/-- a row of so many columns -/
def spRow (K : PySem.W.Frag) : Sp := fun vs H Q _ => ∃ (n : Nat) (v : V) (d : PyData), vs = [.int n, v] ∧ 1 ≤ n ∧ Dp K H v d ∧ Fit d ∧ ∀ H', Same H H' → Q (.bl (rowB n d)) H'
abbrev s_is_row : Stmt := topS 13
abbrev N_is_row : List Str := ["width", "thing", "worth"]
theorem sc_is_row : FnScope N_is_row ["width", "thing"] (defScope s_is_row) := ⟨rfl, rfl, rfl, by decide +kernel, rfl, by decide +kernel, by decide +kernel⟩

theorem ok_is_row {f : Addr} {fd : FuncData} (F : Fun K "is_row" "is_row" s_is_row f fd) (nb : NB mg) (D_is_tuple : Def P w K mg base 1 "is_tuple" ["thing", "least", "most"] (spTup K)) (D_is_worth : Def P w K mg base 3 "is_worth" ["thing"] (spB worthB K)) : FnOk P w K mg base CX0 4 f fd ["width", "thing"] (spRow K) := by
  refine F.ok sc_is_row (fun vs H Q E h => ?_) (fun cdv A outer sh H vs Q E hr h => ?_)
  · obtain ⟨n, v, d, rfl, _⟩ := h
    rfl
  obtain ⟨n, v, d, rfl, hn, hd, hf, q⟩ := h
  have nd := sc_is_row.nd
  have q' : ∀ H', Same H H' → ∀ b, b = rowB n d → Q (.bl b) H' := fun H' s b e => by rw [e]; exact q H' s
  refine ⟨_, (pss_cons (ps_if (PW.pt (pw_or (pt_not (pt_val (pe_own D_is_tuple hr (pa_cons (pv 1) (pa_cons (pv 0) (pa_cons (pv 0) pa_nil)))))) (pw_or1 (pt_cmpR op_isN (pe_ix ix_tup (pv 1) pe_int (fun _ _ => rfl)) pe_non (nomark _)))))
        (pss_one (ps_ret pe_bl))
        pss_nil)
      (pss_one (ps_ret (pe_callB (cr_all rfl) (by rfl) nb.b_all (by decide +kernel) (pa_cons (pe_lc (own := [("worth", 2)]) (g := (gName 2)) (tt := tYes) rfl nd (pi_tup (pv 1)) (blkOk_by (N := N_is_row) (sc := defScope s_is_row) (by decide +kernel)) (fun _ _ _ _ _ => (pg_name (i := 2) nd rfl (Or.inl rfl))) (fun _ _ _ _ _ => pts_nil) (fun _ _ _ _ _ => (pe_own D_is_worth hr (pa_cons (pv 2) pa_nil)))) pa_nil))))), ?_⟩
  refine ⟨v, rfl, .int n, rfl, .int n, rfl, v, d, n, n, rfl, hd, hf, fun H1 sm => ⟨_, rfl, ?_⟩⟩
  cases ht : tupB n n d with
  | false =>
    refine iteT (iteT (q' H1 sm _ ?_))
    cases d with
    | tuple ws =>
      have h' : (decide ((n : Int) ≤ (ws.length : Int)) && decide ((ws.length : Int) ≤ n)) = false := ht
      show false = (decide (ws.length = n) && _)
      by_cases e : ws.length = n
      · rw [e] at h'; simp at h'
      · rw [decide_eq_false e]; rfl
    | _ => rfl
  | true =>
    refine iteF ?_
    obtain ⟨p, xs, ws, rfl, rfl, hS, hA⟩ := isT_of hd (tupB_isT ht)
    have l := dpAll_len hA
    have lw : ws.length = n := by
      have h' : (decide ((n : Int) ≤ (ws.length : Int)) && decide ((ws.length : Int) ≤ n)) = true := ht
      rw [Bool.and_eq_true] at h'
      have g1 := of_decide_eq_true h'.1
      have g2 := of_decide_eq_true h'.2
      omega
    obtain ⟨d0, r, rfl⟩ : ∃ d0 r, ws = d0 :: r := by
      cases ws with
      | nil => simp at lw; omega
      | cons a r => exact ⟨a, r, rfl⟩
    have eC : rowB n (.tuple (d0 :: r)) = (!isN d0 && (d0 :: r).all worthB) := by
      show (decide ((d0 :: r).length = n) && _) = _
      rw [decide_eq_true lw]; rfl
    obtain ⟨x0, hx0, hd0⟩ := dpAll_at (i := 0) hA rfl
    refine ⟨.ref p, rfl, p, xs, 0, x0, rfl, rfl, sameT sm hS, atI_nat (j := 0) hx0, rfl, _, rfl, ?_⟩
    rw [isN_v hd0]
    cases hN : isN d0 with
    | true =>
      refine iteT (q' H1 sm _ ?_)
      rw [eC, hN]; rfl
    | false =>
      refine iteF ?_
      refine ⟨.ref p, rfl, p, rfl, ⟨_, sameT sm hS⟩, fun D nD => ?_⟩
      have l9 := hf.1
      refine lc_it walk_tup (PvM H1 D fun i => .bl (worthB ((d0 :: r).getD i .none))) (pvm_start ..) (fun i H2 _ hP => sameT (pvm_same hP nD) (sameT sm hS)) (fun i x H2 H3 hi hP hY => ?_) (fun H2 hP => ?_)
      · obtain ⟨rfl, hx⟩ := hY
        obtain ⟨d1, h1, h2⟩ := dpAll_get i hA hx
        refine ⟨rfl, ?_⟩
        unfold tYes
        dsimp only
        refine iteT ?_
        refine ⟨x, rfl, x, d1, rfl, dp_same (sm.trans (pvm_same hP nD)) h2, fit_mem hf.2 (List.mem_of_getElem? h1), fun H4 s4 => pvm_step hP s4 ?_ (by omega)⟩
        show V.bl (worthB d1) = .bl (worthB ((d0 :: r).getD i .none))
        rw [getD_of h1]
      · refine ⟨D, (List.range xs.length).map fun i => worthB ((d0 :: r).getD i .none), rfl, .inl (.inl ?_), q' H2 (sm.trans (pvm_same hP nD)) _ ?_⟩
        · rw [hP.1, List.map_map]; rfl
        · rw [l, range_all, eC, hN]; rfl
theorem rowB_key {n : Nat} {d : PyData} (h : rowB n d = true) : ∃ i r, d = .tuple (.int i :: r) ∧ (r.length + 1 = n) := by
  cases d with
  | tuple ws =>
    have h' : (decide (ws.length = n) && (!isN (ws.headD .none) && ws.all worthB)) = true := h
    simp only [Bool.and_eq_true, decide_eq_true_eq] at h'
    obtain ⟨h1, h2, h3⟩ := h'
    cases ws with
    | nil => cases h2
    | cons a r =>
      have h2' : (!isN a) = true := h2
      have h4 : worthB a = true := by
        rw [List.all_cons, Bool.and_eq_true] at h3
        exact h3.1
      cases a with
      | int i => exact ⟨i, r, rfl, h1⟩
      | none => cases h2'
      | _ => cases h4
  | _ => cases h
/-- the key of a row that is one -/
theorem row_at {K : PySem.W.Frag} {H : Hp} {v : V} {d : PyData} {n : Nat} (hd : Dp K H v d) (h : rowB n d = true) : ∃ p r, v = .ref p ∧ SqT K H p (.int (keyD d) :: r) := by
  obtain ⟨i, t, rfl, _⟩ := rowB_key h
  cases hd with
  | tup h1 h2 =>
    cases h2 with
    | cons h3 h4 =>
      cases h3
      exact ⟨_, _, rfl, h1⟩
end
end TT

set_option Elab.async false
set_option linter.all false
set_option maxRecDepth 100000
namespace TT
open PySem PySem.Spec PyProof.Rows L2
/-! ### sizes of tables and of contents -/
theorem name_nice {z : Str} (h : NameOk z) (B L : Nat) : Nice B L (.str z) ∧ wt (.str z) ≤ 92 := by
  have l : z.length ≤ 8 := h.top
  exact ⟨fun c hc => by have := h.low c hc; unfold low at this; omega, by show 10 * z.length + 12 ≤ 92; omega⟩
theorem w_nice : ∀ {o : Option Int}, WOk o → Nice 1000000000 8 (wD o) ∧ wt (wD o) ≤ 25 ∧ (wD o).depth = 0
  | none, _ => ⟨trivial, by show 4 ≤ 25; decide, rfl⟩
  | some i, h => ⟨by show i.natAbs ≤ 1000000000; have h' : -1000000000 ≤ i ∧ i ≤ 1000000000 := h; omega, Nat.le_refl _, rfl⟩
theorem col_nice {x : Col} (h1 : NameOk x.1) (h2 : WOk x.2) : Nice 1000000000 8 (colD x) ∧ wt (colD x) ≤ 129 ∧ (colD x).depth ≤ 1 := by
  obtain ⟨a1, a2⟩ := name_nice h1 1000000000 8
  obtain ⟨b1, b2, b3⟩ := w_nice h2
  refine ⟨⟨by show 2 ≤ 8; decide, a1, b1, trivial⟩, ?_, ?_⟩
  · show 6 + (wt (.str x.1) + 3 + (wt (wD x.2) + 3 + 0)) ≤ 129
    omega
  · show max 0 (max (wD x.2).depth 0) + 1 ≤ 1
    rw [b3]; decide
theorem sum_le {α : Type} {f : α → PyData} {n : Nat} : ∀ {l : List α}, (∀ x ∈ l, wt (f x) ≤ n) → wtAll (l.map f) ≤ l.length * (n + 3)
  | [], _ => Nat.zero_le _
  | x :: l, h => by
    have h1 := h x (List.mem_cons_self ..)
    have h2 := sum_le fun y hy => h y (List.mem_cons_of_mem x hy)
    show wt (f x) + 3 + wtAll (l.map f) ≤ (l.length + 1) * (n + 3)
    rw [Nat.add_mul]
    omega
theorem all_nice {α : Type} {f : α → PyData} {B L : Nat} {l : List α} (h : ∀ x ∈ l, Nice B L (f x)) : NiceAll B L (l.map f) := niceAll_iff.mpr fun d hd => by
  obtain ⟨x, hx, rfl⟩ := List.mem_map.mp hd
  exact h x hx
theorem all_depth {α : Type} {f : α → PyData} {n : Nat} {l : List α} (h : ∀ x ∈ l, (f x).depth ≤ n) : PyData.depthAll (l.map f) ≤ n := depthAll_le fun d hd => by
  obtain ⟨x, hx, rfl⟩ := List.mem_map.mp hd
  exact h x hx
theorem tab_nice {n : Nat} {x : Tab} (hn : n ≤ 8) (h1 : NameOk x.1) (h2 : ColsOk n x.2) : Nice 1000000000 8 (tabD x) ∧ wt (tabD x) ≤ 1166 ∧ (tabD x).depth ≤ 3 := by
  obtain ⟨a1, a2⟩ := name_nice h1 1000000000 8
  have cn := fun y hy => col_nice (h2.nm y hy) (h2.w y hy)
  have l8 : x.2.length ≤ 8 := Nat.le_trans h2.top hn
  have ws := sum_le (f := colD) (n := 129) fun y hy => (cn y hy).2.1
  refine ⟨⟨by show 2 ≤ 8; decide, a1, ⟨by rw [List.length_map]; exact l8, all_nice fun y hy => (cn y hy).1⟩, trivial⟩, ?_, ?_⟩
  · show 6 + (wt (.str x.1) + 3 + ((6 + wtAll (x.2.map colD)) + 3 + 0)) ≤ 1166
    have : x.2.length * (129 + 3) ≤ 8 * 132 := Nat.mul_le_mul_right _ l8
    omega
  · have := all_depth (f := colD) (n := 1) fun y hy => (cn y hy).2.2
    show max 0 (max (PyData.depthAll (x.2.map colD) + 1) 0) + 1 ≤ 3
    omega
theorem tabs_nice {n : Nat} {ts : List Tab} (hn : n ≤ 8) (hl : ts.length ≤ 8) (h : TabsOk n ts) : Nice 1000000000 8 (.tuple (ts.map tabD)) ∧ wt (.tuple (ts.map tabD)) ≤ 10000 ∧ (PyData.tuple (ts.map tabD)).depth ≤ 4 := by
  have tn := fun y hy => tab_nice hn (h.nm y hy) (h.cs y hy).1
  have ws := sum_le (f := tabD) (n := 1166) fun y hy => (tn y hy).2.1
  refine ⟨⟨by rw [List.length_map]; exact hl, all_nice fun y hy => (tn y hy).1⟩, ?_, ?_⟩
  · show 6 + wtAll (ts.map tabD) ≤ 10000
    have : ts.length * (1166 + 3) ≤ 8 * 1169 := Nat.mul_le_mul_right _ hl
    omega
  · have := all_depth (f := tabD) (n := 3) fun y hy => (tn y hy).2.2
    show PyData.depthAll (ts.map tabD) + 1 ≤ 4
    omega

theorem wtAll_le {n : Nat} : ∀ {l : List PyData}, (∀ x ∈ l, wt x ≤ n) → wtAll l ≤ l.length * (n + 3)
  | [], _ => Nat.zero_le _
  | x :: l, h => by
    have h1 := h x (List.mem_cons_self ..)
    have h2 := wtAll_le fun y hy => h y (List.mem_cons_of_mem x hy)
    show wt x + 3 + wtAll l ≤ (l.length + 1) * (n + 3)
    rw [Nat.add_mul]
    omega
theorem w61 {o : Option Int} (h : WOk o) (L : Nat) : Nice 1000000000 L (wD o) ∧ wt (wD o) ≤ 25 ∧ (wD o).depth = 0 := by
  cases o with
  | none => exact ⟨trivial, by show 4 ≤ 25; decide, rfl⟩
  | some i => exact ⟨by have := h.1; have := h.2; show i.natAbs ≤ 1000000000; omega, Nat.le_refl _, rfl⟩
theorem row61 {n : Nat} (hn : n ≤ 5) {r : Rw} (h : RwOk n r) : Nice 1000000000 61 (rowD r) ∧ wt (rowD r) ≤ 146 ∧ (rowD r).depth ≤ 1 := by
  have ws := sum_le (f := wD) (n := 25) (l := r) fun o ho => (w61 (h.w o ho) 61).2.1
  have hl := h.len
  refine ⟨⟨by rw [List.length_map]; omega, all_nice fun o ho => (w61 (h.w o ho) 61).1⟩, ?_, ?_⟩
  · show 6 + wtAll (r.map wD) ≤ 146
    omega
  · have := all_depth (f := wD) (l := r) (n := 0) fun o ho => Nat.le_of_eq (w61 (h.w o ho) 61).2.2
    show PyData.depthAll (r.map wD) + 1 ≤ 1
    omega
theorem rows_nice {n : Nat} (hn : n ≤ 5) {rs : List Rw} (h : RwsOk n rs) (l : rs.length ≤ 61) : Nice 1000000000 61 (rowsD rs) ∧ wt (rowsD rs) ≤ 6 + rs.length * 149 ∧ (rowsD rs).depth ≤ 2 := by
  have tn := fun y hy => row61 hn (h.row y hy)
  have ws := sum_le (f := rowD) (n := 146) fun y hy => (tn y hy).2.1
  refine ⟨⟨by rw [List.length_map]; exact l, all_nice fun y hy => (tn y hy).1⟩, ?_, ?_⟩
  · show 6 + wtAll (rs.map rowD) ≤ _
    omega
  · have := all_depth (f := rowD) (n := 1) fun y hy => (tn y hy).2.2
    show PyData.depthAll (rs.map rowD) + 1 ≤ 2
    omega
theorem wtAll_sum {α : Type} {f : α → PyData} {g : α → Nat} : ∀ {l : List α}, (∀ x ∈ l, wt (f x) ≤ g x) → wtAll (l.map f) ≤ (l.map g).sum + l.length * 3
  | [], _ => Nat.zero_le _
  | x :: l, h => by
    have h1 := h x (List.mem_cons_self ..)
    have h2 := wtAll_sum fun y hy => h y (List.mem_cons_of_mem x hy)
    show wt (f x) + 3 + wtAll (l.map f) ≤ (g x + (l.map g).sum) + (l.length + 1) * 3
    omega
theorem sum_lin {α : Type} (f : α → Nat) (a b : Nat) : ∀ l : List α, (l.map fun x => a + f x * b).sum = l.length * a + (l.map f).sum * b
  | [] => by simp
  | x :: l => by
    rw [List.map_cons, List.sum_cons, sum_lin f a b l, List.map_cons, List.sum_cons, List.length_cons, Nat.add_mul, Nat.add_mul]
    omega
theorem cont_rows {L : Nat} {ts : List Tab} {ct : List (List Rw)} (h : ContOk L ts ct) (okt : TabsOk 5 ts) {rs : List Rw} (hm : rs ∈ ct) : ∃ n, 1 ≤ n ∧ n ≤ 5 ∧ RwsOk n rs := by
  obtain ⟨i, hi⟩ := List.getElem?_of_mem hm
  have hl := (List.getElem?_eq_some_iff.mp hi).1
  have hl2 : i < ts.length := by rw [← h.len]; exact hl
  have ht : ts[i]? = some ts[i] := List.getElem?_eq_getElem hl2
  have hmt := List.mem_of_getElem? ht
  exact ⟨_, (okt.cs _ hmt).2, (okt.cs _ hmt).1.top, h.rows i _ rs ht hi⟩
theorem mem_sum : ∀ {l : List Nat} {n : Nat}, n ∈ l → n ≤ l.sum
  | a :: l, n, h => by
    rw [List.sum_cons]
    rcases List.mem_cons.mp h with rfl | h
    · omega
    · have := mem_sum h; omega
theorem cont_nice {L : Nat} {ts : List Tab} {ct : List (List Rw)} (h : ContOk L ts ct) (okt : TabsOk 5 ts) (l8 : ts.length ≤ 8) (hs : (ct.map List.length).sum ≤ 61) : Nice 1000000000 61 (contD ct) ∧ wt (contD ct) ≤ 9200 ∧ (contD ct).depth ≤ 3 := by
  have few : ∀ rs ∈ ct, rs.length ≤ 61 := fun rs hm => by
    have : rs.length ∈ ct.map List.length := List.mem_map.mpr ⟨rs, hm, rfl⟩
    have := mem_sum this
    omega
  have tn : ∀ rs ∈ ct, Nice 1000000000 61 (rowsD rs) ∧ wt (rowsD rs) ≤ 6 + rs.length * 149 ∧ (rowsD rs).depth ≤ 2 := fun rs hm => by
    obtain ⟨n, _, hn, ho⟩ := cont_rows h okt hm
    exact rows_nice hn ho (few rs hm)
  have lct := h.len
  have ws := wtAll_sum (f := rowsD) (g := fun rs => 6 + rs.length * 149) fun y hy => (tn y hy).2.1
  rw [sum_lin] at ws
  refine ⟨⟨by rw [List.length_map]; omega, all_nice fun y hy => (tn y hy).1⟩, ?_, ?_⟩
  · show 6 + wtAll (ct.map rowsD) ≤ 9200
    have : (ct.map List.length).sum * 149 ≤ 61 * 149 := Nat.mul_le_mul_right _ hs
    omega
  · have := all_depth (f := rowsD) (n := 2) fun y hy => (tn y hy).2.2
    show PyData.depthAll (ct.map rowsD) + 1 ≤ 3
    omega
theorem shows_more {B L : Nat} {d : PyData} (h : Nice B L d) (hB : B ≤ 10 ^ 20) (hd : d.depth ≤ 60) (hw : wt d ≤ 1000000) : Shows d :=
  ⟨(showable_nice hB h).1, (showable_nice hB h).2, hd, Nat.le_trans (shown_len hB h) (Nat.le_trans hw (by decide))⟩
theorem tabs_all {K : PySem.W.Frag} {H : Hp} {tp : Addr} {ts : List Tab} (h : Tabs K H tp ts) : Nice 1000000000 8 (.tuple (ts.map tabD)) ∧ wt (.tuple (ts.map tabD)) ≤ 10000 ∧ (PyData.tuple (ts.map tabD)).depth ≤ 4 := tabs_nice (by decide) h.l8 h.ok
end TT

set_option Elab.async false
set_option linter.all false
set_option maxRecDepth 100000
namespace TT
open PySem PySem.Spec PyProof.Rows L2
theorem tns_ok {ts : List Tab} (h : TabsOk 5 ts) : ∀ z ∈ tns ts, NameOk z := fun z hz => by
  obtain ⟨x, hx, rfl⟩ := List.mem_map.mp hz
  exact h.nm x hx
theorem cns_ok {ts : List Tab} (h : TabsOk 5 ts) {t : Str} (ht : t ∈ tns ts) : (∀ z ∈ cns ts t, NameOk z) ∧ 0 < (cns ts t).length ∧ (cns ts t).length ≤ 5 ∧ (cns ts t).Nodup := by
  obtain ⟨x, hx, rfl, e⟩ := tab_of h.nd ht
  unfold cns
  rw [e]
  obtain ⟨c, l⟩ := h.cs x hx
  refine ⟨fun z hz => ?_, by rw [List.length_map]; exact l, by rw [List.length_map]; exact c.top, c.nd⟩
  obtain ⟨y, hy, rfl⟩ := List.mem_map.mp hz
  exact c.nm y hy
theorem inS_str {zs : List Str} {d : PyData} (h : inS zs d = true) : ∃ z, d = .str z ∧ z ∈ zs := by
  cases d with
  | str z => exact ⟨z, rfl, of_decide_eq_true h⟩
  | _ => cases h
/-- the names of the tables as they are told by table_names -/
theorem namesOf_tabs (ts : List Tab) : namesOf (ts.map tabD) = tns ts := by
  unfold namesOf
  rw [List.map_map]
  rfl
theorem strName_tabs (ts : List Tab) : (ts.map tabD).all strName = true := List.all_eq_true.mpr fun d hd => by
  obtain ⟨x, _, rfl⟩ := List.mem_map.mp hd
  rfl
theorem u65 {k : Nat} {A : Around} (r : Room k A) : A.units + 65 < cLine := by have := r.un; omega
section
variable {P : Program} {w : World} {K : PySem.W.Frag} {mg : Str → Option Value} {base : Heap}
/-- names of what is told to be pairs, by a comprehension with two targets -/
def spNamesOf (K : PySem.W.Frag) : Sp := fun vs H Q _ => ∃ (p : Addr) (xs : List V) (ds : List PyData), vs = [.ref p] ∧ SqT K H p xs ∧ DpAll K H xs ds ∧ ds.length ≤ 900 ∧ ds.all strName = true ∧
  ∀ (D : Addr) (H' : Hp), Same H H' → H' D = some (.lst ((namesOf ds).map V.str)) → Q (.ref D) H'
abbrev s_table_names : Stmt := topS 9
abbrev N_table_names : List Str := ["tables", "table", "_"]
theorem sc_table_names : FnScope N_table_names ["tables"] (defScope s_table_names) := ⟨rfl, rfl, rfl, by decide +kernel, rfl, by decide +kernel, by decide +kernel⟩

theorem ok_table_names {f : Addr} {fd : FuncData} (F : Fun K "table_names" "table_names" s_table_names f fd) : FnOk P w K mg base CX0 1 f fd ["tables"] (spNamesOf K) := by
  refine F.ok sc_table_names (fun vs H Q E h => ?_) (fun cdv A outer sh H vs Q E hr h => ?_)
  · obtain ⟨p, xs, ds, rfl, _⟩ := h
    rfl
  obtain ⟨p, xs, ds, rfl, hS, hA, hl, hn, q⟩ := h
  have nd := sc_table_names.nd
  refine ⟨_, (pss_one (ps_ret (pe_lc (own := [("table", 1), ("_", 2)]) (g := (gTup _ 2 (gCons (gName 1) (gCons (gName 2) gNil)))) (tt := tYes) rfl nd (pi_tup (pv 0)) (blkOk_by (N := N_table_names) (sc := defScope s_table_names) (by decide +kernel)) (fun _ _ _ _ _ => (pg_tup rfl (pgs_cons (pg_name (i := 1) nd rfl (Or.inl rfl)) (pgs_cons (pg_name (i := 2) nd rfl (Or.inl rfl)) pgs_nil)))) (fun _ _ _ _ _ => pts_nil) (fun _ _ _ _ _ => (pv 1))))), ?_⟩
  have l := dpAll_len hA
  refine ⟨.ref p, rfl, p, rfl, ⟨_, hS⟩, fun D nD => ?_⟩
  refine lc_it walk_tup (PvM H D fun i => .str (strOf (fstD (ds.getD i .none)))) (pvm_start ..) (fun i H2 _ hP => sameT (pvm_same hP nD) hS) (fun i x H2 H3 hi hP hY => ?_) (fun H2 hP => ?_)
  · obtain ⟨rfl, hx⟩ := hY
    have sm := pvm_same hP nD
    obtain ⟨d, h1, h2⟩ := dpAll_get i hA hx
    have hd := List.all_eq_true.mp hn d (List.mem_of_getElem? h1)
    unfold strName at hd
    rw [Bool.and_eq_true] at hd
    obtain ⟨pt, x1, y1, a, b, rfl, rfl, hT, ha, hb⟩ := tup2 h2 hd.1
    obtain ⟨z, rfl, rfl⟩ : ∃ z, a = .str z ∧ x1 = .str z := by
      have h3 : isSB a = true := hd.2
      cases ha <;> first | exact ⟨_, rfl, rfl⟩ | cases h3
    refine ⟨pt, _, rfl, sameT sm hT, rfl, .str z, _, rfl, y1, _, rfl, rfl, ?_⟩
    refine ⟨rfl, ?_⟩
    unfold tYes
    dsimp only
    refine iteT ?_
    refine ⟨.str z, rfl, pvm_step hP (Same.refl _) ?_ (by omega)⟩
    show V.str z = .str (strOf (fstD (ds.getD i .none)))
    rw [List.getD_eq_getElem?_getD, h1]
    rfl
  · refine q D H2 (pvm_same hP nD) ?_
    rw [hP.1, l]
    unfold namesOf
    rw [List.map_map]
    have e := range_map (fun d => V.str (strOf (fstD d))) .none ds
    rw [e]
    rfl
def spColumnsOf (K : PySem.W.Frag) : Sp := fun vs H Q _ => ∃ (tp : Addr) (ts : List Tab) (t : Str), vs = [.ref tp, .str t] ∧ Tabs K H tp ts ∧ t ∈ tns ts ∧ ∀ (pc : Addr) (ys : List V), SqT K H pc ys → DpAll K H ys ((colsOf ts t).map colD) → Q (.ref pc) H
abbrev s_columns_of : Stmt := topS 11
abbrev N_columns_of : List Str := ["tables", "table", "name", "columns"]
theorem sc_columns_of : FnScope N_columns_of ["tables", "table"] (defScope s_columns_of) := ⟨rfl, rfl, rfl, by decide +kernel, rfl, by decide +kernel, by decide +kernel⟩

theorem ok_columns_of {f : Addr} {fd : FuncData} (F : Fun K "_columns_of" "_columns_of" s_columns_of f fd) : FnOk P w K mg base CX0 1 f fd ["tables", "table"] (spColumnsOf K) := by
  refine F.ok sc_columns_of (fun vs H Q E h => ?_) (fun cdv A outer sh H vs Q E hr h => ?_)
  · obtain ⟨tp, ts, t, rfl, _⟩ := h
    rfl
  obtain ⟨tp, ts, t, rfl, hT, ht, q⟩ := h
  have nd := sc_columns_of.nd
  refine ⟨_, (pss_cons (ps_for PassesOwn.never rfl (pi_tup (pv 0)) (pg_tup rfl (pgs_cons (pg_name (i := 2) nd rfl (Or.inl rfl)) (pgs_cons (pg_name (i := 3) nd rfl (Or.inl rfl)) pgs_nil)))
        (pss_one (ps_if (pt_cmpR op_eq (pv 2) (pv 1) (nomark _))
          (pss_one (ps_ret (pv 3)))
          pss_nil)))
      (pss_one ps_nv)), ?_⟩
  obtain ⟨xs, hS, hA, l⟩ := hT.parts
  refine ⟨.ref tp, rfl, tp, rfl, ⟨_, hS⟩, ?_⟩
  refine for_tup (K := K) (a := tp) (xs := xs) (fun i σ H' => (∃ y2 y3, σ = [some (.ref tp), some (.str t), y2, y3]) ∧ H' = H ∧ t ∉ (tns ts).take i) ⟨⟨none, none, rfl⟩, rfl, by simp⟩ (fun i σ H' _ hP => by rw [hP.2.1]; exact hS) (fun i x σ H' hx hP => ?_) (fun σ H' hP => ?_)
  · obtain ⟨⟨y2, y3, rfl⟩, rfl, hn⟩ := hP
    obtain ⟨tb, qq, pc, ys, htb, rfl, h1, h2, h3⟩ := tab_at hA hx
    refine ⟨qq, _, rfl, h1, rfl, .str tb.1, _, rfl, .ref pc, _, rfl, rfl, ?_⟩
    refine ⟨.str tb.1, rfl, .str t, rfl, rfl, _, rfl, ite2 (fun e => ?_) (fun e => ?_)⟩
    · obtain rfl : tb.1 = t := V.str.inj (of_decide_eq_true e)
      refine ⟨.ref pc, rfl, q pc ys h2 ?_⟩
      rw [colsOf_mem hT.ok.nd (List.mem_of_getElem? htb)]
      exact h3
    · refine ⟨⟨_, _, rfl⟩, rfl, fun z => ?_⟩
      rw [List.take_add_one, List.getElem?_map, htb] at z
      rcases List.mem_append.mp z with z | z
      · exact hn z
      · have : t = tb.1 := by simpa using z
        exact e (decide_eq_true (by rw [this]))
  · obtain ⟨_, _, hn⟩ := hP
    rw [l, ← tns_len, List.take_length] at hn
    exact hn ht
/-- a list of the names of a table's columns -/
def spColNames (K : PySem.W.Frag) : Sp := fun vs H Q _ => ∃ (tp : Addr) (ts : List Tab) (t : Str), vs = [.ref tp, .str t] ∧ Tabs K H tp ts ∧ t ∈ tns ts ∧ ∀ (D : Addr) (H' : Hp), Same H H' → H' D = some (.lst ((cns ts t).map V.str)) → Q (.ref D) H'
abbrev s_column_names : Stmt := topS 10
abbrev N_column_names : List Str := ["tables", "table", "column", "_"]
theorem sc_column_names : FnScope N_column_names ["tables", "table"] (defScope s_column_names) := ⟨rfl, rfl, rfl, by decide +kernel, rfl, by decide +kernel, by decide +kernel⟩

theorem ok_column_names {f : Addr} {fd : FuncData} (F : Fun K "column_names" "column_names" s_column_names f fd) (D_columns_of : Def P w K mg base 1 "_columns_of" ["tables", "table"] (spColumnsOf K)) : FnOk P w K mg base CX0 2 f fd ["tables", "table"] (spColNames K) := by
  refine F.ok sc_column_names (fun vs H Q E h => ?_) (fun cdv A outer sh H vs Q E hr h => ?_)
  · obtain ⟨tp, ts, t, rfl, _⟩ := h
    rfl
  obtain ⟨tp, ts, t, rfl, hT, ht, q⟩ := h
  have nd := sc_column_names.nd
  refine ⟨_, (pss_one (ps_ret (pe_lc (own := [("column", 2), ("_", 3)]) (g := (gTup _ 2 (gCons (gName 2) (gCons (gName 3) gNil)))) (tt := tYes) rfl nd (pi_tup (pe_own D_columns_of hr (pa_cons (pv 0) (pa_cons (pv 1) pa_nil)))) (blkOk_by (N := N_column_names) (sc := defScope s_column_names) (by decide +kernel)) (fun _ _ _ _ _ => (pg_tup rfl (pgs_cons (pg_name (i := 2) nd rfl (Or.inl rfl)) (pgs_cons (pg_name (i := 3) nd rfl (Or.inl rfl)) pgs_nil)))) (fun _ _ _ _ _ => pts_nil) (fun _ _ _ _ _ => (pv 2))))), ?_⟩
  refine ⟨.ref tp, rfl, .str t, rfl, tp, ts, t, rfl, hT, ht, fun pc ys hS hA => ⟨pc, rfl, ⟨_, hS⟩, fun D nD => ?_⟩⟩
  have l : ys.length = (cns ts t).length := by rw [dpAll_len hA, List.length_map, List.length_map]
  have l8 : (cns ts t).length ≤ 5 := by
    obtain ⟨x, hx, _, e⟩ := tab_of hT.ok.nd ht
    unfold cns
    rw [e, List.length_map]
    exact (hT.ok.cs x hx).1.top
  refine lc_it walk_tup (PvM H D fun i => .str ((cns ts t).getD i Str.empty)) (pvm_start ..) (fun i H2 _ hP => sameT (pvm_same hP nD) hS) (fun i x H2 H3 hi hP hY => ?_) (fun H2 hP => ?_)
  · obtain ⟨rfl, hx⟩ := hY
    have sm := pvm_same hP nD
    obtain ⟨co, qc, yc, hco, rfl, hqc⟩ := col_at hA hx
    refine ⟨qc, _, rfl, sameT sm hqc, rfl, .str co.1, _, rfl, yc, _, rfl, rfl, ?_⟩
    refine ⟨rfl, ?_⟩
    unfold tYes
    dsimp only
    refine iteT ?_
    refine ⟨.str co.1, rfl, pvm_step hP (Same.refl _) ?_ (by omega)⟩
    show V.str co.1 = .str ((cns ts t).getD i Str.empty)
    rw [getD_of (show (cns ts t)[i]? = some co.1 by rw [List.getElem?_map, hco]; rfl)]
  · refine q D H2 (pvm_same hP nD) ?_
    rw [hP.1, l]
    have e := range_map (fun z => V.str z) Str.empty (cns ts t)
    rw [e]
end
end TT

set_option Elab.async false
set_option linter.all false
set_option maxRecDepth 100000
namespace TT
open PySem PySem.Spec PyProof.Rows L2
/-! ### deeds as plain data -/
inductive Deed
  | put (t : Str) (r : Rw)
  | drop (t : Str) (k : Int)
  | sweep (t col : Str) (o : Option Int)
  | shift (t col : Str) (b : Int)
  | set (t : Str) (k : Int) (col : Str) (o : Option Int)
def deedD : Deed → PyData
  | .put t r => .tuple [.str "put", .str t, rowD r]
  | .drop t k => .tuple [.str "drop", .str t, .int k]
  | .sweep t col o => .tuple [.str "sweep", .str t, .str col, wD o]
  | .shift t col b => .tuple [.str "shift", .str t, .str col, .int b]
  | .set t k col o => .tuple [.str "set", .str t, .int k, .str col, wD o]
abbrev BOk (i : Int) : Prop := -1000000000 ≤ i ∧ i ≤ 1000000000
def DeedOk (ts : List Tab) : Deed → Prop
  | .put t r => t ∈ tns ts ∧ RwOk (cns ts t).length r
  | .drop t k => t ∈ tns ts ∧ BOk k
  | .sweep t col o => t ∈ tns ts ∧ col ∈ cns ts t ∧ WOk o
  | .shift t col b => t ∈ tns ts ∧ col ∈ cns ts t ∧ BOk b
  | .set t k col o => t ∈ tns ts ∧ BOk k ∧ col ∈ cns ts t ∧ WOk o ∧ ((cns ts t).head? = some col → o ≠ none)
theorem dpAll_ws {K : PySem.W.Frag} {H : Hp} : ∀ {r : Rw} {us : List V}, DpAll K H us (r.map wD) → us = r.map wV
  | [], _, .nil => rfl
  | none :: r, _, .cons h t => by cases h; rw [dpAll_ws t]; rfl
  | some i :: r, _, .cons h t => by cases h; rw [dpAll_ws t]; rfl
theorem row_dp {K : PySem.W.Frag} {H : Hp} {v : V} {r : Rw} (h : Dp K H v (rowD r)) : ∃ p, v = .ref p ∧ SqT K H p (r.map wV) := by
  cases h with
  | tup h1 h2 =>
    have := dpAll_ws h2
    subst this
    exact ⟨_, rfl, h1⟩
theorem rows_dp {K : PySem.W.Frag} {H : Hp} {v : V} {rs : List Rw} (h : Dp K H v (rowsD rs)) : ∃ p xs, v = .ref p ∧ SqL K H p xs ∧ DpAll K H xs (rs.map rowD) ∧ xs.length = rs.length := by
  cases h with
  | lst h1 h2 => exact ⟨_, _, rfl, h1, h2, by rw [dpAll_len h2, List.length_map]⟩
theorem cont_dp {K : PySem.W.Frag} {H : Hp} {v : V} {ct : List (List Rw)} (h : Dp K H v (contD ct)) : ∃ p xs, v = .ref p ∧ SqL K H p xs ∧ DpAll K H xs (ct.map rowsD) ∧ xs.length = ct.length := by
  cases h with
  | lst h1 h2 => exact ⟨_, _, rfl, h1, h2, by rw [dpAll_len h2, List.length_map]⟩
theorem cont_at {K : PySem.W.Frag} {H : Hp} {xs : List V} {ct : List (List Rw)} {i : Nat} {x : V} (h : DpAll K H xs (ct.map rowsD)) (hx : xs[i]? = some x) : ∃ rs, ct[i]? = some rs ∧ Dp K H x (rowsD rs) := by
  obtain ⟨d, h1, h2⟩ := dpAll_get i h hx
  rw [List.getElem?_map] at h1
  obtain ⟨rs, hr, rfl⟩ := Option.map_eq_some_iff.mp h1
  exact ⟨rs, hr, h2⟩
theorem row_at' {K : PySem.W.Frag} {H : Hp} {xs : List V} {rs : List Rw} {i : Nat} {x : V} (h : DpAll K H xs (rs.map rowD)) (hx : xs[i]? = some x) : ∃ r p, rs[i]? = some r ∧ x = .ref p ∧ SqT K H p (r.map wV) := by
  obtain ⟨d, h1, h2⟩ := dpAll_get i h hx
  rw [List.getElem?_map] at h1
  obtain ⟨r, hr, rfl⟩ := Option.map_eq_some_iff.mp h1
  obtain ⟨p, e, hp⟩ := row_dp h2
  exact ⟨r, p, hr, e, hp⟩
theorem out2 {H : Hp} {s c p : Addr} {T : Nat} (S : StAt H s c T) (n : H p = none) : p ∉ [s, c] := (mask0 S).new n
theorem fr {H H' : Hp} {s c p : Addr} {T : Nat} (K : Kept [s, c] H H') (S : StAt H' s c T) (n : H' p = none) : H p = none := K.fresh n (by
  intro q hq
  simp only [List.mem_cons, List.not_mem_nil, or_false] at hq
  rcases hq with rfl | rfl
  · exact S.nes n
  · exact S.nec n)
theorem outX {H : Hp} {s c p : Addr} {T : Nat} {xs : List V} (S : StAt H s c T) (e : H p = some (.tup xs)) : p ∉ [s, c] := by
  intro z
  simp only [List.mem_cons, List.not_mem_nil, or_false] at z
  rcases z with rfl | rfl
  · obtain ⟨t, _, e'⟩ := S.ex
    rw [e] at e'; cases e'
  · obtain ⟨ns, _, _, e'⟩ := S.cs
    rw [e] at e'; cases e'
section
variable {P : Program} {w : World} {K : PySem.W.Frag} {mg : Str → Option Value} {base : Heap}
def spDeed (K : PySem.W.Frag) : Sp := fun vs H Q _ => ∃ (s c tp cp : Addr) (T L : Nat) (ts : List Tab) (ct : List (List Rw)), vs = [.ref s, .ref tp, .ref cp] ∧ StAt H s c T ∧ T + 100 ≤ 1000000 ∧ L ≤ 60 ∧ Tabs K (msk [s, c] H) tp ts ∧ ContOk L ts ct ∧ (∀ rs ∈ ct, ∀ r ∈ rs, -100000000 ≤ keyW r ∧ keyW r < 100000000) ∧ Dp K (msk [s, c] H) (.ref cp) (contD ct) ∧
  ∀ (p : Addr) (dd : Deed) (H' : Hp), DeedOk ts dd → H p = none → Dp K (msk [s, c] H') (.ref p) (deedD dd) → StAt H' s c (T + 100) → Kept [s, c] H H' → Q (.ref p) H'
abbrev s_law_deed : Stmt := topS 27
abbrev N_law_deed : List Str := ["state", "tables", "content", "at", "table", "columns", "keys", "key", "place", "way", "others", "worths", "worth", "row", "column"]
theorem sc_law_deed : FnScope N_law_deed ["state", "tables", "content"] (defScope s_law_deed) := ⟨rfl, rfl, rfl, by decide +kernel, rfl, by decide +kernel, by decide +kernel⟩

set_option maxHeartbeats 8000000 in
theorem ok_deed {f : Addr} {fd : FuncData} (F : Fun K "_law_deed" "_law_deed" s_law_deed f fd) (nb : NB mg) (D_law_take : Def P w K mg base 1 "_law_take" ["state", "many"] spTake) (D_law_some : Def P w K mg base 2 "_law_some" ["state", "things"] (spSome K))
    (D_law_near : Def P w K mg base 3 "_law_near" ["state", "low", "many"] spNear) : FnOk P w K mg base CX0 4 f fd ["state", "tables", "content"] (spDeed K) := by
  refine F.ok sc_law_deed (fun vs H Q E h => ?_) (fun cdv A outer sh H vs Q E hr h => ?_)
  · obtain ⟨s, c, tp, cp, T, L, ts, ct, rfl, _⟩ := h
    rfl
  · obtain ⟨s, c, tp, cp, T, L, ts, ct, rfl, S, hT, hL, hTt, okc, kb, dct, q⟩ := h
    have nd := sc_law_deed.nd
    have hu := hu_of hr
    refine ⟨_, (pss_cons (ps_set (i := 3) nd rfl (Or.inl rfl) (pe_own D_law_take hr (pa_cons (pv 0) (pa_cons (pe_callB call_len_seq (by rfl) nb.b_len (by decide +kernel) (pa_cons (pv 1) pa_nil)) pa_nil))))
      (pss_cons (ps_asg (pe_ix ix_tup (pv 1) (pv 3) (fun _ _ => rfl)) (pg_tup rfl (pgs_cons (pg_name (i := 4) nd rfl (Or.inl rfl)) (pgs_cons (pg_name (i := 5) nd rfl (Or.inl rfl)) pgs_nil))))
      (pss_cons (ps_setLc (i := 6) (own := [("row", 13)]) (g := (gName 13)) (tt := tYes) rfl nd rfl rfl (sw_true rfl rfl rfl (by decide +kernel)) (pi_list (pe_ix ix_list (pv 2) (pv 3) (fun _ _ => rfl))) (blkOk_by (N := N_law_deed) (sc := defScope s_law_deed) (by decide +kernel)) (fun _ _ _ _ _ => (pg_name (i := 13) nd rfl (Or.inl rfl))) (fun _ _ _ _ _ => pts_nil) (fun _ _ _ _ _ => (pe_ix (r := rIxT K) ix_tup (pv 13) pe_int (fun _ _ => rfl))))
      (pss_cons (ps_set (i := 7) nd rfl (Or.inr rfl) (pe_ifExp (PW.pt (pw_and (pt_cmpR (op_neD hr.units) (pv 6) (pe_lst pa_nil) (nomark _)) (pw_and1 (pt_cmpR op_gt (pe_own D_law_take hr (pa_cons (pv 0) (pa_cons pe_int pa_nil))) pe_int (nomark _))))) (pe_own D_law_some hr (pa_cons (pv 0) (pa_cons (pv 6) pa_nil))) (pe_op op_sub (pe_own D_law_take hr (pa_cons (pv 0) (pa_cons pe_int pa_nil))) pe_int)))
      (pss_cons (ps_asg (pe_tup (pa_cons (pe_own D_law_take hr (pa_cons (pv 0) (pa_cons (pe_callB call_len_seq (by rfl) nb.b_len (by decide +kernel) (pa_cons (pv 5) pa_nil)) pa_nil))) (pa_cons (pe_own D_law_take hr (pa_cons (pv 0) (pa_cons pe_int pa_nil))) pa_nil))) (pg_tup rfl (pgs_cons (pg_name (i := 8) nd rfl (Or.inr rfl)) (pgs_cons (pg_name (i := 9) nd rfl (Or.inl rfl)) pgs_nil))))
      (pss_cons (ps_set (i := 10) nd rfl (Or.inl rfl) (pe_op op_cat (pe_lc (own := [("row", 13)]) (g := (gName 13)) (tt := tYes) rfl nd (pi_list (pe_ix ix_list (pv 2) (pv 3) (fun _ _ => rfl))) (blkOk_by (N := N_law_deed) (sc := defScope s_law_deed) (by decide +kernel)) (fun _ _ _ _ _ => (pg_name (i := 13) nd rfl (Or.inl rfl))) (fun _ _ _ _ _ => pts_nil) (fun _ _ _ _ _ => (pe_ix (r := rIxT K) ix_tup (pv 13) (pv 8) (fun _ _ => rfl)))) (pe_lst (pa_cons pe_non (pa_cons pe_int pa_nil)))))
      (pss_cons (ps_if (pt_cmpR op_lt (pv 9) pe_int (nomark _))
        (pss_cons (ps_setLc (i := 11) (own := [("column", 14)]) (g := (gName 14)) (tt := tYes) rfl nd rfl rfl (sw_true rfl rfl rfl (by decide +kernel)) (pi_tup (pe_slice sl_tup (pv 5) (po_some pe_int) po_none)) (blkOk_by (N := N_law_deed) (sc := defScope s_law_deed) (by decide +kernel)) (fun _ _ _ _ _ => (pg_name (i := 14) nd rfl (Or.inl rfl))) (fun _ _ _ _ _ => pts_nil) (fun _ _ _ _ _ => (pe_own D_law_near hr (pa_cons (pv 0) (pa_cons (pv 7) (pa_cons pe_int pa_nil))))))
        (pss_one (ps_ret (pe_tup (pa_cons pe_str (pa_cons (pv 4) (pa_cons (pe_callTy call_tuple_of (by rfl) nb.b_tuple (by decide +kernel) (pa_cons (pe_op op_cat (pe_lst (pa_cons (pe_op op_add (pv 7) (pe_op op_mul (pe_own D_law_take hr (pa_cons (pv 0) (pa_cons pe_int pa_nil))) (pe_own D_law_take hr (pa_cons (pv 0) (pa_cons pe_int pa_nil))))) pa_nil)) (pv 11)) pa_nil)) pa_nil)))))))
        pss_nil)
      (pss_cons (ps_if (pt_cmpR op_lt (pv 9) pe_int (nomark _))
        (pss_one (ps_ret (pe_tup (pa_cons pe_str (pa_cons (pv 4) (pa_cons (pv 7) pa_nil))))))
        pss_nil)
      (pss_cons (ps_if (pt_cmpR op_lt (pv 9) pe_int (nomark _))
        (pss_one (ps_ret (pe_tup (pa_cons pe_str (pa_cons (pv 4) (pa_cons (pe_ix ix_seq (pe_ix ix_tup (pv 5) (pv 8) (fun _ _ => rfl)) pe_int (fun _ _ => rfl)) (pa_cons (pe_own D_law_some hr (pa_cons (pv 0) (pa_cons (pv 10) pa_nil))) pa_nil)))))))
        pss_nil)
      (pss_cons (ps_if (pt_cmpR op_eq (pv 9) pe_int (nomark _))
        (pss_one (ps_ret (pe_tup (pa_cons pe_str (pa_cons (pv 4) (pa_cons (pe_ix ix_seq (pe_ix ix_tup (pv 5) (pv 8) (fun _ _ => rfl)) pe_int (fun _ _ => rfl)) (pa_cons (pe_ix ix_list (pe_lst (pa_cons pe_int (pa_cons (pe_un un_neg pe_int) (pa_cons (pe_op op_sub (pe_own D_law_take hr (pa_cons (pv 0) (pa_cons pe_int pa_nil))) pe_int) (pa_cons pe_int pa_nil))))) (pe_own D_law_take hr (pa_cons (pv 0) (pa_cons pe_int pa_nil))) (fun _ _ => rfl)) pa_nil)))))))
        pss_nil)
      (pss_cons (ps_set (i := 8) nd rfl (Or.inr rfl) (pe_op op_mul (pv 8) (pe_callTy call_int1 (by rfl) nb.b_int (by decide +kernel) (pa_cons (pe_cmpR op_eq (pe_own D_law_take hr (pa_cons (pv 0) (pa_cons pe_int pa_nil))) pe_int (nomark _)) pa_nil))))
      (pss_cons (ps_set (i := 12) nd rfl (Or.inl rfl) (pe_ifExp (pt_cmpR op_eq (pv 8) pe_int (nomark _)) (pe_op op_sub (pe_op op_add (pv 7) (pe_own D_law_take hr (pa_cons (pv 0) (pa_cons pe_int pa_nil)))) pe_int) (pe_own D_law_some hr (pa_cons (pv 0) (pa_cons (pe_op op_cat (pv 10) (pe_lst (pa_cons (pe_own D_law_near hr (pa_cons (pv 0) (pa_cons (pv 7) (pa_cons pe_int pa_nil)))) pa_nil))) pa_nil)))))
      (pss_one (ps_ret (pe_tup (pa_cons pe_str (pa_cons (pv 4) (pa_cons (pv 7) (pa_cons (pe_ix ix_seq (pe_ix ix_tup (pv 5) (pv 8) (fun _ _ => rfl)) pe_int (fun _ _ => rfl)) (pa_cons (pv 12) pa_nil)))))))))))))))))))), ?_⟩
    obtain ⟨xs, hX⟩ : ∃ xs, TabX K (msk [s, c] H) tp ts xs := by
      obtain ⟨xs, h1, h2, _⟩ := hTt.parts
      exact ⟨xs, h1, h2⟩
    have okt := hTt.ok
    have l0 := hTt.l0
    have l8 := hTt.l8
    have lx := hX.len
    have sub := msk_sub [s, c]
    -- at
    refine ⟨.ref s, rfl, .ref tp, rfl, tp, xs, rfl, .inr (sameT (sub _) hX.sq), s, c, _, _, rfl, S, by omega, by omega, by omega, fun at' H1 a0 a1 S1 K1 => ?_⟩
    obtain ⟨j, rfl⟩ : ∃ j : Nat, at' = (j : Int) := ⟨at'.toNat, by omega⟩
    have hj : j < xs.length := by omega
    have m1 := (msk_same K1).trans (sub H1)
    -- table, columns
    obtain ⟨x, hx⟩ : ∃ x, xs[j]? = some x := ⟨_, List.getElem?_eq_getElem hj⟩
    obtain ⟨tb, qq, pc, ys, htb, rfl, h1, h2, h3⟩ := tab_at hX.dp hx
    have htm := List.mem_of_getElem? htb
    obtain ⟨okcol, lcol⟩ := okt.cs tb htm
    have lc5 := okcol.top
    have ly : ys.length = tb.2.length := by rw [dpAll_len h3, List.length_map]
    have ec : colsOf ts tb.1 = tb.2 := colsOf_mem okt.nd htm
    have ht : tb.1 ∈ tns ts := List.mem_map.mpr ⟨tb, htm, rfl⟩
    have lcn : (cns ts tb.1).length = tb.2.length := by rw [List.length_map, ec]
    refine ⟨.ref tp, rfl, .int j, rfl, tp, xs, j, .ref qq, rfl, rfl, sameT m1 hX.sq, atI_nat hx, qq, _, rfl, sameT m1 h1, rfl, .str tb.1, _, rfl, .ref pc, _, rfl, rfl, ?_⟩
    -- keys
    obtain ⟨p0, zs, e0, hCS, hCA, lz⟩ := cont_dp dct
    cases e0
    have lct := okc.len
    obtain ⟨xr, hxr⟩ : ∃ xr, zs[j]? = some xr := ⟨_, List.getElem?_eq_getElem (by omega)⟩
    obtain ⟨rs, hrs, hrd⟩ := cont_at hCA hxr
    obtain ⟨rp, us, rfl, hRS, hRA, lu⟩ := rows_dp hrd
    have okr := okc.rows j tb rs htb hrs
    have lrs := okc.few rs (List.mem_of_getElem? hrs)
    have kbr := kb rs (List.mem_of_getElem? hrs)
    refine ⟨.ref cp, rfl, .int j, rfl, cp, zs, j, .ref rp, rfl, rfl, m1.seq hCS, atI_nat hxr, rp, rfl, ⟨_, m1.seq hRS⟩, fun D nD => ?_⟩
    refine lc_it (walk_list (xs := us)) (PvM H1 D fun i => .int (keyW (rs.getD i []))) (pvm_start ..) (fun i H2 _ hP => (m1.trans (pvm_same hP nD)).seq hRS) (fun i x H2 H3 hi hP hY => ?_) (fun H2 hP => ?_)
    · obtain ⟨rfl, hx⟩ := hY
      obtain ⟨r, pr, hr1, rfl, hr2⟩ := row_at' hRA hx
      obtain ⟨k0, t0, rfl⟩ := (okr.row r (List.mem_of_getElem? hr1)).key
      refine ⟨rfl, ?_⟩
      unfold tYes
      dsimp only
      refine iteT ?_
      refine ⟨.ref pr, rfl, pr, _, 0, .int k0, rfl, rfl, sameT (m1.trans (pvm_same hP nD)) hr2, atI_nat (j := 0) rfl, pvm_step hP (Same.refl _) ?_ (by omega)⟩
      rw [getD_of hr1]; rfl
    have s2 := pvm_same hP nD
    have k2 := Kept.of_same (M := [s, c]) s2
    have eD : H2 D = some (.lst ((rs.map keyW).map V.int)) := by
      rw [hP.1, lu]
      have e := range_map (fun r => V.int (keyW r)) [] rs
      rw [e, List.map_map]; rfl
    have S2 := S1.same s2
    have oD := out2 S1 nD
    have K2 := K1.trans k2
    clear hP nD
    -- key
    have keyE : ∀ k : Int, k ∈ rs.map keyW → -100000000 ≤ k ∧ k < 100000000 := fun k hk => by
      obtain ⟨r, hr, rfl⟩ := List.mem_map.mp hk
      exact kbr r hr
    refine ⟨.ref D, rfl, Nat.zero_le _, fun p1 n1 => ?_⟩
    have s3 := same_upd (o := .lst []) n1
    refine ⟨.list ((rs.map keyW).map PyData.int), .list [], .lst (.inl (.inl (s3 _ _ eD))) (dp_ints _), .lst (.inl (.inl upd_same)) .nil, shaped_ints _, rfl, _, rfl, ?_⟩
    have S3 := S2.same s3
    have k3 := Kept.of_same (M := [s, c]) s3
    rw [eqv_nil]
    have eD3 := s3 _ _ eD
    generalize upd H2 p1 (.lst []) = H3 at s3 S3 k3 eD3 ⊢
    have K3 := K2.trans k3
    refine' (fun (rest : ∀ (key : Int) (H5 : Hp), (-100000000 ≤ key ∧ key < 100000000) → StAt H5 s c (T + 5) → Kept [s, c] H H5 → (_ : Int → Hp → Prop) key H5) => _) _
    rotate_left
    · refine ite2 (fun hE => ?_) (fun hE => ?_)
      · refine ⟨.ref s, rfl, s, c, _, _, rfl, S3, by omega, by decide, by decide, fun d4 H4 d40 d41 S4 K4 => ⟨_, _, rfl, rfl, _, rfl, ?_⟩⟩
        have eD4 := K4.at eD3 oD
        have K4' := K3.trans K4
        have hne : 0 < rs.length := by
          cases rs with
          | nil => cases hE
          | cons a r => exact Nat.zero_lt_succ _
        refine ite2 (fun hd4 => ?_) (fun hd4 => ?_)
        · refine ⟨.ref s, rfl, .ref D, rfl, s, c, D, _, _, rfl, S4, by omega, oD, .inl (.inl (.inl eD4)), by rw [List.length_map, List.length_map]; exact hne, by rw [List.length_map, List.length_map]; omega, fun i5 u5 H5 hu5 S5 K5 => ?_⟩
          obtain ⟨key, rfl, hkm⟩ : ∃ key : Int, u5 = V.int key ∧ key ∈ rs.map keyW := by
            rw [List.getElem?_map] at hu5
            obtain ⟨k, hk, rfl⟩ := Option.map_eq_some_iff.mp hu5
            exact ⟨k, rfl, List.mem_of_getElem? hk⟩
          exact rest key H5 (keyE key hkm) (S5.mono (by omega)) (K4'.trans K5)
        · refine ⟨.ref s, rfl, s, c, _, _, rfl, S4, by omega, by decide, by decide, fun d5 H5 d50 d51 S5 K5 => ⟨_, _, rfl, rfl, ?_⟩⟩
          exact rest (d5 - 3) H5 ⟨by omega, by omega⟩ (S5.mono (by omega)) (K4'.trans K5)
      · refine ⟨.ref s, rfl, s, c, _, _, rfl, S3, by omega, by decide, by decide, fun d5 H5 d50 d51 S5 K5 => ⟨_, _, rfl, rfl, ?_⟩⟩
        exact rest (d5 - 3) H5 ⟨by omega, by omega⟩ (S5.mono (by omega)) (K3.trans K5)
    · intro key H5 kk S5 K5'
      obtain ⟨kl, kh⟩ := kk
      show tSeq _ _ _ [some (.ref s), some (.ref tp), some (.ref cp), some (.int j), some (.str tb.1), some (.ref pc), some (.ref D), some (.int key), none, none, none, none, none, none, none] H5
      clear K3 k3 s3 S3 eD3 n1 S2 s2 k2 oD eD K2 m1
      have m5 := (msk_same K5').trans (sub H5)
      -- place, way
      refine ⟨.ref s, rfl, .ref pc, rfl, pc, ys, rfl, .inr (sameT m5 h2), s, c, _, _, rfl, S5, by omega, by omega, by omega, fun pl' H6 p0 p1 S6 K6 => ⟨.ref s, rfl, s, c, _, _, rfl, S6, by omega, by decide, by decide, fun way H7 w0 w1 S7 K7 => ⟨(by show 2 ≤ sizeLine; decide), fun pt nt => ⟨pt, _, rfl, .inl (.inl upd_same), rfl, .int pl', _, rfl, .int way, _, rfl, rfl, ?_⟩⟩⟩⟩
      obtain ⟨pl, rfl⟩ : ∃ pl : Nat, pl' = (pl : Int) := ⟨pl'.toNat, by omega⟩
      have hpl : pl < tb.2.length := by omega
      have S8 := S7.upd_new (o := .tup [.int pl, .int way]) nt
      have K8 : Kept [s, c] H (upd H7 pt (.tup [.int pl, .int way])) := K5'.trans (K6.trans (K7.trans (Kept.upd_new nt)))
      generalize upd H7 pt (.tup [.int pl, .int way]) = H8 at S8 K8 ⊢
      clear S7 S6 K7 K6 S5 K5' m5 nt
      have m8 := (msk_same K8).trans (sub H8)
      -- others
      refine ⟨.ref cp, rfl, .int j, rfl, cp, zs, j, .ref rp, rfl, rfl, m8.seq hCS, atI_nat hxr, rp, rfl, ⟨_, m8.seq hRS⟩, fun D2 nD2 => ?_⟩
      refine lc_it (walk_list (xs := us)) (PvM H8 D2 fun i => wV ((rs.getD i []).getD pl none)) (pvm_start ..) (fun i H9 _ hP => (m8.trans (pvm_same hP nD2)).seq hRS) (fun i x H9 H10 hi hP hY => ?_) (fun H9 hP => ?_)
      · obtain ⟨rfl, hx⟩ := hY
        obtain ⟨r, pr, hr1, rfl, hr2⟩ := row_at' hRA hx
        have lr := (okr.row r (List.mem_of_getElem? hr1)).len
        have hw : (r.map wV)[pl]? = some (wV (r.getD pl none)) := by
          have h5 : r[pl]? = some r[pl] := List.getElem?_eq_getElem (by omega)
          rw [List.getElem?_map, getD_of h5, h5]; rfl
        refine ⟨rfl, ?_⟩
        unfold tYes
        dsimp only
        refine iteT ?_
        refine ⟨.ref pr, rfl, .int pl, rfl, pr, _, pl, _, rfl, rfl, sameT (m8.trans (pvm_same hP nD2)) hr2, atI_nat hw, pvm_step hP (Same.refl _) ?_ (by omega)⟩
        rw [getD_of hr1]
      have s9 := pvm_same hP nD2
      obtain ⟨os0, eos⟩ : ∃ os0 : Rw, os0 = rs.map fun r => r.getD pl none := ⟨_, rfl⟩
      have los0 : os0.length = rs.length := by rw [eos, List.length_map]
      have wos0 : ∀ o ∈ os0, WOk o := fun o ho => by
        rw [eos] at ho
        obtain ⟨r, hr, rfl⟩ := List.mem_map.mp ho
        by_cases h5 : pl < r.length
        · rw [getD_of (List.getElem?_eq_getElem h5)]
          exact (okr.row r hr).w _ (List.getElem_mem _)
        · rw [List.getD_eq_getElem?_getD, List.getElem?_eq_none (by omega)]; trivial
      have eD2 : H9 D2 = some (.lst (os0.map wV)) := by
        rw [hP.1, lu, eos]
        have e := range_map (fun r : Rw => wV (r.getD pl none)) [] rs
        rw [e, List.map_map]; rfl
      refine ⟨(by show 2 ≤ sizeLine; decide), fun q1 nq1 => ?_⟩
      have nD21 : D2 ≠ q1 := ne_of_none eD2 nq1
      refine ⟨D2, q1, _, _, rfl, rfl, (by rw [upd_ne nD21]; exact eD2), upd_same, Nat.le_of_lt (small1000 (by rw [List.length_map, los0]; show rs.length + 2 ≤ 1000; omega)), fun O nO => ?_⟩
      have S10 := (S8.same s9).upd_new (o := .lst [.non, .int 0]) nq1 |>.upd_new (o := .lst (os0.map wV ++ [.non, .int 0])) nO
      have K10 : Kept [s, c] H (upd (upd H9 q1 (.lst [.non, .int 0])) O (.lst (os0.map wV ++ [.non, .int 0]))) := K8.trans ((Kept.of_same s9).trans ((Kept.upd_new nq1).trans (Kept.upd_new nO)))
      have oO : O ∉ [s, c] := out2 ((S8.same s9).upd_new (o := .lst [.non, .int 0]) nq1) nO
      have eO : (upd (upd H9 q1 (.lst [.non, .int 0])) O (.lst (os0.map wV ++ [.non, .int 0]))) O = some (.lst ((os0 ++ [none, some 0]).map wV)) := by rw [upd_same, List.map_append]; rfl
      have wos : ∀ o ∈ os0 ++ [none, some 0], WOk o := fun o ho => by
        rcases List.mem_append.mp ho with h | h
        · exact wos0 o h
        · simp only [List.mem_cons, List.not_mem_nil, or_false] at h
          rcases h with rfl | rfl
          · trivial
          · exact ⟨by decide, by decide⟩
      have los : (os0 ++ [none, some 0]).length = rs.length + 2 := by rw [List.length_append, los0]; rfl
      show tSeq _ _ _ [some (.ref s), some (.ref tp), some (.ref cp), some (.int j), some (.str tb.1), some (.ref pc), some (.ref D), some (.int key), some (.int pl), some (.int way), some (.ref O), none, none, none, none] (upd (upd H9 q1 (.lst [.non, .int 0])) O (.lst (os0.map wV ++ [.non, .int 0])))
      generalize upd (upd H9 q1 (.lst [.non, .int 0])) O (.lst (os0.map wV ++ [.non, .int 0])) = H10 at S10 K10 eO ⊢
      generalize os0 ++ [none, some 0] = os at eO wos los
      clear hP nD2 s9 eD2 nD21 nq1 nO S8 K8 m8 los0 wos0 eos
      have m10 := (msk_same K10).trans (sub H10)
      have kW : WOk (some key) := ⟨by omega, by omega⟩
      obtain ⟨y, hy⟩ : ∃ y, ys[pl]? = some y := ⟨_, List.getElem?_eq_getElem (by omega)⟩
      obtain ⟨co, qc, yc, hco, rfl, hqc⟩ := col_at h3 hy
      have hcol : co.1 ∈ cns ts tb.1 := by
        show co.1 ∈ (colsOf ts tb.1).map (·.1)
        rw [ec]
        exact List.mem_map.mpr ⟨co, List.mem_of_getElem? hco, rfl⟩
      -- way < 2
      refine ⟨.int way, rfl, _, _, rfl, rfl, _, rfl, ite2 (fun w2 => ?_) (fun w2 => ?_)⟩
      · -- a put
        refine ⟨.ref pc, rfl, 1, rfl, pc, ys, rfl, sameT m10 h2, ?_, fun p9 n9 => ?_⟩
        · intro z
          have z1 := z.1
          rw [show ((1 : Int)) = ((1 : Nat) : Int) from rfl, HT.sIx_nat] at z1
          omega
        rw [show cutV ys (some 1) none = ys.drop 1 from cutV_hi ys 1]
        have S11 := S10.upd_new (o := .tup (ys.drop 1)) n9
        have e9' : (upd H10 p9 (.tup (ys.drop 1))) p9 = some (.tup (ys.drop 1)) := upd_same
        have k9 : Kept [s, c] H10 (upd H10 p9 (.tup (ys.drop 1))) := Kept.upd_new n9
        generalize upd H10 p9 (.tup (ys.drop 1)) = H11 at S11 e9' k9 ⊢
        refine ⟨p9, rfl, ⟨_, .inl (.inl e9')⟩, fun E' nE => ?_⟩
        have o9 : p9 ∉ [E', s, c] := by
          intro z
          rcases List.mem_cons.mp z with z | z
          · rw [z, nE] at e9'; cases e9'
          · exact outX S11 e9' z
        have ld : (ys.drop 1).length = tb.2.length - 1 := by rw [List.length_drop, ly]
        have oE := out2 S11 nE
        refine lc_it (walk_tup (xs := ys.drop 1)) (fun i H' => (∃ ws : Rw, H' E' = some (.lst (ws.map wV)) ∧ ws.length = i ∧ ∀ o ∈ ws, WOk o) ∧ StAt H' s c (T + 10 + i * 5) ∧ Kept [E', s, c] H11 H')
          ⟨⟨[], upd_same, rfl, fun _ h => absurd h List.not_mem_nil⟩, (S11.upd_new nE).mono (by omega), Kept.upd_new nE⟩ (fun i H' _ hP => .inl (.inl (hP.2.2.at e9' o9))) (fun i x H' H'' hi hP hY => ?_) (fun H12 hP => ?_)
        · obtain ⟨rfl, hx⟩ := hY
          obtain ⟨⟨ws, eE, lws, okw⟩, SS, kk⟩ := hP
          refine ⟨rfl, ?_⟩
          unfold tYes
          dsimp only
          refine iteT ?_
          refine ⟨.ref s, rfl, .int key, rfl, s, c, _, 3, key, rfl, SS, by omega, by decide, by decide, by omega, by omega, fun o H12 wo S12 K12 => ?_⟩
          have eE2 := K12.at eE oE
          refine ⟨_, eE2, by rw [List.length_map, lws]; exact small1000 (by omega), ⟨ws ++ [o], by rw [upd_same, List.map_append]; rfl, by rw [List.length_append, lws]; rfl, fun z hz => ?_⟩, (S12.upd (S11.nes nE) (S11.nec nE)).mono (by omega), kk.trans ((K12.mono sub_push).trans (Kept.upd_in (List.mem_cons_self ..)))⟩
          rcases List.mem_append.mp hz with h | h
          · exact okw z h
          · rw [List.mem_singleton.mp h]; exact wo
        · obtain ⟨⟨ws, eE, lws, okw⟩, SS, kk⟩ := hP
          have K12 := K10.trans (k9.trans (kk.new nE))
          refine ⟨.str tb.1, rfl, .int key, rfl, .ref s, rfl, s, c, _, _, rfl, SS, by omega, by decide, by decide, fun a H13 a0 a1 S13 K13 => ⟨.ref s, rfl, s, c, _, _, rfl, S13, by omega, by decide, by decide, fun b H14 b0 b1 S14 K14 => ?_⟩⟩
          have eE4 := K14.at (K13.at eE oE) oE
          have K14' := K12.trans (K13.trans K14)
          have hb : b = 0 ∨ b = 1 := by omega
          have hab : 0 ≤ a * b ∧ a * b < 9 := by
            rcases hb with rfl | rfl
            · rw [Int.mul_zero]; omega
            · rw [Int.mul_one]; omega
          obtain ⟨ab, eab⟩ : ∃ ab, ab = a * b := ⟨_, rfl⟩
          rw [← eab] at hab
          refine ⟨_, _, rfl, rfl, .inl ⟨by omega, by omega⟩, key, a * b, rfl, rfl, (by show 1 ≤ sizeLine; decide), fun q1 nq1 => ?_⟩
          have nE1 : E' ≠ q1 := ne_of_none eE4 nq1
          refine ⟨.ref E', rfl, q1, E', _, _, rfl, rfl, upd_same, (by rw [upd_ne nE1]; exact eE4), Nat.le_of_lt (small1000 (by rw [List.length_map, lws]; show 1 + _ ≤ 1000; omega)), fun q2 nq2 => ?_⟩
          refine ⟨q2, _, rfl, .inl ⟨.inl (.inl upd_same), fun t nt => ⟨(by show 3 ≤ sizeLine; decide), fun p np => ?_⟩⟩⟩
          have Sy := (S14.upd_new (o := .lst [.int (key + a * b)]) nq1).upd_new (o := .lst ([.int (key + a * b)] ++ ws.map wV)) nq2
          have Sx := Sy.upd_new (o := .tup ([.int (key + a * b)] ++ ws.map wV)) nt
          have Sz := Sx.upd_new (o := .tup [.str "put", .str tb.1, .ref t]) np
          have k3x : Kept [s, c] H14 (upd (upd (upd H14 q1 (.lst [.int (key + a * b)])) q2 (.lst ([.int (key + a * b)] ++ ws.map wV))) t (.tup ([.int (key + a * b)] ++ ws.map wV))) := (Kept.upd_new nq1).trans ((Kept.upd_new nq2).trans (Kept.upd_new nt))
          have npt : t ≠ p := ne_of_none upd_same np
          refine q p (.put tb.1 (some (key + a * b) :: ws)) _ ⟨ht, ⟨by rw [lcn, List.length_cons, lws, ld]; omega, fun o ho => ?_, ⟨_, _, rfl⟩⟩⟩ (fr (K14'.trans k3x) Sx np) ?_ (Sz.mono (by omega)) (K14'.trans (k3x.trans (Kept.upd_new np)))
          · rcases List.mem_cons.mp ho with rfl | ho
            · exact ⟨by omega, by omega⟩
            · exact okw o ho
          · exact .tup (.inl (.inl (msk_at upd_same (out2 Sx np)))) (.cons (.str _) (.cons (.str _) (.cons (.tup (.inl (.inl (msk_at (by rw [upd_ne npt]; exact upd_same) (out2 Sy nt)))) (dp_ws (some (key + a * b) :: ws))) .nil)))
      · have w2 : ¬ way < 2 := fun z => w2 (decide_eq_true z)
        refine ⟨.int way, rfl, _, _, rfl, rfl, _, rfl, ite2 (fun w4 => ?_) (fun w4 => ?_)⟩
        · -- a drop
          refine ⟨.str tb.1, rfl, .int key, rfl, (by show 3 ≤ sizeLine; decide), fun p np => ?_⟩
          exact q p (.drop tb.1 key) _ ⟨ht, by omega, by omega⟩ (fr K10 S10 np) (.tup (.inl (.inl (msk_at upd_same (out2 S10 np)))) (.cons (.str _) (.cons (.str _) (.cons (.int _) .nil)))) ((S10.upd_new np).mono (by omega)) (K10.trans (Kept.upd_new np))
        · refine ⟨.int way, rfl, _, _, rfl, rfl, _, rfl, ite2 (fun w6 => ?_) (fun w6 => ?_)⟩
          · -- a sweep
            refine ⟨.str tb.1, rfl, .ref pc, rfl, .int pl, rfl, pc, ys, pl, .ref qc, rfl, rfl, sameT m10 h2, atI_nat hy, .inr (.inl ⟨qc, _, 0, .str co.1, rfl, rfl, sameT m10 hqc, atI_nat (j := 0) rfl, .ref s, rfl, .ref O, rfl, s, c, O, _, _, rfl, S10, by omega, oO, .inl (.inl (.inl eO)), by rw [List.length_map]; omega, by rw [List.length_map]; omega, fun i u H11 hu' S11 K11 => ?_⟩)⟩
            obtain ⟨o, ho, rfl⟩ : ∃ o, o ∈ os ∧ u = wV o := by
              rw [List.getElem?_map] at hu'
              obtain ⟨o, ho, rfl⟩ := Option.map_eq_some_iff.mp hu'
              exact ⟨o, List.mem_of_getElem? ho, rfl⟩
            refine ⟨(by show 4 ≤ sizeLine; decide), fun p np => ?_⟩
            have K11' := K10.trans K11
            exact q p (.sweep tb.1 co.1 o) _ ⟨ht, hcol, wos o ho⟩ (fr K11' S11 np) (.tup (.inl (.inl (msk_at upd_same (out2 S11 np)))) (.cons (.str _) (.cons (.str _) (.cons (.str _) (.cons (dp_w o) .nil))))) ((S11.upd_new np).mono (by omega)) (K11'.trans (Kept.upd_new np))
          · refine ⟨.int way, rfl, rfl, _, rfl, ite2 (fun w7 => ?_) (fun w7 => ?_)⟩
            · -- a shift
              refine ⟨.str tb.1, rfl, .ref pc, rfl, .int pl, rfl, pc, ys, pl, .ref qc, rfl, rfl, sameT m10 h2, atI_nat hy, .inr (.inl ⟨qc, _, 0, .str co.1, rfl, rfl, sameT m10 hqc, atI_nat (j := 0) rfl, 1, rfl, .ref s, rfl, s, c, _, _, rfl, S10, by omega, by decide, by decide, fun d H11 d0 d1 S11 K11 => ⟨_, _, rfl, rfl, (by show 4 ≤ sizeLine; decide), fun q1 nq1 => ?_⟩⟩)⟩
              have S12 := S11.upd_new (o := .lst [.int 1, .int (-1), .int (d - 4), .int 0]) nq1
              have oq := out2 S11 nq1
              refine ⟨.ref s, rfl, s, c, _, _, rfl, S12, by omega, by decide, by decide, fun e H13 e0 e1 S13 K13 => ?_⟩
              have eq1 := K13.at (upd_same : (upd H11 q1 (.lst [.int 1, .int (-1), .int (d - 4), .int 0])) q1 = _) oq
              obtain ⟨b, hb, hat⟩ : ∃ b : Int, BOk b ∧ atI [V.int 1, V.int (-1), V.int (d - 4), V.int 0] e = some (.int b) := by
                have : e = 0 ∨ e = 1 ∨ e = 2 ∨ e = 3 := by omega
                rcases this with rfl | rfl | rfl | rfl
                · exact ⟨1, ⟨by decide, by decide⟩, rfl⟩
                · exact ⟨-1, ⟨by decide, by decide⟩, rfl⟩
                · exact ⟨d - 4, ⟨by omega, by omega⟩, rfl⟩
                · exact ⟨0, ⟨by decide, by decide⟩, rfl⟩
              refine ⟨q1, _, _, _, rfl, rfl, .inl (.inl eq1), hat, (by show 4 ≤ sizeLine; decide), fun p np => ?_⟩
              have K13' := K10.trans (K11.trans ((Kept.upd_new nq1).trans K13))
              exact q p (.shift tb.1 co.1 b) _ ⟨ht, hcol, hb⟩ (fr K13' S13 np) (.tup (.inl (.inl (msk_at upd_same (out2 S13 np)))) (.cons (.str _) (.cons (.str _) (.cons (.str _) (.cons (.int _) .nil))))) ((S13.upd_new np).mono (by omega)) (K13'.trans (Kept.upd_new np))
            · -- a set
              refine ⟨.int pl, rfl, .ref s, rfl, s, c, _, _, rfl, S10, by omega, by decide, by decide, fun d H11 d0 d1 S11 K11 => ⟨rfl, .inr ⟨_, rfl, ?_⟩⟩⟩
              obtain ⟨p2, hp2, hpp⟩ : ∃ p2 : Nat, (pl : Int) * (if decide (V.int d = V.int 0) = true then 1 else 0) = (p2 : Int) ∧ (p2 = 0 ∨ p2 = pl) := by
                have : d = 0 ∨ d = 1 := by omega
                rcases this with rfl | rfl
                · exact ⟨pl, Int.mul_one _, .inr rfl⟩
                · exact ⟨0, Int.mul_zero _, .inl rfl⟩
              refine ⟨_, _, rfl, rfl, .inl ⟨by omega, by omega⟩, ?_⟩
              show tSeq _ _ _ [some (.ref s), some (.ref tp), some (.ref cp), some (.int j), some (.str tb.1), some (.ref pc), some (.ref D), some (.int key), some (.int ((pl : Int) * (if decide (V.int d = V.int 0) = true then 1 else 0))), some (.int way), some (.ref O), none, none, none, none] H11
              rw [hp2]
              clear hp2 hy hco hqc hcol
              have K11' := K10.trans K11
              have m11 := (msk_same K11').trans (sub H11)
              have eO11 := K11.at eO oO
              obtain ⟨y2, hy⟩ : ∃ y, ys[p2]? = some y := ⟨_, List.getElem?_eq_getElem (by omega)⟩
              obtain ⟨co2, qc2, yc2, hco, rfl, hqc⟩ := col_at h3 hy
              have hcol : co2.1 ∈ cns ts tb.1 := by
                show co2.1 ∈ (colsOf ts tb.1).map (·.1)
                rw [ec]
                exact List.mem_map.mpr ⟨co2, List.mem_of_getElem? hco, rfl⟩
              have hhead : (cns ts tb.1).head? = some co2.1 → p2 = 0 := fun z => by
                have e1 : (tb.2.map (·.1)).head? = some co2.1 := by rw [← ec]; exact z
                have e2 : (tb.2.map (·.1))[0]? = some co2.1 := by rw [← List.head?_eq_getElem?]; exact e1
                have e3 : (tb.2.map (·.1))[p2]? = some co2.1 := by rw [List.getElem?_map, hco]; rfl
                have l1 := (List.getElem?_eq_some_iff.mp e2).1
                have l2 := (List.getElem?_eq_some_iff.mp e3).1
                exact (List.getElem_inj okcol.nd (h₀ := l2) (h₁ := l1)).mp (Option.some.inj ((List.getElem?_eq_getElem l2).symm.trans (e3.trans (e2.symm.trans (List.getElem?_eq_getElem l1)))))
              refine' (fun (rest : ∀ (o : Option Int) (H13 : Hp), WOk o → (p2 = 0 → o ≠ none) → StAt H13 s c (T + 60) → Kept [s, c] H11 H13 → (_ : Option Int → Hp → Prop) o H13) => _) _
              rotate_left
              · refine ⟨.int p2, rfl, rfl, _, rfl, ite2 (fun hz => ?a1) (fun hz => ?a2)⟩
                case a2 =>
                  refine ⟨.ref s, rfl, .ref O, rfl, .ref s, rfl, .int key, rfl, s, c, _, 3, key, rfl, S11, by omega, by decide, by decide, by omega, by omega, fun o1 H12 wo S12 K12 => ⟨(by show 1 ≤ sizeLine; decide), fun q1 nq1 => ?_⟩⟩
                  have eO12 := K12.at eO11 oO
                  have nO1 : O ≠ q1 := ne_of_none eO12 nq1
                  refine ⟨O, q1, _, _, rfl, rfl, (by rw [upd_ne nO1]; exact eO12), upd_same, Nat.le_of_lt (small1000 (by rw [List.length_map, los]; show rs.length + 2 + 1 ≤ 1000; omega)), fun q2 nq2 => ?_⟩
                  have S13 := (S12.upd_new (o := .lst [wV o1]) nq1).upd_new (o := .lst (os.map wV ++ [wV o1])) nq2
                  have oq2 := out2 (S12.upd_new (o := .lst [wV o1]) nq1) nq2
                  refine ⟨s, c, q2, _, _, rfl, S13, by omega, oq2, .inl (.inl (.inl upd_same)), by rw [List.length_append]; show 0 < _ + 1; omega, by rw [List.length_append, List.length_map, los]; show rs.length + 2 + 1 < _; omega, fun i u H14 hu' S14 K14 => ?_⟩
                  obtain ⟨o, wo', rfl⟩ : ∃ o, WOk o ∧ u = wV o := by
                    have e : os.map wV ++ [wV o1] = (os ++ [o1]).map wV := by rw [List.map_append]; rfl
                    rw [e, List.getElem?_map] at hu'
                    obtain ⟨o, ho, rfl⟩ := Option.map_eq_some_iff.mp hu'
                    refine ⟨o, ?_, rfl⟩
                    rcases List.mem_append.mp (List.mem_of_getElem? ho) with h | h
                    · exact wos o h
                    · rw [List.mem_singleton.mp h]; exact wo
                  refine rest o H14 wo' (fun z => absurd (decide_eq_true (by rw [z]; rfl)) hz) (S14.mono (by omega)) (K12.trans ((Kept.upd_new nq1).trans ((Kept.upd_new nq2).trans K14)))
                case a1 =>
                  refine ⟨.int key, rfl, .ref s, rfl, s, c, _, _, rfl, S11, by omega, by decide, by decide, fun e H12 e0 e1 S12 K12 => ⟨_, _, rfl, rfl, _, _, rfl, rfl, ?_⟩⟩
                  exact rest (some (key + e - 4)) H12 ⟨by omega, by omega⟩ (fun _ z => nomatch z) (S12.mono (by omega)) K12
              · intro o H13 wo hne S13 K13
                have K13' := K11'.trans K13
                have m13 := (msk_same K13').trans (sub H13)
                refine ⟨.str tb.1, rfl, .int key, rfl, .ref pc, rfl, .int p2, rfl, pc, ys, p2, .ref qc2, rfl, rfl, sameT m13 h2, atI_nat hy, .inr (.inl ⟨qc2, _, 0, .str co2.1, rfl, rfl, sameT m13 hqc, atI_nat (j := 0) rfl, wV o, rfl, (by show 5 ≤ sizeLine; decide), fun p np => ?_⟩)⟩
                exact q p (.set tb.1 key co2.1 o) _ ⟨ht, ⟨by omega, by omega⟩, hcol, wo, fun z => hne (hhead z)⟩ (fr K13' S13 np) (.tup (.inl (.inl (msk_at upd_same (out2 S13 np)))) (.cons (.str _) (.cons (.str _) (.cons (.int _) (.cons (.str _) (.cons (dp_w o) .nil)))))) ((S13.upd_new np).mono (by omega)) (K13'.trans (Kept.upd_new np))
end
end TT

set_option Elab.async false
set_option linter.all false
set_option maxRecDepth 100000
namespace TT
open PySem PySem.Spec PyProof.Rows L2
/-! ### which deeds may be -/
def lens : List (Str × Int) := [("put", 3), ("drop", 3), ("set", 5), ("sweep", 4), ("shift", 4)]
def lenI (z : Str) : Int := match lens.find? (fun x => x.1 == z) with
  | some x => x.2
  | none => 0
theorem getOf_len (z : Str) : (getOf lens z).getD (.int 0) = .int (lenI z) := by
  unfold getOf lenI
  cases lens.find? (fun x => x.1 == z) <;> rfl
theorem lenI_some {z : Str} (h : lenI z ≠ 0) : (z = "put" ∧ lenI z = 3) ∨ (z = "drop" ∧ lenI z = 3) ∨ (z = "set" ∧ lenI z = 5) ∨ (z = "sweep" ∧ lenI z = 4) ∨ (z = "shift" ∧ lenI z = 4) := by
  unfold lenI at h
  cases e : lens.find? (fun x => x.1 == z) with
  | none => rw [e] at h; exact absurd rfl h
  | some x =>
    have h1 := List.find?_some e
    have hz : x.1 = z := by simpa using h1
    have hm := List.mem_of_find?_eq_some e
    unfold lenI
    rw [e]
    unfold lens at hm
    simp only [List.mem_cons, List.not_mem_nil, or_false] at hm
    rcases hm with rfl | rfl | rfl | rfl | rfl
    · exact .inl ⟨hz.symm, rfl⟩
    · exact .inr (.inl ⟨hz.symm, rfl⟩)
    · exact .inr (.inr (.inl ⟨hz.symm, rfl⟩))
    · exact .inr (.inr (.inr (.inl ⟨hz.symm, rfl⟩)))
    · exact .inr (.inr (.inr (.inr ⟨hz.symm, rfl⟩)))
def cellB (zs : List Str) (c w : PyData) : Bool := match c with
  | .str z => decide (z ∈ zs) && (if zs.head? = some z then boundB w else worthB w)
  | _ => false
def deedP (ts : List Tab) (k : Str) (ds : List PyData) : Bool :=
  if k = "put" then rowB (cns ts (strOf (ds.getD 1 .none))).length (ds.getD 2 .none)
  else if k = "drop" then boundB (ds.getD 2 .none)
  else if k = "set" then boundB (ds.getD 2 .none) && cellB (cns ts (strOf (ds.getD 1 .none))) (ds.getD 3 .none) (ds.getD 4 .none)
  else if k = "sweep" then inS (cns ts (strOf (ds.getD 1 .none))) (ds.getD 2 .none) && worthB (ds.getD 3 .none)
  else inS (cns ts (strOf (ds.getD 1 .none))) (ds.getD 2 .none) && boundB (ds.getD 3 .none)
def deedL (ts : List Tab) (ds : List PyData) : Bool := match ds.getD 0 .none with
  | .str k => decide ((ds.length : Int) = lenI k) && (inS (tns ts) (ds.getD 1 .none) && deedP ts k ds)
  | _ => false
def deedB (ts : List Tab) : PyData → Bool
  | .tuple ds => deedL ts ds
  | _ => false
theorem deed_len {ts : List Tab} {d : PyData} (h : tupB 3 5 d = false) : deedB ts d = false := by
  cases d with
  | tuple ds =>
    have h' : (decide ((3 : Int) ≤ (ds.length : Int)) && decide ((ds.length : Int) ≤ 5)) = false := h
    show deedL ts ds = false
    unfold deedL
    cases e : ds.getD 0 .none with
    | str k =>
      show (decide ((ds.length : Int) = lenI k) && _) = false
      have hl : (ds.length : Int) ≠ lenI k := fun z => by
        have h0 : 0 < ds.length := by
          cases ds with
          | nil => cases e
          | cons a r => exact Nat.zero_lt_succ _
        have := lenI_some (z := k) (by omega)
        rw [Bool.and_eq_false_iff] at h'
        rcases h' with h' | h'
        · have := of_decide_eq_false h'; omega
        · have := of_decide_eq_false h'; omega
      rw [decide_eq_false hl]; rfl
    | _ => rfl
  | _ => rfl
/-- what looks at data beside tables, such as can be looked at within -/
def spTs (R : List Tab → PyData → Bool) (K : PySem.W.Frag) : Sp := fun vs H Q _ => ∃ (tp : Addr) (ts : List Tab) (v : V) (d : PyData), vs = [.ref tp, v] ∧ Tabs K H tp ts ∧ Dp K H v d ∧ Fit d ∧ SeqAt.shaped d = true ∧ ∀ H', Same H H' → Q (.bl (R ts d)) H'
theorem spTs_len {R : List Tab → PyData → Bool} {K : PySem.W.Frag} {vs : List V} {H : Hp} {Q : VK} {E : XK} (h : spTs R K vs H Q E) : vs.length = 2 := by
  obtain ⟨tp, ts, v, d, rfl, _⟩ := h
  rfl
structure GL (K : PySem.W.Frag) (w : World) (mg : Str → Option Value) : Prop where
  ex : ∃ a es n, mg "LENGTHS" = some (.ref a) ∧ KDict K w a es n ∧ DEnts lens es.toList
theorem inS_false {zs : List Str} {d : PyData} (h : ∀ z, d = .str z → z ∉ zs) : inS zs d = false := by
  cases d <;> first | rfl | exact decide_eq_false (h _ rfl)
section
variable {P : Program} {w : World} {K : PySem.W.Frag} {mg : Str → Option Value} {base : Heap}
def spCell (K : PySem.W.Frag) : Sp := fun vs H Q _ => ∃ (lp : Addr) (zs : List Str) (v u : V) (c d : PyData), vs = [.ref lp, v, u] ∧ SqL K H lp (zs.map V.str) ∧ (∀ z ∈ zs, NameOk z) ∧ 0 < zs.length ∧ Dp K H v c ∧ SeqAt.shaped c = true ∧ Dp K H u d ∧ Fit d ∧ ∀ H', Same H H' → Q (.bl (cellB zs c d)) H'
abbrev s_is_cell : Stmt := topS 17
abbrev N_is_cell : List Str := ["columns", "column", "worth"]
theorem sc_is_cell : FnScope N_is_cell ["columns", "column", "worth"] (defScope s_is_cell) := ⟨rfl, rfl, rfl, by decide +kernel, rfl, by decide +kernel, by decide +kernel⟩

theorem ok_is_cell {f : Addr} {fd : FuncData} (F : Fun K "_is_cell" "_is_cell" s_is_cell f fd) (D_is_bounded : Def P w K mg base 2 "is_bounded" ["thing"] (spB boundB K)) (D_is_worth : Def P w K mg base 3 "is_worth" ["thing"] (spB worthB K)) : FnOk P w K mg base CX0 4 f fd ["columns", "column", "worth"] (spCell K) := by
  refine F.ok sc_is_cell (fun vs H Q E h => ?_) (fun cdv A outer sh H vs Q E hr h => ?_)
  · obtain ⟨lp, zs, v, u, c, d, rfl, _⟩ := h
    rfl
  obtain ⟨lp, zs, v, u, c, d, rfl, hL, hn, l0, hc, sc, hd, hf, q⟩ := h
  have nd := sc_is_cell.nd
  have q' : ∀ H', Same H H' → ∀ b, b = cellB zs c d → Q (.bl b) H' := fun H' s b e => by rw [e]; exact q H' s
  refine ⟨_, (pss_cons (ps_if (pt_cmpR (op_ninN (u65 hr)) (pv 1) (pv 0) (by rfl))
        (pss_one (ps_ret pe_bl))
        pss_nil)
      (pss_one (ps_ret (pe_ifExp (pt_cmpR (op_eqD hr.units) (pv 1) (pe_ix ix_list (pv 0) pe_int (fun _ _ => rfl)) (nomark _)) (pe_own D_is_bounded hr (pa_cons (pv 2) pa_nil)) (pe_own D_is_worth hr (pa_cons (pv 2) pa_nil)))))), ?_⟩
  refine ⟨v, rfl, .ref lp, rfl, c, zs, lp, rfl, hc, sc, .inl hL, shaped_strs hn, _, rfl, ?_⟩
  cases hi : inS zs c with
  | false =>
    refine iteT (q' H (Same.refl H) _ ?_)
    cases c with
    | str z =>
      have e : decide (z ∈ zs) = false := hi
      show false = (decide (z ∈ zs) && _)
      rw [e]; rfl
    | _ => rfl
  | true =>
    refine iteF ?_
    obtain ⟨z, rfl, hz⟩ := inS_str hi
    cases hc
    obtain ⟨z0, r, rfl⟩ : ∃ z0 r, zs = z0 :: r := by
      cases zs with
      | nil => cases l0
      | cons a r => exact ⟨a, r, rfl⟩
    have eC : cellB (z0 :: r) (.str z) d = (if z0 = z then boundB d else worthB d) := by
      show (decide (z ∈ z0 :: r) && (if (z0 :: r).head? = some z then boundB d else worthB d)) = _
      rw [decide_eq_true hz, Bool.true_and]
      by_cases h : z0 = z
      · rw [if_pos h, if_pos (by rw [h]; rfl)]
      · rw [if_neg h, if_neg (show ¬ (z0 :: r).head? = some z from fun y => h (Option.some.inj y))]
    refine ⟨_, rfl, .ref lp, rfl, lp, _, 0, .str z0, rfl, rfl, hL, atI_nat (j := 0) rfl, .str z, .str z0, .str z, .str z0, sc, shaped_str (hn z0 (List.mem_cons_self ..)), _, rfl, ?_⟩
    have ev : PyData.eqv (.str z) (.str z0) = decide (z0 = z) := by
      show (z == z0) = decide (z0 = z)
      by_cases h : z0 = z
      · rw [decide_eq_true h, h]; exact beq_self_eq_true z
      · rw [decide_eq_false h]; exact beq_eq_false_iff_ne.mpr fun y => h y.symm
    rw [ev]
    by_cases h : z0 = z
    · rw [decide_eq_true h]
      refine iteT ?_
      refine ⟨u, rfl, u, d, rfl, hd, hf, fun H1 s1 => q' H1 s1 _ ?_⟩
      rw [eC, if_pos h]
    · rw [decide_eq_false h]
      refine iteF ?_
      refine ⟨u, rfl, u, d, rfl, hd, hf, fun H1 s1 => q' H1 s1 _ ?_⟩
      rw [eC, if_neg h]
abbrev s_is_deed : Stmt := topS 16
abbrev N_is_deed : List Str := ["tables", "thing", "kind", "table", "columns"]
theorem sc_is_deed : FnScope N_is_deed ["tables", "thing"] (defScope s_is_deed) := ⟨rfl, rfl, rfl, by decide +kernel, rfl, by decide +kernel, by decide +kernel⟩

set_option maxHeartbeats 4000000 in
theorem ok_is_deed {f : Addr} {fd : FuncData} (F : Fun K "is_deed" "is_deed" s_is_deed f fd) (nb : NB mg) (gl : GL K w mg) (D_is_tuple : Def P w K mg base 1 "is_tuple" ["thing", "least", "most"] (spTup K)) (D_is_bounded : Def P w K mg base 2 "is_bounded" ["thing"] (spB boundB K)) (D_is_worth : Def P w K mg base 3 "is_worth" ["thing"] (spB worthB K))
    (D_table_names : Def P w K mg base 1 "table_names" ["tables"] (spNamesOf K)) (D_column_names : Def P w K mg base 2 "column_names" ["tables", "table"] (spColNames K)) (D_is_row : Def P w K mg base 4 "is_row" ["width", "thing"] (spRow K)) (D_is_cell : Def P w K mg base 4 "_is_cell" ["columns", "column", "worth"] (spCell K)) :
    FnOk P w K mg base CX0 5 f fd ["tables", "thing"] (spTs deedB K) := by
  refine F.ok sc_is_deed (fun vs H Q E h => spTs_len h) (fun cdv A outer sh H vs Q E hr h => ?_)
  obtain ⟨tp, ts, v, d, rfl, hT, hd, hf, hs, q⟩ := h
  have nd := sc_is_deed.nd
  have q' : ∀ H', Same H H' → ∀ b, b = deedB ts d → Q (.bl b) H' := fun H' s b e => by rw [e]; exact q H' s
  obtain ⟨aL, esL, nL, mL, DL, EL⟩ := gl.ex
  refine ⟨_, (pss_cons (ps_if (PW.pt (pw_or (pt_not (pt_val (pe_own D_is_tuple hr (pa_cons (pv 1) (pa_cons pe_int (pa_cons pe_int pa_nil)))))) (pw_or1 (pt_not (pt_val (pe_callB call_isi (by rfl) nb.b_isinstance (by decide +kernel) (pa_cons (pe_ix ix_tup (pv 1) pe_int (fun _ _ => rfl)) (pa_cons (pe_bltn (v := .ty "str") (by rfl) nb.b_str (by decide +kernel) rfl) pa_nil))))))))
        (pss_one (ps_ret pe_bl))
        pss_nil)
      (pss_cons (ps_if (PW.pt (pw_or (pt_cmpR op_ne (pe_callB call_len_seq (by rfl) nb.b_len (by decide +kernel) (pa_cons (pv 1) pa_nil)) (pe_kget2 DL (pe_glob (v := .ref aL) (by rfl) mL rfl) (pe_ix ix_tup (pv 1) pe_int (fun _ _ => rfl)) pe_int ⟨by rfl, by rfl, by rfl, by rfl⟩) (nomark _)) (pw_or1 (pt_cmpR (op_ninN (u65 hr)) (pe_ix ix_tup (pv 1) pe_int (fun _ _ => rfl)) (pe_own D_table_names hr (pa_cons (pv 0) pa_nil)) (by rfl)))))
        (pss_one (ps_ret pe_bl))
        pss_nil)
      (pss_cons (ps_asg (pe_slice sl_tup (pv 1) po_none (po_some pe_int)) (pg_tup rfl (pgs_cons (pg_name (i := 2) nd rfl (Or.inl rfl)) (pgs_cons (pg_name (i := 3) nd rfl (Or.inl rfl)) pgs_nil))))
      (pss_cons (ps_set (i := 4) nd rfl (Or.inl rfl) (pe_own D_column_names hr (pa_cons (pv 0) (pa_cons (pv 3) pa_nil))))
      (pss_cons (ps_if (pt_cmpR op_eq (pv 2) pe_str (nomark _))
        (pss_one (ps_ret (pe_own D_is_row hr (pa_cons (pe_callB call_len_seq (by rfl) nb.b_len (by decide +kernel) (pa_cons (pv 4) pa_nil)) (pa_cons (pe_ix ix_tup (pv 1) pe_int (fun _ _ => rfl)) pa_nil)))))
        pss_nil)
      (pss_cons (ps_if (pt_cmpR op_eq (pv 2) pe_str (nomark _))
        (pss_one (ps_ret (pe_own D_is_bounded hr (pa_cons (pe_ix ix_tup (pv 1) pe_int (fun _ _ => rfl)) pa_nil))))
        pss_nil)
      (pss_cons (ps_if (pt_cmpR op_eq (pv 2) pe_str (nomark _))
        (pss_one (ps_ret (pe_and (pe_own D_is_bounded hr (pa_cons (pe_ix ix_tup (pv 1) pe_int (fun _ _ => rfl)) pa_nil)) (pe_one (pe_own D_is_cell hr (pa_cons (pv 4) (pa_cons (pe_ix ix_tup (pv 1) pe_int (fun _ _ => rfl)) (pa_cons (pe_ix ix_tup (pv 1) pe_int (fun _ _ => rfl)) pa_nil))))))))
        pss_nil)
      (pss_cons (ps_if (pt_cmpR op_eq (pv 2) pe_str (nomark _))
        (pss_one (ps_ret (pe_and (pe_cmpR (op_inN (u65 hr)) (pe_ix ix_tup (pv 1) pe_int (fun _ _ => rfl)) (pv 4) (by rfl)) (pe_one (pe_own D_is_worth hr (pa_cons (pe_ix ix_tup (pv 1) pe_int (fun _ _ => rfl)) pa_nil))))))
        pss_nil)
      (pss_one (ps_ret (pe_and (pe_cmpR (op_inN (u65 hr)) (pe_ix ix_tup (pv 1) pe_int (fun _ _ => rfl)) (pv 4) (by rfl)) (pe_one (pe_own D_is_bounded hr (pa_cons (pe_ix ix_tup (pv 1) pe_int (fun _ _ => rfl)) pa_nil)))))))))))))), ?_⟩
  refine ⟨v, rfl, v, d, 3, 5, rfl, hd, hf, fun H1 s1 => ⟨_, rfl, ?_⟩⟩
  cases ht : tupB 3 5 d with
  | false => exact iteT (iteT (q' H1 s1 _ (deed_len ht).symm))
  | true =>
    refine iteF ?_
    obtain ⟨p, xs, ds, rfl, rfl, hS, hA⟩ := isT_of hd (tupB_isT ht)
    have l := dpAll_len hA
    have lb : 3 ≤ ds.length ∧ ds.length ≤ 5 := by
      have h' : (decide ((3 : Int) ≤ (ds.length : Int)) && decide ((ds.length : Int) ≤ 5)) = true := ht
      rw [Bool.and_eq_true] at h'
      have g1 := of_decide_eq_true h'.1
      have g2 := of_decide_eq_true h'.2
      omega
    have at' : ∀ i, i < ds.length → ∃ u e, xs[i]? = some u ∧ ds[i]? = some e ∧ ds.getD i .none = e ∧ Dp K H u e ∧ Fit e ∧ SeqAt.shaped e = true := fun i hi => by
      have h1 : ds[i]? = some ds[i] := List.getElem?_eq_getElem hi
      obtain ⟨u, h2, h3⟩ := dpAll_at hA h1
      have hm := List.mem_of_getElem? h1
      exact ⟨u, _, h2, h1, getD_of h1, h3, fit_mem hf.2 hm, shaped_mem hs hm⟩
    obtain ⟨u0, e0, x0, y0, g0, d0, _, _⟩ := at' 0 (by omega)
    obtain ⟨u1, e1, x1, y1, g1, d1, _, sh1⟩ := at' 1 (by omega)
    obtain ⟨u2, e2, x2, y2, g2, d2, f2, sh2⟩ := at' 2 (by omega)
    refine ⟨.ref p, rfl, p, xs, 0, u0, rfl, rfl, sameT s1 hS, atI_nat (j := 0) x0, u0, .ty "str", _, _, _, rfl, .ty "str", dp_ty (dp_same s1 d0), kit_s e0, _, rfl, ?_⟩
    cases hk : isSB e0 with
    | false =>
      refine iteT (q' H1 s1 _ ?_)
      show false = deedL ts ds
      unfold deedL
      rw [g0]
      cases e0 <;> first | rfl | cases hk
    | true =>
      refine iteF ?_
      obtain ⟨k, rfl⟩ : ∃ k, e0 = .str k := by cases e0 <;> first | exact ⟨_, rfl⟩ | cases hk
      cases d0
      have eL : deedB ts (.tuple ds) = (decide ((ds.length : Int) = lenI k) && (inS (tns ts) e1 && deedP ts k ds)) := by
        show deedL ts ds = _
        unfold deedL
        rw [g0, g1]
      -- len(thing) != LENGTHS.get(thing[0], 0)
      refine ⟨.ref p, rfl, p, xs, rfl, .inr (sameT s1 hS), rfl, .ref p, rfl, p, xs, 0, .str k, rfl, rfl, sameT s1 hS, atI_nat (j := 0) x0, k, _, rfl, kget_of DL.at_ EL k, ?_⟩
      rw [getOf_len]
      refine ⟨rfl, _, rfl, ?_⟩
      cases hl : decide (V.int (xs.length : Int) = V.int (lenI k)) with
      | false =>
        refine iteT (iteT (q' H1 s1 _ ?_))
        have h1 := of_decide_eq_false hl
        rw [eL, decide_eq_false (fun z => h1 (by rw [l, z]))]; rfl
      | true =>
        refine iteF ?_
        have hlen : (ds.length : Int) = lenI k := by
          have := V.int.inj (of_decide_eq_true hl)
          omega
        -- thing[1] not in table_names(tables)
        obtain ⟨ws, hTS, hTA, lw⟩ := hT.parts
        refine ⟨.ref p, rfl, p, xs, 1, u1, rfl, rfl, sameT s1 hS, atI_nat x1, .ref tp, rfl, tp, ws, ts.map tabD, rfl, sameT s1 hTS, dpAll_same s1 hTA, by rw [List.length_map]; have := hT.l8; omega, strName_tabs ts, fun D H2 s2 eD => ?_⟩
        rw [namesOf_tabs] at eD
        have s12 := s1.trans s2
        refine ⟨e1, tns ts, D, rfl, dp_same s12 d1, sh1, .inl (.inl (.inl eD)), shaped_strs (tns_ok hT.ok), _, rfl, ?_⟩
        cases hi : inS (tns ts) e1 with
        | false =>
          refine iteT (q' H2 s12 _ ?_)
          rw [eL, hi, Bool.false_and, Bool.and_false]
        | true =>
          refine iteF ?_
          obtain ⟨t, rfl, htm⟩ := inS_str hi
          cases d1
          have eP : deedB ts (.tuple ds) = deedP ts k ds := by
            rw [eL, hi, decide_eq_true hlen]; rfl
          have ek := lenI_some (z := k) (by omega)
          -- kind, table = thing[:2]
          refine ⟨.ref p, rfl, 2, rfl, p, xs, rfl, sameT s12 hS, ?_, fun p2 n2 => ?_⟩
          · intro z
            have z2 := z.2
            rw [show ((2 : Int)) = ((2 : Nat) : Int) from rfl, HT.sIx_nat] at z2
            omega
          rw [show cutV xs none (some 2) = xs.take 2 from cutV_lo xs 2]
          have et : xs.take 2 = [.str k, .str t] := by
            have h0 : xs[0]? = some (.str k) := x0
            have h1 : xs[1]? = some (.str t) := x1
            match xs, h0, h1 with
            | a :: b :: r, h0, h1 =>
              rw [show a = V.str k from Option.some.inj h0, show b = V.str t from Option.some.inj h1]; rfl
          rw [et]
          have s3 := s12.trans (same_upd (o := .tup [.str k, .str t]) n2)
          refine ⟨p2, _, rfl, .inl (.inl upd_same), rfl, .str k, _, rfl, .str t, _, rfl, rfl, ?_⟩
          generalize upd H2 p2 (.tup [.str k, .str t]) = H3 at s3 ⊢
          -- columns
          refine ⟨.ref tp, rfl, .str t, rfl, tp, ts, t, rfl, hT.same s3, htm, fun C H4 s4' eC => ?_⟩
          have s4 := s3.trans s4'
          obtain ⟨hcn, hc0, hc5, _⟩ := cns_ok hT.ok htm
          have eZ : ∀ n : Nat, cns ts (strOf (ds.getD 1 .none)) = cns ts t := fun _ => by rw [g1]; rfl
          -- put
          refine ⟨.str k, rfl, rfl, _, rfl, ite2 (fun b1 => ?_) (fun b1 => ?_)⟩
          · have b1 : k = "put" := V.str.inj (of_decide_eq_true b1)
            refine ⟨.ref C, rfl, C, _, rfl, .inl (.inl (.inl eC)), .ref p, rfl, p, xs, 2, u2, rfl, rfl, sameT s4 hS, atI_nat x2, (cns ts t).length, u2, e2, by rw [List.length_map]; rfl, hc0, dp_same s4 d2, f2, fun H5 s5 => q' H5 (s4.trans s5) _ ?_⟩
            rw [eP]
            unfold deedP
            rw [if_pos b1, g1, g2]; rfl
          · have b1 : ¬ k = "put" := fun z => b1 (decide_eq_true (by rw [z]))
            refine ⟨.str k, rfl, rfl, _, rfl, ite2 (fun b2 => ?_) (fun b2 => ?_)⟩
            · have b2 : k = "drop" := V.str.inj (of_decide_eq_true b2)
              refine ⟨.ref p, rfl, p, xs, 2, u2, rfl, rfl, sameT s4 hS, atI_nat x2, u2, e2, rfl, dp_same s4 d2, f2, fun H5 s5 => q' H5 (s4.trans s5) _ ?_⟩
              rw [eP]
              unfold deedP
              rw [if_neg b1, if_pos b2, g2]
            · have b2 : ¬ k = "drop" := fun z => b2 (decide_eq_true (by rw [z]))
              refine ⟨.str k, rfl, rfl, _, rfl, ite2 (fun b3 => ?_) (fun b3 => ?_)⟩
              · have b3 : k = "set" := V.str.inj (of_decide_eq_true b3)
                have l5 : ds.length = 5 := by
                  rcases ek with ⟨z, _⟩ | ⟨z, _⟩ | ⟨_, z⟩ | ⟨z, _⟩ | ⟨z, _⟩
                  · exact absurd z b1
                  · exact absurd z b2
                  · omega
                  · rw [b3] at z; exact absurd z (by decide)
                  · rw [b3] at z; exact absurd z (by decide)
                obtain ⟨u3, e3, x3, y3, g3, d3, f3, sh3⟩ := at' 3 (by omega)
                obtain ⟨u4, e4, x4, y4, g4, d4, f4, sh4⟩ := at' 4 (by omega)
                have eQ : deedB ts (.tuple ds) = (boundB e2 && cellB (cns ts t) e3 e4) := by
                  rw [eP]
                  unfold deedP
                  rw [if_neg b1, if_neg b2, if_pos b3, g1, g2, g3, g4]; rfl
                refine ⟨.ref p, rfl, p, xs, 2, u2, rfl, rfl, sameT s4 hS, atI_nat x2, u2, e2, rfl, dp_same s4 d2, f2, fun H5 s5 => ⟨_, rfl, ite2 (fun b4 => ?_) (fun b4 => ?_)⟩⟩
                · have s45 := s4.trans s5
                  refine ⟨.ref C, rfl, .ref p, rfl, p, xs, 3, u3, rfl, rfl, sameT s45 hS, atI_nat x3, .ref p, rfl, p, xs, 4, u4, rfl, rfl, sameT s45 hS, atI_nat x4, C, cns ts t, u3, u4, e3, e4, rfl, .inl (.inl (s5 _ _ eC)), hcn, hc0, dp_same s45 d3, sh3, dp_same s45 d4, f4, fun H6 s6 => q' H6 (s45.trans s6) _ ?_⟩
                  rw [eQ, b4]; rfl
                · refine q' H5 (s4.trans s5) _ ?_
                  rw [eQ, Bool.eq_false_iff.mpr b4]; rfl
              · have b3 : ¬ k = "set" := fun z => b3 (decide_eq_true (by rw [z]))
                have l4 : ds.length = 4 := by
                  rcases ek with ⟨z, _⟩ | ⟨z, _⟩ | ⟨z, _⟩ | ⟨_, z⟩ | ⟨_, z⟩
                  · exact absurd z b1
                  · exact absurd z b2
                  · exact absurd z b3
                  · omega
                  · omega
                obtain ⟨u3, e3, x3, y3, g3, d3, f3, sh3⟩ := at' 3 (by omega)
                refine ⟨.str k, rfl, rfl, _, rfl, ite2 (fun b4 => ?_) (fun b4 => ?_)⟩
                · have b4 : k = "sweep" := V.str.inj (of_decide_eq_true b4)
                  have eQ : deedB ts (.tuple ds) = (inS (cns ts t) e2 && worthB e3) := by
                    rw [eP]
                    unfold deedP
                    rw [if_neg b1, if_neg b2, if_neg b3, if_pos b4, g1, g2, g3]; rfl
                  refine ⟨.ref p, rfl, p, xs, 2, u2, rfl, rfl, sameT s4 hS, atI_nat x2, .ref C, rfl, e2, cns ts t, C, rfl, dp_same s4 d2, sh2, .inl (.inl (.inl eC)), shaped_strs hcn, _, rfl, ite2 (fun b5 => ?_) (fun b5 => ?_)⟩
                  · refine ⟨.ref p, rfl, p, xs, 3, u3, rfl, rfl, sameT s4 hS, atI_nat x3, u3, e3, rfl, dp_same s4 d3, f3, fun H5 s5 => q' H5 (s4.trans s5) _ ?_⟩
                    rw [eQ, b5]; rfl
                  · refine q' H4 s4 _ ?_
                    rw [eQ, Bool.eq_false_iff.mpr b5]; rfl
                · have b4 : ¬ k = "sweep" := fun z => b4 (decide_eq_true (by rw [z]))
                  have eQ : deedB ts (.tuple ds) = (inS (cns ts t) e2 && boundB e3) := by
                    rw [eP]
                    unfold deedP
                    rw [if_neg b1, if_neg b2, if_neg b3, if_neg b4, g1, g2, g3]; rfl
                  refine ⟨.ref p, rfl, p, xs, 2, u2, rfl, rfl, sameT s4 hS, atI_nat x2, .ref C, rfl, e2, cns ts t, C, rfl, dp_same s4 d2, sh2, .inl (.inl (.inl eC)), shaped_strs hcn, _, rfl, ite2 (fun b5 => ?_) (fun b5 => ?_)⟩
                  · refine ⟨.ref p, rfl, p, xs, 3, u3, rfl, rfl, sameT s4 hS, atI_nat x3, u3, e3, rfl, dp_same s4 d3, f3, fun H5 s5 => q' H5 (s4.trans s5) _ ?_⟩
                    rw [eQ, b5]; rfl
                  · refine q' H4 s4 _ ?_
                    rw [eQ, Bool.eq_false_iff.mpr b5]; rfl
end
end TT

set_option Elab.async false
set_option linter.all false
set_option maxRecDepth 100000
namespace TT
open PySem PySem.Spec PyProof.Rows L2
theorem worthB_ok {o : Option Int} (h : WOk o) : worthB (wD o) = true := by
  cases o with
  | none => rfl
  | some i =>
    show (decide (-1000000000 ≤ i) && decide (i ≤ 1000000000)) = true
    rw [decide_eq_true h.1, decide_eq_true h.2]; rfl
theorem rowB_ok {n : Nat} {r : Rw} (h : RwOk n r) : rowB n (rowD r) = true := by
  obtain ⟨k, t, rfl⟩ := h.key
  show (decide ((List.map wD (some k :: t)).length = n) && (!isN (wD (some k)) && (List.map wD (some k :: t)).all worthB)) = true
  rw [List.length_map, decide_eq_true h.len, List.all_map, show (some k :: t).all (worthB ∘ wD) = true from List.all_eq_true.mpr (fun o ho => worthB_ok (h.w o ho))]
  rfl
theorem keyD_row {n : Nat} {r : Rw} (h : RwOk n r) : keyD (rowD r) = keyW r := by
  obtain ⟨k, t, rfl⟩ := h.key
  rfl
end TT

set_option Elab.async false
set_option linter.all false
set_option maxRecDepth 100000
namespace TT
open PySem PySem.Spec PyProof.Rows L2
def lensK : List (Key × V) := lens.map fun x => (Sum.inr x.1, V.int x.2)
theorem mkLens : mergeK [] [((Sum.inr "put" : Key), V.int 3), (Sum.inr "drop", .int 3), (Sum.inr "set", .int 5), (Sum.inr "sweep", .int 4), (Sum.inr "shift", .int 4)] = lensK := by rfl
theorem valV_lens (z : Str) : valV lensK (Sum.inr z) = getOf lens z := by
  unfold lensK getOf
  induction lens with
  | nil => rfl
  | cons x r ih =>
    rw [List.map_cons, List.find?_cons]
    cases h : (x.1 == z) with
    | true =>
      have e : x.1 = z := by simpa using h
      rw [valV_pos (show (Sum.inr x.1 : Key) = Sum.inr z by rw [e])]
      rfl
    | false =>
      have e : ¬ x.1 = z := by simpa using h
      rw [valV_neg (show ¬ (Sum.inr x.1 : Key) = Sum.inr z from fun y => e (Sum.inr.inj y))]
      exact ih
def colsT (x : Tab) : PyData := .tuple (x.2.map colD)
theorem shaped_colsT {l : List Tab} (h : ∀ x ∈ l, NameOk x.1 ∧ ColsOk 5 x.2) (h8 : l.length ≤ 8) : SeqAt.shaped (.list (l.map colsT)) = true := by
  have tn : ∀ x ∈ l, Nice 1000000000 8 (colsT x) ∧ (colsT x).depth ≤ 2 := fun x hx => by
    obtain ⟨n1, _, n3⟩ := tab_nice (by decide : 5 ≤ 8) (h x hx).1 (h x hx).2
    have n1' : Nice 1000000000 8 (.tuple [.str x.1, .tuple (x.2.map colD)]) := n1
    have n3' : max 0 (max (PyData.depthAll (x.2.map colD) + 1) 0) + 1 ≤ 3 := n3
    exact ⟨n1'.2.2.1, by show PyData.depthAll (x.2.map colD) + 1 ≤ 2; omega⟩
  refine shaped_nice (B := 1000000000) (L := 8) ⟨by rw [List.length_map]; exact h8, all_nice fun y hy => (tn y hy).1⟩ ?_
  have := all_depth (f := colsT) (n := 2) fun y hy => (tn y hy).2
  show PyData.depthAll (l.map colsT) + 1 ≤ 60
  omega
theorem filt_none {ts : List Tab} {t : Str} (h : ts.filter (fun (x : Tab) => x.1 == t) = []) : t ∉ tns ts := fun hm => by
  obtain ⟨x, hx, rfl⟩ := List.mem_map.mp hm
  have : x ∈ ts.filter (fun y => y.1 == x.1) := List.mem_filter.mpr ⟨hx, by simp⟩
  rw [h] at this
  cases this
theorem filt_some {ts : List Tab} {t : Str} {x : Tab} {r : List Tab} (nd : (ts.map (·.1)).Nodup) (h : ts.filter (fun (x : Tab) => x.1 == t) = x :: r) : t ∈ tns ts ∧ x ∈ ts ∧ x.1 = t ∧ cns ts t = x.2.map (·.1) := by
  have hx : x ∈ ts.filter (fun y => y.1 == t) := by rw [h]; exact List.mem_cons_self ..
  obtain ⟨h1, h2⟩ := List.mem_filter.mp hx
  have e : x.1 = t := by simpa using h2
  refine ⟨List.mem_map.mpr ⟨x, h1, e⟩, h1, e, ?_⟩
  subst e
  unfold cns
  rw [colsOf_mem nd h1]
theorem deed_no {ts : List Tab} {ds : List PyData} (h : ¬ 2 ≤ ds.length ∨ isSB (ds.getD 0 .none) = false ∨ isSB (ds.getD 1 .none) = false) : deedB ts (.tuple ds) = false := by
  show deedL ts ds = false
  unfold deedL
  cases e : ds.getD 0 .none with
  | str k =>
    show (decide ((ds.length : Int) = lenI k) && (inS (tns ts) (ds.getD 1 .none) && deedP ts k ds)) = false
    rcases h with h | h | h
    · have h1 : ds.length = 0 ∨ ds.length = 1 := by omega
      rw [decide_eq_false (fun z => ?_)]
      · rfl
      · have h0 : 0 < ds.length := by
          cases ds with
          | nil => cases e
          | cons a r => exact Nat.zero_lt_succ _
        have := lenI_some (z := k) (by omega)
        omega
    · rw [e] at h; cases h
    · have : inS (tns ts) (ds.getD 1 .none) = false := inS_false fun z ez => by rw [ez] at h; cases h
      rw [this, Bool.false_and, Bool.and_false]
  | _ => rfl
section
variable {P : Program} {w : World} {K : PySem.W.Frag} {mg : Str → Option Value} {base : Heap}
abbrev s_law_is_worth : Stmt := topS 30
abbrev N_law_is_worth : List Str := ["thing", "whole"]
theorem sc_law_is_worth : FnScope N_law_is_worth ["thing"] (defScope s_law_is_worth) := ⟨rfl, rfl, rfl, by decide +kernel, rfl, by decide +kernel, by decide +kernel⟩

theorem ok_law_is_worth {f : Addr} {fd : FuncData} (F : Fun K "_law_is_worth" "_law_is_worth" s_law_is_worth f fd) (nb : NB mg) : FnOk P w K mg base CX0 1 f fd ["thing"] (spB worthB K) := by
  refine F.ok sc_law_is_worth (fun vs H Q E h => spB_len h) (fun cdv A outer sh H vs Q E hr h => ?_)
  obtain ⟨v, d, rfl, hd, hf, q⟩ := h
  have nd := sc_law_is_worth.nd
  have q' : ∀ H', Same H H' → ∀ b, b = worthB d → Q (.bl b) H' := fun H' s b e => by rw [e]; exact q H' s
  have e9 : (10 : Int) ^ (9 : Int).toNat = 1000000000 := by decide
  refine ⟨_, (pss_cons (ps_set (i := 1) nd rfl (Or.inl rfl) (pe_and (pe_callB call_isi (by rfl) nb.b_isinstance (by decide +kernel) (pa_cons (pv 0) (pa_cons (pe_bltn (v := .ty "int") (by rfl) nb.b_int (by decide +kernel) rfl) pa_nil))) (pe_one (pe_not (pe_callB call_isi (by rfl) nb.b_isinstance (by decide +kernel) (pa_cons (pv 0) (pa_cons (pe_bltn (v := .ty "bool") (by rfl) nb.b_bool (by decide +kernel) rfl) pa_nil)))))))
      (pss_one (ps_ret (pe_or (pe_cmpR op_isN (pv 0) pe_non (nomark _)) (pe_one (pe_and (pv 1) (pe_one (pe_chain op_le op_le (pe_op op_sub pe_int (pe_op op_pow pe_int pe_int)) (pv 0) (pe_op op_pow pe_int pe_int))))))))), ?_⟩
  refine' (fun (rest : ∀ b : Bool, b = numB d → (_ : Bool → Prop) b) => _) _
  rotate_left
  · refine ⟨v, rfl, v, .ty "int", _, _, _, rfl, .ty "int", dp_ty hd, kit_i d, _, rfl, ite2 (fun h1 => ?_) (fun h1 => ?_)⟩
    · refine ⟨v, rfl, v, .ty "bool", _, _, _, rfl, .ty "bool", dp_ty hd, kit_b d, _, rfl, ?_⟩
      obtain ⟨b, eb⟩ : ∃ b, b = !isBB d := ⟨_, rfl⟩
      rw [← eb]
      refine rest b ?_
      rw [eb]
      cases d <;> simp_all [isIB, isBB, numB]
    · refine rest false ?_
      cases d <;> simp_all [isIB, numB]
  · intro b eb
    refine ⟨v, rfl, rfl, _, rfl, ?_⟩
    rw [isN_v hd]
    refine ite2 (fun h1 => ?_) (fun h1 => ?_)
    · refine q' H (Same.refl H) _ ?_
      rw [worth_bound, h1]; rfl
    · refine ⟨_, rfl, _, rfl, ite2 (fun h2 => ?_) (fun h2 => ?_)⟩
      · rw [eb] at h2
        obtain ⟨i, rfl, rfl⟩ : ∃ i, d = .int i ∧ v = .int i := by
          cases hd <;> first | exact ⟨_, rfl, rfl⟩ | cases h2
        refine ⟨10, 9, rfl, rfl, ⟨by decide, by decide, by decide⟩, _, _, rfl, rfl, .int i, rfl, _, _, rfl, rfl, _, rfl, ite2 (fun h3 => ?_) (fun h3 => ?_)⟩
        · refine ⟨10, 9, rfl, rfl, ⟨by decide, by decide, by decide⟩, _, _, rfl, rfl, q' H (Same.refl H) _ ?_⟩
          have h3 : (0 : Int) - 10 ^ (9 : Int).toNat ≤ i := of_decide_eq_true h3
          rw [e9] at h3 ⊢
          show _ = (decide (-1000000000 ≤ i) && decide (i ≤ 1000000000))
          rw [decide_eq_true (show -1000000000 ≤ i by omega)]; rfl
        · refine q' H (Same.refl H) _ ?_
          have h3 : ¬ (0 : Int) - 10 ^ (9 : Int).toNat ≤ i := fun z => h3 (decide_eq_true z)
          rw [e9] at h3
          show _ = (decide (-1000000000 ≤ i) && decide (i ≤ 1000000000))
          rw [decide_eq_false (show ¬ -1000000000 ≤ i by omega)]; rfl
      · refine q' H (Same.refl H) _ ?_
        have h2 : b = false := by simpa using h2
        rw [h2] at eb
        rw [worth_bound, Bool.eq_false_iff.mpr h1]
        cases d <;> first | rfl | cases eb
def spLRow (K : PySem.W.Frag) : Sp := fun vs H Q _ => ∃ (pc : Addr) (ys : List V) (v : V) (d : PyData), vs = [.ref pc, v] ∧ SqT K H pc ys ∧ 1 ≤ ys.length ∧ Dp K H v d ∧ Fit d ∧ ∀ H', Same H H' → Q (.bl (rowB ys.length d)) H'
abbrev s_law_is_row : Stmt := topS 31
abbrev N_law_is_row : List Str := ["columns", "row", "worth"]
theorem sc_law_is_row : FnScope N_law_is_row ["columns", "row"] (defScope s_law_is_row) := ⟨rfl, rfl, rfl, by decide +kernel, rfl, by decide +kernel, by decide +kernel⟩

theorem ok_law_is_row {f : Addr} {fd : FuncData} (F : Fun K "_law_is_row" "_law_is_row" s_law_is_row f fd) (nb : NB mg) (D_law_is_worth : Def P w K mg base 1 "_law_is_worth" ["thing"] (spB worthB K)) : FnOk P w K mg base CX0 2 f fd ["columns", "row"] (spLRow K) := by
  refine F.ok sc_law_is_row (fun vs H Q E h => ?_) (fun cdv A outer sh H vs Q E hr h => ?_)
  · obtain ⟨pc, ys, v, d, rfl, _⟩ := h
    rfl
  obtain ⟨pc, ys, v, d, rfl, hC, hn, hd, hf, q⟩ := h
  have nd := sc_law_is_row.nd
  have q' : ∀ H', Same H H' → ∀ b, b = rowB ys.length d → Q (.bl b) H' := fun H' s b e => by rw [e]; exact q H' s
  refine ⟨_, (pss_cons (ps_if (PW.pt (pw_or (pt_not (pt_val (pe_callB call_isi (by rfl) nb.b_isinstance (by decide +kernel) (pa_cons (pv 1) (pa_cons (pe_bltn (v := .ty "tuple") (by rfl) nb.b_tuple (by decide +kernel) rfl) pa_nil))))) (pw_or (pt_cmpR op_ne (pe_callB call_len_seq (by rfl) nb.b_len (by decide +kernel) (pa_cons (pv 1) pa_nil)) (pe_callB call_len_seq (by rfl) nb.b_len (by decide +kernel) (pa_cons (pv 0) pa_nil)) (nomark _)) (pw_or1 (pt_not (pt_val (pe_callB (cr_all rfl) (by rfl) nb.b_all (by decide +kernel) (pa_cons (pe_lc (own := [("worth", 2)]) (g := (gName 2)) (tt := tYes) rfl nd (pi_tup (pv 1)) (blkOk_by (N := N_law_is_row) (sc := defScope s_law_is_row) (by decide +kernel)) (fun _ _ _ _ _ => (pg_name (i := 2) nd rfl (Or.inl rfl))) (fun _ _ _ _ _ => pts_nil) (fun _ _ _ _ _ => (pe_own D_law_is_worth hr (pa_cons (pv 2) pa_nil)))) pa_nil))))))))
        (pss_one (ps_ret pe_bl))
        pss_nil)
      (pss_one (ps_ret (pe_cmpR op_notN (pe_ix ix_tup (pv 1) pe_int (fun _ _ => rfl)) pe_non (nomark _))))), ?_⟩
  refine ⟨v, rfl, v, .ty "tuple", _, _, _, rfl, .ty "tuple", dp_ty hd, kit_t d, _, rfl, ?_⟩
  cases ht1 : isTB d with
  | false =>
    refine iteT (iteT (q' H (Same.refl H) _ ?_))
    cases d <;> first | rfl | cases ht1
  | true =>
    refine iteF ?_
    obtain ⟨pr, zs, es, rfl, rfl, hT, hE⟩ := isT_of hd ht1
    have lz := dpAll_len hE
    have l9' := hf.1
    refine ⟨.ref pr, rfl, pr, zs, rfl, .inr hT, .ref pc, rfl, pc, ys, rfl, .inr hC, rfl, _, rfl, ?_⟩
    cases hl : decide (V.int (zs.length : Int) = V.int (ys.length : Int)) with
    | false =>
      refine iteT (iteT (q' H (Same.refl H) _ ?_))
      have h3 := of_decide_eq_false hl
      show false = (decide (es.length = ys.length) && _)
      rw [decide_eq_false (fun z => h3 (by rw [lz, z]))]; rfl
    | true =>
      refine iteF ?_
      have h3 := V.int.inj (of_decide_eq_true hl)
      have le : es.length = ys.length := by omega
      have eC : rowB ys.length (.tuple es) = (!isN (es.headD .none) && es.all worthB) := by
        show (decide (es.length = ys.length) && _) = _
        rw [decide_eq_true le]; rfl
      refine ⟨.ref pr, rfl, pr, rfl, ⟨_, hT⟩, fun D nD => ?_⟩
      refine lc_it walk_tup (PvM H D fun i => .bl (worthB (es.getD i .none))) (pvm_start ..) (fun i H2 _ hP => sameT (pvm_same hP nD) hT) (fun i x H2 H3 hi hP hY => ?_) (fun H2 hP => ?_)
      · obtain ⟨rfl, hx⟩ := hY
        obtain ⟨d2, g1, g2⟩ := dpAll_get i hE hx
        refine ⟨rfl, ?_⟩
        unfold tYes
        dsimp only
        refine iteT ?_
        refine ⟨x, rfl, x, d2, rfl, dp_same (pvm_same hP nD) g2, fit_mem hf.2 (List.mem_of_getElem? g1), fun H4 s4 => pvm_step hP s4 ?_ (by omega)⟩
        rw [getD_of g1]
      · have s2 := pvm_same hP nD
        refine ⟨D, (List.range zs.length).map fun i => worthB (es.getD i .none), rfl, .inl (.inl ?_), _, rfl, ?_⟩
        · rw [hP.1, List.map_map]; rfl
        rw [lz, range_all]
        cases hw : es.all worthB with
        | false =>
          refine iteT (q' H2 s2 _ ?_)
          rw [eC, hw, Bool.and_false]
        | true =>
          refine iteF ?_
          obtain ⟨d0, r, rfl⟩ : ∃ d0 r, es = d0 :: r := by
            cases es with
            | nil => simp at le; omega
            | cons a r => exact ⟨a, r, rfl⟩
          obtain ⟨x0, hx0, hd0⟩ := dpAll_at (i := 0) hE rfl
          refine ⟨.ref pr, rfl, pr, zs, 0, x0, rfl, rfl, sameT s2 hT, atI_nat (j := 0) hx0, rfl, q' H2 s2 _ ?_⟩
          rw [isN_v hd0, eC, hw]
          show (!isN d0) = (!isN d0 && true)
          rw [Bool.and_true]
abbrev s_law_due : Stmt := topS 32
abbrev N_law_due : List Str := ["tables", "thing", "rows", "sizes", "names", "column", "worth", "table", "columns", "fallback"]
theorem sc_law_due : FnScope N_law_due ["tables", "thing"] (defScope s_law_due) := ⟨rfl, rfl, rfl, by decide +kernel, rfl, by decide +kernel, by decide +kernel⟩

set_option maxHeartbeats 8000000 in
theorem ok_law_due {f : Addr} {fd : FuncData} (F : Fun K "_law_due" "_law_due" s_law_due f fd) (nb : NB mg) (D_law_is_worth : Def P w K mg base 1 "_law_is_worth" ["thing"] (spB worthB K)) (D_law_is_row : Def P w K mg base 2 "_law_is_row" ["columns", "row"] (spLRow K)) : FnOk P w K mg base CX0 3 f fd ["tables", "thing"] (spTs deedB K) := by
  refine F.ok sc_law_due (fun vs H Q E h => spTs_len h) (fun cdv A outer sh H vs Q E hr h => ?_)
  obtain ⟨tp, ts, v, d, rfl, hT, hd, hf, hs, q⟩ := h
  have nd := sc_law_due.nd
  have hu := hu_of hr
  have q' : ∀ H', Same H H' → ∀ b, b = deedB ts d → Q (.bl b) H' := fun H' s b e => by rw [e]; exact q H' s
  refine ⟨_, (pss_cons (ps_if (PW.pt (pw_or (pt_not (pt_val (pe_callB call_isi (by rfl) nb.b_isinstance (by decide +kernel) (pa_cons (pv 1) (pa_cons (pe_bltn (v := .ty "tuple") (by rfl) nb.b_tuple (by decide +kernel) rfl) pa_nil))))) (pw_or (pt_cmpR op_lt (pe_callB call_len_seq (by rfl) nb.b_len (by decide +kernel) (pa_cons (pv 1) pa_nil)) pe_int (nomark _)) (pw_or (pt_not (pt_val (pe_callB call_isi (by rfl) nb.b_isinstance (by decide +kernel) (pa_cons (pe_ix ix_tup (pv 1) pe_int (fun _ _ => rfl)) (pa_cons (pe_bltn (v := .ty "str") (by rfl) nb.b_str (by decide +kernel) rfl) pa_nil))))) (pw_or1 (pt_not (pt_val (pe_callB call_isi (by rfl) nb.b_isinstance (by decide +kernel) (pa_cons (pe_ix ix_tup (pv 1) pe_int (fun _ _ => rfl)) (pa_cons (pe_bltn (v := .ty "str") (by rfl) nb.b_str (by decide +kernel) rfl) pa_nil))))))))))
        (pss_one (ps_ret pe_bl))
        pss_nil)
      (pss_cons (ps_setLc (i := 2) (own := [("table", 7), ("columns", 8)]) (g := (gTup _ 2 (gCons (gName 7) (gCons (gName 8) gNil)))) rfl nd rfl rfl (sw_true rfl rfl rfl (by decide +kernel)) (pi_tup (pv 0)) (blkOk_by (N := N_law_due) (sc := defScope s_law_due) (by decide +kernel)) (fun _ _ _ _ _ => (pg_tup rfl (pgs_cons (pg_name (i := 7) nd rfl (Or.inl rfl)) (pgs_cons (pg_name (i := 8) nd rfl (Or.inl rfl)) pgs_nil)))) (fun _ _ _ _ _ => (pts_one (pt_cmpR op_eq (pv 7) (pe_ix (r := rIxT K) ix_tup (pv 1) pe_int (fun _ _ => rfl)) (nomark _)))) (fun _ _ _ _ _ => (pv 8)))
      (pss_cons (ps_set (i := 3) nd rfl (Or.inl rfl) (pe_disp (pps_cons pe_str pe_int (pps_cons pe_str pe_int (pps_cons pe_str pe_int (pps_cons pe_str pe_int (pps_cons pe_str pe_int pps_nil))))) (by rfl) (by rfl) (fun z => by cases z) (by decide)))
      (pss_cons (ps_if (PW.pt (pw_or (pt_cmpR (op_eqD hr.units) (pv 2) (pe_lst pa_nil) (nomark _)) (pw_or1 (pt_cmpR op_ne (pe_dget2 hu (pv 3) (pe_ix ix_tup (pv 1) pe_int (fun _ _ => rfl)) pe_int ⟨by rfl, by rfl, by rfl, by rfl⟩) (pe_callB call_len_seq (by rfl) nb.b_len (by decide +kernel) (pa_cons (pv 1) pa_nil)) (nomark _)))))
        (pss_one (ps_ret pe_bl))
        pss_nil)
      (pss_cons (ps_setLc (i := 4) (own := [("column", 5), ("fallback", 9)]) (g := (gTup _ 2 (gCons (gName 5) (gCons (gName 9) gNil)))) (tt := tYes) rfl nd rfl rfl (sw_true rfl rfl rfl (by decide +kernel)) (pi_tup (pe_ix ix_list (pv 2) pe_int (fun _ _ => rfl))) (blkOk_by (N := N_law_due) (sc := defScope s_law_due) (by decide +kernel)) (fun _ _ _ _ _ => (pg_tup rfl (pgs_cons (pg_name (i := 5) nd rfl (Or.inl rfl)) (pgs_cons (pg_name (i := 9) nd rfl (Or.inl rfl)) pgs_nil)))) (fun _ _ _ _ _ => pts_nil) (fun _ _ _ _ _ => (pv 5)))
      (pss_cons (ps_if (pt_cmpR op_eq (pe_ix ix_tup (pv 1) pe_int (fun _ _ => rfl)) pe_str (nomark _))
        (pss_one (ps_ret (pe_own D_law_is_row hr (pa_cons (pe_ix ix_list (pv 2) pe_int (fun _ _ => rfl)) (pa_cons (pe_ix ix_tup (pv 1) pe_int (fun _ _ => rfl)) pa_nil)))))
        pss_nil)
      (pss_cons (ps_if (pt_cmpR op_eq (pe_ix ix_tup (pv 1) pe_int (fun _ _ => rfl)) pe_str (nomark _))
        (pss_one (ps_ret (pe_and (pe_cmpR op_notN (pe_ix ix_tup (pv 1) pe_int (fun _ _ => rfl)) pe_non (nomark _)) (pe_one (pe_own D_law_is_worth hr (pa_cons (pe_ix ix_tup (pv 1) pe_int (fun _ _ => rfl)) pa_nil))))))
        pss_nil)
      (pss_cons (ps_par (i := 5) (j := 6) (by rfl) nd rfl rfl (by decide) rfl rfl (pa_cons (pe_ix ix_tup (pv 1) (pe_un un_neg pe_int) (fun _ _ => rfl)) (pa_cons (pe_ix ix_tup (pv 1) (pe_un un_neg pe_int) (fun _ _ => rfl)) pa_nil)) (by rfl))
      (pss_cons (ps_if (PW.pt (pw_or (pt_not (pt_val (pe_callB call_isi (by rfl) nb.b_isinstance (by decide +kernel) (pa_cons (pv 5) (pa_cons (pe_bltn (v := .ty "str") (by rfl) nb.b_str (by decide +kernel) rfl) pa_nil))))) (pw_or (pt_cmpR (op_ninN (u65 hr)) (pv 5) (pv 4) (by rfl)) (pw_or1 (pt_not (pt_val (pe_own D_law_is_worth hr (pa_cons (pv 6) pa_nil))))))))
        (pss_one (ps_ret pe_bl))
        pss_nil)
      (pss_cons (ps_if (PW.pt (pw_and (pt_cmpR op_eq (pe_ix ix_tup (pv 1) pe_int (fun _ _ => rfl)) pe_str (nomark _)) (pw_and1 (PW.pt (pw_or (pt_cmpR op_isN (pe_ix ix_tup (pv 1) pe_int (fun _ _ => rfl)) pe_non (nomark _)) (pw_or1 (pt_not (pt_val (pe_own D_law_is_worth hr (pa_cons (pe_ix ix_tup (pv 1) pe_int (fun _ _ => rfl)) pa_nil))))))))))
        (pss_one (ps_ret pe_bl))
        pss_nil)
      (pss_one (ps_ret (pe_or (pe_cmpR op_notN (pv 6) pe_non (nomark _)) (pe_or (pe_cmpR op_eq (pe_ix ix_tup (pv 1) pe_int (fun _ _ => rfl)) pe_str (nomark _)) (pe_one (pe_and (pe_cmpR op_eq (pe_ix ix_tup (pv 1) pe_int (fun _ _ => rfl)) pe_str (nomark _)) (pe_one (pe_cmpR (op_neD hr.units) (pv 5) (pe_ix ix_list (pv 4) pe_int (fun _ _ => rfl)) (nomark _))))))))))))))))))), ?_⟩
  refine ⟨v, rfl, v, .ty "tuple", _, _, _, rfl, .ty "tuple", dp_ty hd, kit_t d, _, rfl, ?_⟩
  cases ht : isTB d with
  | false =>
    refine iteT (iteT (q' H (Same.refl H) _ ?_))
    cases d <;> first | rfl | cases ht
  | true =>
  refine iteF ?_
  obtain ⟨p, xs, ds, rfl, rfl, hS, hA⟩ := isT_of hd ht
  have l := dpAll_len hA
  refine ⟨.ref p, rfl, p, xs, rfl, .inr hS, _, _, rfl, rfl, _, rfl, ?_⟩
  cases h2 : decide ((xs.length : Int) < 2) with
  | true =>
    have h2 := of_decide_eq_true h2
    exact iteT (iteT (q' H (Same.refl H) _ (deed_no (.inl (by omega))).symm))
  | false =>
  have h2 := of_decide_eq_false h2
  refine iteF ?_
  have at' : ∀ i, i < ds.length → ∃ u e, xs[i]? = some u ∧ ds[i]? = some e ∧ ds.getD i .none = e ∧ Dp K H u e ∧ Fit e ∧ SeqAt.shaped e = true := fun i hi => by
    have h1 : ds[i]? = some ds[i] := List.getElem?_eq_getElem hi
    obtain ⟨u, h2, h3⟩ := dpAll_at hA h1
    have hm := List.mem_of_getElem? h1
    exact ⟨u, _, h2, h1, getD_of h1, h3, fit_mem hf.2 hm, shaped_mem hs hm⟩
  obtain ⟨u0, e0, x0', y0, g0, d0, _, _⟩ := at' 0 (by omega)
  obtain ⟨u1, e1, x1, y1, g1, d1, _, sh1⟩ := at' 1 (by omega)
  refine ⟨.ref p, rfl, p, xs, 0, u0, rfl, rfl, hS, atI_nat (j := 0) x0', u0, .ty "str", _, _, _, rfl, .ty "str", dp_ty d0, kit_s e0, _, rfl, ?_⟩
  cases hk : isSB e0 with
  | false => exact iteT (iteT (q' H (Same.refl H) _ (deed_no (.inr (.inl (by rw [g0]; exact hk)))).symm))
  | true =>
  refine iteF ?_
  refine ⟨.ref p, rfl, p, xs, 1, u1, rfl, rfl, hS, atI_nat (j := 1) x1, u1, .ty "str", _, _, _, rfl, .ty "str", dp_ty d1, kit_s e1, _, rfl, ?_⟩
  cases hk1 : isSB e1 with
  | false => exact iteT (q' H (Same.refl H) _ (deed_no (.inr (.inr (by rw [g1]; exact hk1)))).symm)
  | true =>
  refine iteF ?_
  obtain ⟨k, rfl⟩ : ∃ k, e0 = .str k := by cases e0 <;> first | exact ⟨_, rfl⟩ | cases hk
  obtain ⟨t, rfl⟩ : ∃ t, e1 = .str t := by cases e1 <;> first | exact ⟨_, rfl⟩ | cases hk1
  cases d0
  cases d1
  have eL : deedB ts (.tuple ds) = (decide ((ds.length : Int) = lenI k) && (decide (t ∈ tns ts) && deedP ts k ds)) := by
    show deedL ts ds = _
    unfold deedL
    rw [g0, g1]; rfl
  -- rows
  obtain ⟨ws, hTS, hTA, lx⟩ := hT.parts
  have l8 := hT.l8
  refine ⟨.ref tp, rfl, tp, rfl, ⟨_, hTS⟩, fun R nR => ?_⟩
  refine lc_it (walk_tup (xs := ws)) (fun i H' => ∃ rs, H' R = some (.lst rs) ∧ DpAll K H rs (((ts.take i).filter (fun (x : Tab) => x.1 == t)).map colsT) ∧ rs.length ≤ i ∧ Kept [R] H H') ⟨[], upd_same, .nil, Nat.le_refl _, Kept.upd_in (List.mem_cons_self ..)⟩ (fun i H' _ hP => ?_) (fun i x H' H'' hi hP hY => ?_) (fun H4 hP => ?_)
  · obtain ⟨rs, _, _, _, k⟩ := hP
    exact sameT (fun b o e => k b o e fun z => by rw [List.mem_singleton.mp z, nR] at e; cases e) hTS
  · obtain ⟨rfl, hx⟩ := hY
    obtain ⟨rs, eR, hR, lr, k⟩ := hP
    have sk : Same H H'' := fun b o e => k b o e fun z => by rw [List.mem_singleton.mp z, nR] at e; cases e
    obtain ⟨tb, qq, pc, ys, htb, rfl, h1, h2, h3⟩ := tab_at hTA hx
    refine ⟨qq, _, rfl, sameT sk h1, rfl, .str tb.1, _, rfl, .ref pc, _, rfl, rfl, ?_⟩
    refine ⟨rfl, ?_⟩
    refine ⟨.str tb.1, rfl, .ref p, rfl, p, xs, 1, .str t, rfl, rfl, sameT sk hS, atI_nat (j := 1) x1, rfl, _, rfl, ?_⟩
    have ef : (ts.take (i + 1)).filter (fun (x : Tab) => x.1 == t) = (ts.take i).filter (fun (x : Tab) => x.1 == t) ++ (if tb.1 == t then [tb] else []) := by
      rw [List.take_add_one, htb, List.filter_append]
      congr 1
      show List.filter _ [tb] = _
      rw [List.filter_cons, List.filter_nil]
    refine ite2 (fun e => ?_) (fun e => ?_)
    · have e : tb.1 = t := V.str.inj (of_decide_eq_true e)
      refine ⟨.ref pc, rfl, rs, eR, small1000 (by omega), rs ++ [.ref pc], upd_same, ?_, ?_, k.trans (Kept.upd_in (List.mem_cons_self ..))⟩
      · rw [ef, show (tb.1 == t) = true by simp [e], if_pos rfl, List.map_append]
        exact dpAll_snoc hR (.tup h2 h3)
      · rw [List.length_append]; show rs.length + 1 ≤ i + 1; omega
    · have e : ¬ tb.1 = t := fun z => e (decide_eq_true (congrArg V.str z))
      refine ⟨rs, eR, ?_, by omega, k⟩
      rw [ef, show (tb.1 == t) = false by simp [e], if_neg (by decide), List.append_nil]
      exact hR
  obtain ⟨rs, eR, hR, lr, k'⟩ := hP
  rw [lx, List.take_length] at hR
  have s4 : Same H H4 := fun b o e => k' b o e fun z => by rw [List.mem_singleton.mp z, nR] at e; cases e
  -- sizes
  refine fun Z nZ => ⟨upd_same, [((Sum.inr "put" : Key), V.int 3), (Sum.inr "drop", .int 3), (Sum.inr "set", .int 5), (Sum.inr "sweep", .int 4), (Sum.inr "shift", .int 4)], rfl, (by show 5 ≤ 15; decide), ?_⟩
  rw [mkLens, upd_upd]
  have s5 := s4.trans (same_upd (o := .dK lensK) nZ)
  have eR5 : (upd H4 Z (.dK lensK)) R = some (.lst rs) := by rw [upd_ne (ne_of_none eR nZ)]; exact eR
  have eZ5 : (upd H4 Z (.dK lensK)) Z = some (.dK lensK) := upd_same
  show tSeq _ _ _ [some (.ref tp), some (.ref p), some (.ref R), some (.ref Z), none, none, none, none, none, none] (upd H4 Z (.dK lensK))
  generalize upd H4 Z (.dK lensK) = H5 at s5 eR5 eZ5 ⊢
  -- rows == [] or ..
  refine ⟨.ref R, rfl, Nat.zero_le _, fun E1 nE => ?_⟩
  have s56 : Same H5 (upd H5 E1 (.lst [])) := same_upd nE
  have eR6 := s56 _ _ eR5
  have eZ6 := s56 _ _ eZ5
  have s6 := s5.trans s56
  have eE6 : (upd H5 E1 (.lst [])) E1 = some (.lst []) := upd_same
  have hR6 := dpAll_same s6 hR
  generalize upd H5 E1 (.lst []) = H6 at s56 s6 eR6 eZ6 eE6 hR6 ⊢
  have fl : (ts.filter (fun (x : Tab) => x.1 == t)).length ≤ 8 := Nat.le_trans (List.length_filter_le ..) l8
  refine ⟨.list ((ts.filter (fun (x : Tab) => x.1 == t)).map colsT), .list [], .lst (.inl (.inl eR6)) hR6, .lst (.inl (.inl eE6)) .nil, shaped_colsT (fun x hx => ?_) fl, rfl, _, rfl, ?_⟩
  · have := (List.mem_filter.mp hx).1
    exact ⟨hT.ok.nm x this, (hT.ok.cs x this).1⟩
  rw [eqv_nil]
  cases hF : ts.filter (fun (x : Tab) => x.1 == t) with
  | nil =>
    refine iteT (iteT (q' H6 s6 _ ?_))
    rw [eL, decide_eq_false (filt_none hF), Bool.false_and, Bool.and_false]
  | cons x0 r0 =>
  refine iteF ?_
  obtain ⟨ht', hx0, e0, ec0⟩ := filt_some hT.ok.nd hF
  subst e0
  obtain ⟨okc, c0, c5, cnd⟩ := cns_ok hT.ok ht'
  rw [hF] at hR6
  obtain ⟨pc, ys, rr, rfl, hC, hCA⟩ : ∃ pc ys rr, rs = .ref pc :: rr ∧ SqT K H6 pc ys ∧ DpAll K H6 ys (x0.2.map colD) := by
    cases hR6 with
    | cons h1 h2 =>
      cases h1 with
      | tup g1 g2 => exact ⟨_, _, _, rfl, g1, g2⟩
  have ly : ys.length = x0.2.length := by rw [dpAll_len hCA, List.length_map]
  have lcn : (cns ts x0.1).length = x0.2.length := by rw [ec0, List.length_map]
  -- sizes.get(thing[0], 0) != len(thing)
  refine ⟨.ref Z, rfl, Z, rfl, .inl ⟨_, .inl eZ6⟩, .ref p, rfl, p, xs, 0, .str k, rfl, rfl, sameT s6 hS, atI_nat (j := 0) x0', _, .inl ⟨_, Sum.inr k, .inl eZ6, rfl, rfl⟩, ?_⟩
  rw [valV_lens, getOf_len]
  refine ⟨.ref p, rfl, p, xs, rfl, .inr (sameT s6 hS), rfl, _, rfl, ?_⟩
  cases hl : decide (V.int (lenI k) = V.int (xs.length : Int)) with
  | false =>
    refine iteT (q' H6 s6 _ ?_)
    have h1 := of_decide_eq_false hl
    rw [eL, decide_eq_false (fun z => h1 (by rw [l, z]))]; rfl
  | true =>
  refine iteF ?_
  have hlen : (ds.length : Int) = lenI k := by
    have := V.int.inj (of_decide_eq_true hl)
    omega
  have eP : deedB ts (.tuple ds) = deedP ts k ds := by
    rw [eL, decide_eq_true ht', decide_eq_true hlen]; rfl
  have ek := lenI_some (z := k) (by omega)
  obtain ⟨u2, e2, x2, y2, g2, d2, f2, sh2⟩ := at' 2 (by omega)
  -- names
  refine ⟨.ref R, rfl, R, _, 0, .ref pc, rfl, rfl, .inl (.inl eR6), atI_nat (j := 0) rfl, pc, rfl, ⟨_, hC⟩, fun D nD => ?_⟩
  refine lc_it (walk_tup (xs := ys)) (PvM H6 D fun i => .str ((cns ts x0.1).getD i Str.empty)) (pvm_start ..) (fun i H' _ hP => sameT (pvm_same hP nD) hC) (fun i x H' H'' hi hP hY => ?_) (fun H7 hP => ?_)
  · obtain ⟨rfl, hx⟩ := hY
    obtain ⟨co, qc, yc, hco, rfl, hqc⟩ := col_at hCA hx
    refine ⟨qc, _, rfl, sameT (pvm_same hP nD) hqc, rfl, .str co.1, _, rfl, yc, _, rfl, rfl, ?_⟩
    refine ⟨rfl, ?_⟩
    unfold tYes
    dsimp only
    refine iteT ?_
    refine ⟨.str co.1, rfl, pvm_step hP (Same.refl _) ?_ (by omega)⟩
    rw [ec0, getD_of (show (x0.2.map (·.1))[i]? = some co.1 by rw [List.getElem?_map, hco]; rfl)]
  have s67 := pvm_same hP nD
  have s7 := s6.trans s67
  have eD : H7 D = some (.lst ((cns ts x0.1).map V.str)) := by
    rw [hP.1, ly, ← lcn]
    have e := range_map (fun z => V.str z) Str.empty (cns ts x0.1)
    rw [e]
  have eR7 := s67 _ _ eR6
  have hC7 := sameT s67 hC
  show tSeq _ _ _ [some (.ref tp), some (.ref p), some (.ref R), some (.ref Z), some (.ref D), none, none, none, none, none] H7
  clear hP nD eZ6 eE6 hR6 s56 eR5 eZ5 s5 hR
  have hS7 := sameT s7 hS
  -- thing[0] == 'put'
  refine ⟨.ref p, rfl, p, xs, 0, .str k, rfl, rfl, hS7, atI_nat (j := 0) x0', rfl, _, rfl, ite2 (fun b1 => ?_) (fun b1 => ?_)⟩
  · have b1 : k = "put" := V.str.inj (of_decide_eq_true b1)
    refine ⟨.ref R, rfl, R, _, 0, .ref pc, rfl, rfl, .inl (.inl eR7), atI_nat (j := 0) rfl, .ref p, rfl, p, xs, 2, u2, rfl, rfl, hS7, atI_nat (j := 2) x2, pc, ys, u2, e2, rfl, hC7, by omega, dp_same s7 d2, f2, fun H8 s8 => q' H8 (s7.trans s8) _ ?_⟩
    rw [eP]
    unfold deedP
    rw [if_pos b1, g1, g2, show cns ts (strOf (.str x0.1)) = cns ts x0.1 from rfl, lcn, ly]
  · have b1 : ¬ k = "put" := fun z => b1 (decide_eq_true (by rw [z]))
    refine ⟨.ref p, rfl, p, xs, 0, .str k, rfl, rfl, hS7, atI_nat (j := 0) x0', rfl, _, rfl, ite2 (fun b2 => ?_) (fun b2 => ?_)⟩
    · have b2 : k = "drop" := V.str.inj (of_decide_eq_true b2)
      have eQ : deedB ts (.tuple ds) = boundB e2 := by
        rw [eP]
        unfold deedP
        rw [if_neg b1, if_pos b2, g2]
      refine ⟨.ref p, rfl, p, xs, 2, u2, rfl, rfl, hS7, atI_nat (j := 2) x2, rfl, _, rfl, ?_⟩
      rw [isN_v d2]
      cases hn : isN e2 with
      | true =>
        refine iteF (q' H7 s7 _ ?_)
        rw [eQ]
        cases e2 <;> first | rfl | cases hn
      | false =>
        refine iteT ?_
        refine ⟨.ref p, rfl, p, xs, 2, u2, rfl, rfl, hS7, atI_nat (j := 2) x2, u2, e2, rfl, dp_same s7 d2, f2, fun H8 s8 => q' H8 (s7.trans s8) _ ?_⟩
        rw [eQ, worth_bound, hn]; rfl
    · have b2 : ¬ k = "drop" := fun z => b2 (decide_eq_true (by rw [z]))
      obtain ⟨z0, zr, ez⟩ : ∃ z0 zr, cns ts x0.1 = z0 :: zr := by
        cases e : cns ts x0.1 with
        | nil => rw [e] at c0; cases c0
        | cons a r => exact ⟨a, r, rfl⟩
      have eZs : cns ts (strOf (ds.getD 1 .none)) = cns ts x0.1 := by rw [g1]; rfl
      have dk : ∀ s : Str, decide (V.str k = V.str s) = decide (k = s) := fun s => decide_eq_decide.mpr ⟨fun z => V.str.inj z, fun z => by rw [z]⟩
      refine' (fun (rest : ∀ (uc uw : V) (ec ew : PyData), Dp K H uc ec → SeqAt.shaped ec = true → Dp K H uw ew → Fit ew → (inS (cns ts x0.1) ec = false → deedB ts (.tuple ds) = false) → (worthB ew = false → deedB ts (.tuple ds) = false) → (k = "set" → boundB e2 = false → deedB ts (.tuple ds) = false) →
          (∀ z, ec = .str z → inS (cns ts x0.1) ec = true → worthB ew = true → (k = "set" → boundB e2 = true) → deedB ts (.tuple ds) = (!isN ew || (decide (k = "sweep") || (decide (k = "set") && !decide (z = z0))))) → (_ : V → V → Prop) uc uw) => _) _
      rotate_left
      · by_cases b3 : k = "set"
        · have l5 : ds.length = 5 := by
            rcases ek with ⟨z, _⟩ | ⟨z, _⟩ | ⟨_, z⟩ | ⟨z, _⟩ | ⟨z, _⟩
            · exact absurd z b1
            · exact absurd z b2
            · omega
            · rw [b3] at z; exact absurd z (by decide)
            · rw [b3] at z; exact absurd z (by decide)
          obtain ⟨u3, e3, x3, y3, g3, d3, f3, sh3⟩ := at' 3 (by omega)
          obtain ⟨u4, e4, x4, y4, g4, d4, f4, sh4⟩ := at' 4 (by omega)
          have eQ : deedB ts (.tuple ds) = (boundB e2 && cellB (cns ts x0.1) e3 e4) := by
            rw [eP]
            unfold deedP
            rw [if_neg b1, if_neg b2, if_pos b3, eZs, g2, g3, g4]
          have a3 : atI xs (-2) = some u3 := by
            have lx5 : xs.length = 5 := by omega
            match xs, lx5, x3 with
            | [a, b, c, d, e], _, x3 => exact x3
          have a4 : atI xs (-1) = some u4 := by
            have lx5 : xs.length = 5 := by omega
            match xs, lx5, x4 with
            | [a, b, c, d, e], _, x4 => exact x4
          refine ⟨.ref p, rfl, _, rfl, p, xs, -2, u3, rfl, rfl, hS7, a3, .ref p, rfl, _, rfl, p, xs, -1, u4, rfl, rfl, hS7, a4, u3, u4, rfl, ?_⟩
          refine rest u3 u4 e3 e4 d3 sh3 d4 f4 (fun h => ?_) (fun h => ?_) (fun _ h => ?_) (fun z ez2 h1 h2 h3 => ?_)
          · rw [eQ]
            cases e3 with
            | str z =>
              have h' : decide (z ∈ cns ts x0.1) = false := h
              show (boundB e2 && (decide (z ∈ cns ts x0.1) && _)) = false
              rw [h', Bool.false_and, Bool.and_false]
            | _ => exact Bool.and_false _
          · rw [eQ]
            have hb : boundB e4 = false := by
              rw [worth_bound, Bool.or_eq_false_iff] at h
              exact h.2
            cases e3 with
            | str z =>
              show (boundB e2 && (decide (z ∈ cns ts x0.1) && (if _ then boundB e4 else worthB e4))) = false
              rw [h, hb, ite_self, Bool.and_false, Bool.and_false]
            | _ => exact Bool.and_false _
          · rw [eQ, h]; rfl
          · subst ez2
            have h1' : decide (z ∈ cns ts x0.1) = true := h1
            rw [eQ, h3 b3]
            show (true && (decide (z ∈ cns ts x0.1) && (if (cns ts x0.1).head? = some z then boundB e4 else worthB e4))) = _
            rw [h1', Bool.true_and, Bool.true_and, decide_eq_true b3, decide_eq_false (show ¬ k = "sweep" from fun y => by rw [b3] at y; exact absurd y (by decide)), ez]
            by_cases hz : z = z0
            · rw [if_pos (by rw [hz]; rfl), decide_eq_true hz]
              rw [worth_bound] at h2
              cases hn : isN e4 with
              | true => cases e4 <;> first | rfl | cases hn
              | false => rw [hn] at h2; rw [show boundB e4 = true from h2]; rfl
            · rw [if_neg (show ¬ (z0 :: zr).head? = some z from fun y => hz (Option.some.inj y).symm), decide_eq_false hz, h2]
              simp
        · have l4 : ds.length = 4 := by
            rcases ek with ⟨z, _⟩ | ⟨z, _⟩ | ⟨z, _⟩ | ⟨_, z⟩ | ⟨_, z⟩
            · exact absurd z b1
            · exact absurd z b2
            · exact absurd z b3
            · omega
            · omega
          obtain ⟨u3, e3, x3, y3, g3, d3, f3, sh3⟩ := at' 3 (by omega)
          have eQ : deedB ts (.tuple ds) = (inS (cns ts x0.1) e2 && (if k = "sweep" then worthB e3 else boundB e3)) := by
            rw [eP]
            unfold deedP
            rw [if_neg b1, if_neg b2, if_neg b3, eZs, g2, g3]
            by_cases b4 : k = "sweep"
            · rw [if_pos b4, if_pos b4]
            · rw [if_neg b4, if_neg b4]
          have a3 : atI xs (-2) = some u2 := by
            have lx5 : xs.length = 4 := by omega
            match xs, lx5, x2 with
            | [a, b, c, d], _, x2 => exact x2
          have a4 : atI xs (-1) = some u3 := by
            have lx5 : xs.length = 4 := by omega
            match xs, lx5, x3 with
            | [a, b, c, d], _, x3 => exact x3
          refine ⟨.ref p, rfl, _, rfl, p, xs, -2, u2, rfl, rfl, hS7, a3, .ref p, rfl, _, rfl, p, xs, -1, u3, rfl, rfl, hS7, a4, u2, u3, rfl, ?_⟩
          refine rest u2 u3 e2 e3 d2 sh2 d3 f3 (fun h => ?_) (fun h => ?_) (fun z => absurd z b3) (fun z ez2 h1 h2 h3 => ?_)
          · rw [eQ, h]; rfl
          · have hb : boundB e3 = false := by
              rw [worth_bound, Bool.or_eq_false_iff] at h
              exact h.2
            rw [eQ, h, hb, ite_self, Bool.and_false]
          · rw [eQ, h1, decide_eq_false b3]
            by_cases b4 : k = "sweep"
            · rw [if_pos b4, decide_eq_true b4, h2]; simp
            · rw [if_neg b4, decide_eq_false b4]
              rw [worth_bound] at h2
              cases hn : isN e3 with
              | true => cases e3 <;> first | rfl | cases hn
              | false => rw [hn] at h2; rw [show boundB e3 = true from h2]; rfl
      · intro uc uw ec ew dc sc dw fw n1 n2 n3 n4
        show tSeq _ _ _ [some (.ref tp), some (.ref p), some (.ref R), some (.ref Z), some (.ref D), some uc, some uw, none, none, none] H7
        refine ⟨uc, rfl, uc, .ty "str", _, _, _, rfl, .ty "str", dp_ty (dp_same s7 dc), kit_s ec, _, rfl, ?_⟩
        cases hsc : isSB ec with
        | false => exact iteT (iteT (q' H7 s7 _ (n1 (inS_false fun z e => by rw [e] at hsc; cases hsc)).symm))
        | true =>
        refine iteF ?_
        obtain ⟨z, rfl⟩ : ∃ z, ec = .str z := by cases ec <;> first | exact ⟨_, rfl⟩ | cases hsc
        cases dc
        refine ⟨.str z, rfl, .ref D, rfl, .str z, cns ts x0.1, D, rfl, .str z, sc, .inl (.inl (.inl eD)), shaped_strs okc, _, rfl, ?_⟩
        cases hi : inS (cns ts x0.1) (.str z) with
        | false => exact iteT (iteT (q' H7 s7 _ (n1 hi).symm))
        | true =>
        refine iteF ?_
        refine ⟨uw, rfl, uw, ew, rfl, dp_same s7 dw, fw, fun H8 s8' => ⟨_, rfl, ?_⟩⟩
        have s8 := s7.trans s8'
        cases hw : worthB ew with
        | false => exact iteT (q' H8 s8 _ (n2 hw).symm)
        | true =>
        refine iteF ?_
        have hS8 := sameT s8 hS
        have eD8 := s8' _ _ eD
        -- thing[0] == 'set' and ..
        refine' (fun (rest2 : ∀ (H9 : Hp), Same H8 H9 → (k = "set" → boundB e2 = true) → (_ : Hp → Prop) H9) => _) _
        rotate_left
        · refine ⟨.ref p, rfl, p, xs, 0, .str k, rfl, rfl, hS8, atI_nat (j := 0) x0', rfl, _, rfl, ?_⟩
          rw [dk]
          by_cases b3 : k = "set"
          · rw [decide_eq_true b3]
            refine iteT ?_
            refine ⟨.ref p, rfl, p, xs, 2, u2, rfl, rfl, hS8, atI_nat (j := 2) x2, rfl, _, rfl, ?_⟩
            rw [isN_v d2]
            cases hn : isN e2 with
            | true =>
              refine iteT (iteT (q' H8 s8 _ (n3 b3 ?_).symm))
              cases e2 <;> first | rfl | cases hn
            | false =>
              refine iteF ?_
              refine ⟨.ref p, rfl, p, xs, 2, u2, rfl, rfl, hS8, atI_nat (j := 2) x2, u2, e2, rfl, dp_same s8 d2, f2, fun H9 s9 => ⟨_, rfl, ?_⟩⟩
              cases hw2 : worthB e2 with
              | false =>
                refine iteT (q' H9 (s8.trans s9) _ (n3 b3 ?_).symm)
                rw [worth_bound, Bool.or_eq_false_iff] at hw2
                exact hw2.2
              | true =>
                refine iteF ?_
                refine rest2 H9 s9 (fun _ => ?_)
                rw [worth_bound, hn] at hw2
                exact hw2
          · rw [decide_eq_false b3]
            refine iteF ?_
            refine iteF ?_
            exact rest2 H8 (Same.refl _) (fun z => absurd z b3)
        · intro H9 s89 h3
          have s9 := s8.trans s89
          have hS9 := sameT s9 hS
          have eD9 := s89 _ _ eD8
          have eF := n4 z rfl hi hw h3
          refine ⟨uw, rfl, rfl, _, rfl, ?_⟩
          rw [isN_v dw]
          cases hn : isN ew with
          | false =>
            refine iteT (q' H9 s9 _ ?_)
            rw [eF, hn]; rfl
          | true =>
            refine iteF ?_
            refine ⟨.ref p, rfl, p, xs, 0, .str k, rfl, rfl, hS9, atI_nat (j := 0) x0', rfl, _, rfl, ?_⟩
            rw [dk]
            by_cases b4 : k = "sweep"
            · rw [decide_eq_true b4]
              refine iteT (q' H9 s9 _ ?_)
              rw [eF, hn, decide_eq_true b4]; rfl
            · rw [decide_eq_false b4]
              refine iteF ?_
              refine ⟨.ref p, rfl, p, xs, 0, .str k, rfl, rfl, hS9, atI_nat (j := 0) x0', rfl, _, rfl, ?_⟩
              rw [dk]
              by_cases b3 : k = "set"
              · rw [decide_eq_true b3]
                refine iteT ?_
                have hz0 : atI ((cns ts x0.1).map V.str) 0 = some (.str z0) := by rw [ez]; exact atI_nat (j := 0) rfl
                refine ⟨_, rfl, .ref D, rfl, D, _, 0, .str z0, rfl, rfl, .inl (.inl eD9), hz0, .str z, .str z0, .str z, .str z0, sc, shaped_str (okc z0 (by rw [ez]; exact List.mem_cons_self ..)), q' H9 s9 _ ?_⟩
                rw [eF, hn, decide_eq_false b4, decide_eq_true b3]
                show (!(z == z0)) = !decide (z = z0)
                congr 1
              · rw [decide_eq_false b3]
                refine iteF (q' H9 s9 _ ?_)
                rw [eF, hn, decide_eq_false b4, decide_eq_false b3]; rfl
end
end TT

set_option Elab.async false
set_option linter.all false
set_option maxRecDepth 100000
namespace TT
open PySem PySem.Spec PyProof.Rows L2
/-- the names handed along -/
structure NamesAt (H : Hp) (M : List Addr) (p : Addr) (zs : List Str) : Prop where
  out : p ∉ M
  at' : H p = some (.lst (zs.map V.str))
  ok : ∀ z ∈ zs, NameOk z
  len : zs.length ≤ 100
theorem NamesAt.kept {H H' : Hp} {M : List Addr} {p : Addr} {zs : List Str} (h : NamesAt H M p zs) (k : Kept M H H') : NamesAt H' M p zs := ⟨h.out, k.at h.at' h.out, h.ok, h.len⟩
theorem numV_of {K : PySem.W.Frag} {H : Hp} {v : V} {d : PyData} {B L : Nat} (hd : Dp K H v d) (h : isIB d = true) (n : Nice B L d) (hB : 1 ≤ B) : ∃ i, NumV v i ∧ i.natAbs ≤ B ∧ isSB d = false ∧ d.depth = 0 ∧ wt d ≤ 25 ∧ Nice B 1 d ∧ ∀ H', Dp K H' v d := by
  cases hd with
  | bl b => exact ⟨_, .bl b, (by cases b; exact Nat.zero_le _; exact hB), rfl, rfl, (by show 5 ≤ 25; decide), trivial, fun _ => .bl b⟩
  | int i => exact ⟨i, .int i, n, rfl, rfl, Nat.le_refl _, n, fun _ => .int i⟩
  | non => cases h
  | str z => cases h
  | lst _ _ => cases h
  | tup _ _ => cases h
section
variable {P : Program} {w : World} {K : PySem.W.Frag} {mg : Str → Option Value} {base : Heap}
def spOther (K : PySem.W.Frag) : Sp := fun vs H Q _ => ∃ (M : List Addr) (s c p : Addr) (T B L : Nat) (v : V) (d : PyData) (zs : List Str), vs = [.ref s, v, .ref p] ∧ StAt H s c T ∧ Mask M H s c ∧ T ≤ 1000000 ∧ Dp K (msk M H) v d ∧ Nice B L d ∧ 1 ≤ B ∧ B ≤ 10 ^ 12 ∧ wt d ≤ 50000 ∧ NamesAt H M p zs ∧
  ∀ (u : V) (e : PyData) (H' : Hp), Dp K (msk M H') u e → Good (B + 2000000000) (wt d + 300) e → StAt H' s c (T + 1) → Kept [s, c] H H' → Q u H'
abbrev s_law_other : Stmt := topS 28
abbrev N_law_other : List Str := ["state", "thing", "names", "some"]
theorem sc_law_other : FnScope N_law_other ["state", "thing", "names"] (defScope s_law_other) := ⟨rfl, rfl, rfl, by decide +kernel, rfl, by decide +kernel, by decide +kernel⟩

theorem ok_other {f : Addr} {fd : FuncData} (F : Fun K "_law_other" "_law_other" s_law_other f fd) (nb : NB mg) (D_law_some : Def P w K mg base 2 "_law_some" ["state", "things"] (spSome K)) : FnOk P w K mg base CX0 3 f fd ["state", "thing", "names"] (spOther K) := by
  refine F.ok sc_law_other (fun vs H Q E h => ?_) (fun cdv A outer sh H vs Q E hr h => ?_)
  · obtain ⟨M, s, c, p, T, B, L, v, d, zs, rfl, _⟩ := h
    rfl
  · obtain ⟨M, s, c, p, T, B, L, v, d, zs, rfl, S, hM, hT, hd, hn, hB0, hB, hw, N, q⟩ := h
    have nd := sc_law_other.nd
    have hu := hu_of hr
    have e9 : (10 : Int) ^ (9 : Int).toNat = 1000000000 := by decide
    refine ⟨_, (pss_cons (ps_set (i := 3) nd rfl (Or.inl rfl) (pe_lst (pa_cons pe_non (pa_cons pe_bl (pa_cons pe_bl (pa_cons pe_str (pa_cons pe_str (pa_cons pe_str (pa_cons pe_str (pa_cons pe_str (pa_cons (pe_tup pa_nil) (pa_cons (pe_lst pa_nil) (pa_cons (pe_tup (pa_cons pe_int pa_nil)) (pa_cons pe_int (pa_cons (pe_un un_neg pe_int) (pa_cons (pe_op op_pow pe_int pe_int) (pa_cons pe_str pa_nil)))))))))))))))))
      (pss_cons (ps_if (pt_val (pe_callB call_isi (by rfl) nb.b_isinstance (by decide +kernel) (pa_cons (pv 1) (pa_cons (pe_bltn (v := .ty "int") (by rfl) nb.b_int (by decide +kernel) rfl) pa_nil))))
        (pss_cons (ps_set (i := 3) nd rfl (Or.inl rfl) (pe_op op_cat (pv 3) (pe_lst (pa_cons (pe_op op_addN (pv 1) pe_int) (pa_cons (pe_op op_subN (pv 1) pe_int) (pa_cons (pe_op op_addN (pv 1) pe_int) (pa_cons (pe_op op_subN (pv 1) pe_int) (pa_cons (pe_op op_subIN pe_int (pv 1)) (pa_cons (pe_callTy call_str_num (by rfl) nb.b_str (by decide +kernel) (pa_cons (pv 1) pa_nil)) (pa_cons (pe_tup (pa_cons (pv 1) pa_nil)) (pa_cons (pe_lst (pa_cons (pv 1) pa_nil)) pa_nil)))))))))))
        (pss_one (ps_set (i := 3) nd rfl (Or.inl rfl) (pe_op op_cat (pv 3) (pe_lst (pa_cons pe_int (pa_cons (pe_op op_add (pe_op op_pow pe_int pe_int) pe_int) (pa_cons (pe_op op_sub pe_int (pe_op op_pow pe_int pe_int)) (pa_cons (pe_op op_sub (pe_op op_sub pe_int (pe_op op_pow pe_int pe_int)) pe_int) pa_nil)))))))))
        pss_nil)
      (pss_cons (ps_if (pt_val (pe_callB call_isi (by rfl) nb.b_isinstance (by decide +kernel) (pa_cons (pv 1) (pa_cons (pe_bltn (v := .ty "str") (by rfl) nb.b_str (by decide +kernel) rfl) pa_nil))))
        (pss_cons (ps_set (i := 3) nd rfl (Or.inl rfl) (pe_op op_cat (pe_op op_cat (pe_op op_cat (pv 3) (pe_lst (pa_cons (pe_op op_add_str (pv 1) pe_str) (pa_cons (pe_slice sl_str (pv 1) po_none (po_some (pe_un un_neg pe_int))) (pa_cons (pe_upper (pv 1)) (pa_cons (pe_op op_add_str (pv 1) pe_str) (pa_cons (pe_lst (pa_cons (pv 1) pa_nil)) (pa_cons (pe_tup (pa_cons (pv 1) pa_nil)) pa_nil)))))))) (pv 2)) (pv 2)))
        (pss_one (ps_set (i := 3) nd rfl (Or.inl rfl) (pe_op op_cat (pv 3) (pe_lst (pa_cons pe_str (pa_cons pe_str (pa_cons pe_str (pa_cons pe_str (pa_cons pe_str (pa_cons pe_str (pa_cons pe_str pa_nil))))))))))))
        pss_nil)
      (pss_one (ps_ret (pe_own D_law_some hr (pa_cons (pv 0) (pa_cons (pv 3) pa_nil)))))))), ?_⟩
    have small : ∀ n : Nat, n ≤ 1000 → n ≤ sizeLine := fun n h => Nat.le_of_lt (small1000 h)
    -- the end: _law_some of a bag
    have fin : ∀ (Lx : Addr) (H1 : Hp) (us : List V) (ds : List PyData), Bag K M s c T (B + 2000000000) (wt d + 300) H H1 Lx us ds → 0 < ds.length → ds.length ≤ 1000 →
        tRet (tCall (spSome K) [] E0 (tCons (tVar 0) (tCons (tVar 3) tNil))) { nx := fun x H' => Q V.non H', rt := Q } [some (.ref s), some v, some (.ref p), some (.ref Lx)] H1 := by
      intro Lx H1 us ds b l0 l1
      have l := dpAll_len b.dp
      refine ⟨.ref s, rfl, .ref Lx, rfl, s, c, Lx, T, us, rfl, b.st, hT, (fun z => b.out (b.mask.sc _ z)), .inl (.inl (.inl b.at')), by omega, by omega, fun j u H2 hj S2 K2 => ?_⟩
      obtain ⟨e, he, hde⟩ := dpAll_get j b.dp hj
      exact q u e H2 (dp_same (b.mask.same K2) hde) (b.good e (List.mem_of_getElem? he)) S2 (b.kept.trans K2)
    -- the first fifteen
    refine ⟨Nat.zero_le _, fun t1 n1 => ⟨Nat.zero_le _, fun l1 m1 => ⟨(by show 1 ≤ sizeLine; decide), fun t2 n2 => ⟨1, rfl, 10, 9, rfl, rfl, ⟨by decide, by decide, by decide⟩, (by show 15 ≤ sizeLine; decide), fun L0 nL0 => ?_⟩⟩⟩⟩
    have S1 := S.upd_new (o := .tup []) n1
    have S2 := S1.upd_new (o := .lst []) m1
    have S3 := S2.upd_new (o := .tup [.int 0]) n2
    have K3 : Kept [s, c] H (upd (upd (upd H t1 (.tup [])) l1 (.lst [])) t2 (.tup [.int 0])) := (Kept.upd_new n1).trans ((Kept.upd_new m1).trans (Kept.upd_new n2))
    have b0 : Bag K M s c T (B + 2000000000) (wt d + 300) H (upd (upd (upd (upd H t1 (.tup [])) l1 (.lst [])) t2 (.tup [.int 0])) L0 (.lst (first15V t1 l1 t2))) L0 (first15V t1 l1 t2) first15D := by
      refine Bag.mk' ?_ (first15_good (by omega) (by omega)) K3 S3 hM.up.up.up nL0
      refine .cons .non (.cons (.bl true) (.cons (.bl false) (.cons (.str _) (.cons (.str _) (.cons (.str _) (.cons (.str _) (.cons (.str _) (.cons ?_ (.cons ?_ (.cons ?_ (.cons (.int _) (.cons (.int _) (.cons (.int _) (.cons (.str _) .nil))))))))))))))
      · exact dp_up n2 (dp_up m1 (dp_tup_new hM n1 .nil))
      · exact dp_up n2 (dp_lst_new hM.up m1 .nil)
      · exact dp_tup_new hM.up.up n2 (.cons (.int 0) .nil)
    have eL0 : (upd (upd (upd (upd H t1 (.tup [])) l1 (.lst [])) t2 (.tup [.int 0])) L0 (.lst (first15V t1 l1 t2))) L0 = some (.lst (first15V t1 l1 t2)) := upd_same
    show tSeq _ _ _ _ (upd (upd (upd (upd H t1 (.tup [])) l1 (.lst [])) t2 (.tup [.int 0])) L0 (.lst (first15V t1 l1 t2)))
    generalize upd (upd (upd (upd H t1 (.tup [])) l1 (.lst [])) t2 (.tup [.int 0])) L0 (.lst (first15V t1 l1 t2)) = H1 at b0 eL0
    have hd1 : Dp K (msk M H1) v d := dp_same (hM.same b0.kept) hd
    -- if isinstance(thing, int)
    refine ⟨v, rfl, v, .ty "int", _, _, _, rfl, .ty "int", dp_ty (dp_same (msk_sub _ _) hd1), kit_i d, _, rfl, ite2 (fun h1 => ?_) (fun h1 => ?_)⟩
    · obtain ⟨i, hN, hi, hs, dd, dw, dn, dv⟩ := numV_of hd h1 hn hB0
      have hi20 : i.natAbs ≤ 10 ^ 20 := Nat.le_trans hi (Nat.le_trans hB (by decide))
      refine ⟨.ref L0, rfl, v, rfl, i, 1, hN, rfl, v, rfl, i, 1, hN, rfl, v, rfl, i, 1, hN, rfl, v, rfl, i, 1, hN, rfl, v, rfl, 0, i, rfl, hN, v, rfl, v, i, rfl, hN, Nat.lt_of_lt_of_le (PySem.Flt.log2_lt_of (k := 70) (by decide) (Nat.lt_of_le_of_lt hi20 (by decide))) (by decide), v, rfl, (by show 1 ≤ sizeLine; decide), fun t3 n3 => ?_⟩
      refine ⟨v, rfl, (by show 1 ≤ sizeLine; decide), fun l3 m3 => ⟨(by show 8 ≤ sizeLine; decide), fun L1 nL1 => ?_⟩⟩
      have b1 := (b0.up (o := .tup [v]) n3)
      have b2 := (b1.up (o := .lst [v]) m3)
      have b3 := b2.up (o := .lst [.int (i + 1), .int (i - 1), .int (i + 1), .int (i - 1), .int (0 - i), .str (numText v), .ref t3, .ref l3]) nL1
      have gI : ∀ j : Int, j.natAbs ≤ B + 2000000000 → Good (B + 2000000000) (wt d + 300) (.int j) := fun j hj => int_of hj (by omega)
      obtain ⟨ga, gl⟩ := num_asc hN hi20
      have gone := good_one (B := B + 2000000000) (W := wt d + 300) (e := d) (dn.mono (by omega) (Nat.le_refl _)) dd (by omega)
      have c3 : Bag K M s c T (B + 2000000000) (wt d + 300) H (upd (upd (upd H1 t3 (.tup [v])) l3 (.lst [v])) L1 (.lst [.int (i + 1), .int (i - 1), .int (i + 1), .int (i - 1), .int (0 - i), .str (numText v), .ref t3, .ref l3])) L1 [.int (i + 1), .int (i - 1), .int (i + 1), .int (i - 1), .int (0 - i), .str (numText v), .ref t3, .ref l3] [.int (i + 1), .int (i - 1), .int (i + 1), .int (i - 1), .int (0 - i), .str (numText v), .tuple [d], .list [d]] := by
        refine Bag.mk' ?_ ?_ b2.kept b2.st b2.mask nL1
        · refine .cons (.int _) (.cons (.int _) (.cons (.int _) (.cons (.int _) (.cons (.int _) (.cons (.str _) (.cons ?_ (.cons ?_ .nil)))))))
          · exact dp_up m3 (dp_tup_new b0.mask n3 (.cons (dv _) .nil))
          · exact dp_lst_new b1.mask m3 (.cons (dv _) .nil)
        · intro e he
          simp only [List.mem_cons, List.not_mem_nil, or_false] at he
          rcases he with rfl | rfl | rfl | rfl | rfl | rfl | rfl | rfl
          · exact gI _ (by omega)
          · exact gI _ (by omega)
          · exact gI _ (by omega)
          · exact gI _ (by omega)
          · exact gI _ (by omega)
          · exact ⟨ga, by show 10 * (numText v).length + 12 ≤ _; omega, Nat.zero_le _⟩
          · exact gone.1
          · exact gone.2
      refine ⟨L0, L1, _, _, rfl, rfl, b3.at', c3.at', small _ (by show 15 + 8 ≤ 1000; decide), fun L2 nL2 => ?_⟩
      have b4 := b3.cat c3 nL2
      -- some + [1, ..]
      refine ⟨.ref L2, rfl, 10, 9, rfl, rfl, ⟨by decide, by decide, by decide⟩, _, _, rfl, rfl, 10, 9, rfl, rfl, ⟨by decide, by decide, by decide⟩, _, _, rfl, rfl, 10, 9, rfl, rfl, ⟨by decide, by decide, by decide⟩, _, _, rfl, rfl, _, _, rfl, rfl, (by show 4 ≤ sizeLine; decide), fun L3 nL3 => ?_⟩
      have b5 := b4.up (o := .lst [.int 1, .int (10 ^ (9 : Int).toNat + 1), .int (0 - 10 ^ (9 : Int).toNat), .int (0 - 10 ^ (9 : Int).toNat - 1)]) nL3
      have c5 := Bag.mk' (K := K) (B := B + 2000000000) (W := wt d + 300) (H0 := H) (vs := [.int 1, .int (10 ^ (9 : Int).toNat + 1), .int (0 - 10 ^ (9 : Int).toNat), .int (0 - 10 ^ (9 : Int).toNat - 1)]) (.cons (.int _) (.cons (.int _) (.cons (.int _) (.cons (.int _) .nil)))) (by
        intro e he
        simp only [List.mem_cons, List.not_mem_nil, or_false] at he
        rcases he with rfl | rfl | rfl | rfl
        · exact gI _ (by show 1 ≤ _; omega)
        · exact gI _ (by rw [e9]; omega)
        · exact gI _ (by rw [e9]; omega)
        · exact gI _ (by rw [e9]; omega)) b4.kept b4.st b4.mask nL3
      refine ⟨L2, L3, _, _, rfl, rfl, b5.at', c5.at', small _ (by show 15 + 8 + 4 ≤ 1000; decide), fun L4 nL4 => ?_⟩
      have b6 := b5.cat c5 nL4
      refine ⟨v, rfl, v, .ty "str", _, _, _, rfl, .ty "str", dp_ty (dv _), kit_s d, _, rfl, ?_⟩
      rw [hs]
      exact iteF (fin L4 _ _ _ b6 (by show 0 < 27; decide) (by show 27 ≤ 1000; decide))
    · refine ⟨v, rfl, v, .ty "str", _, _, _, rfl, .ty "str", dp_ty (dp_same (msk_sub _ _) hd1), kit_s d, _, rfl, ite2 (fun h2 => ?_) (fun h2 => ?_)⟩
      · obtain ⟨z, rfl, rfl⟩ : ∃ z, d = .str z ∧ v = .str z := by
          cases hd <;> first | exact ⟨_, rfl, rfl⟩ | cases h2
        have hA : ∀ x ∈ cl z, x < 128 := hn
        have hwz : wt (.str z) = 10 * z.length + 12 := rfl
        rw [hwz] at hw
        have zl : z.length ≤ 5000 := by omega
        have zs' : z.length ≤ sizeLine := Nat.le_trans zl (by decide)
        have l1 : (Str.ofString "z").length = 1 := by decide +kernel
        have l2 : (Str.ofString " ").length = 1 := by decide +kernel
        have cut := cut_asc hA none (some (-1))
        have up := upper_asc hA
        refine ⟨.ref L0, rfl, .str z, rfl, z, _, rfl, rfl, (by rw [l1]; exact Nat.le_trans (Nat.succ_le_succ zl) (by decide)), .str z, rfl, 1, rfl, _, rfl, z, rfl, zs', .str z, rfl, ⟨_, rfl⟩, z, rfl, rfl, Nat.le_trans zl (by decide), .str z, rfl, z, _, rfl, rfl, (by rw [l2]; exact Nat.le_trans (Nat.succ_le_succ zl) (by decide)), .str z, rfl, (by show 1 ≤ sizeLine; decide), fun l3 m3 => ?_⟩
        refine ⟨.str z, rfl, (by show 1 ≤ sizeLine; decide), fun t3 n3 => ⟨(by show 6 ≤ sizeLine; decide), fun L1 nL1 => ?_⟩⟩
        have b1 := (b0.up (o := .lst [.str z]) m3)
        have b2 := (b1.up (o := .tup [.str z]) n3)
        have b3 := b2.up (o := .lst [.str (z ++ Str.ofString "z"), .str (cutS z none (some (-1))), .str (Txt.upper z), .str (z ++ Str.ofString " "), .ref l3, .ref t3]) nL1
        have gS : ∀ y : Str, (∀ x ∈ cl y, x < 128) → y.length ≤ z.length + 1 → Good (B + 2000000000) (wt (.str z) + 300) (.str y) := fun y h1 h2 => ⟨h1, by show 10 * y.length + 12 ≤ 10 * z.length + 12 + 300; omega, Nat.zero_le _⟩
        have gone := good_one (B := B + 2000000000) (W := wt (.str z) + 300) (e := .str z) hA rfl (by omega)
        have app : ∀ a : Str, (∀ x ∈ cl a, x < 128) → ∀ x ∈ cl (z ++ a), x < 128 := fun a ha x hx => by
          rw [cl_app] at hx
          exact (List.mem_append.mp hx).elim (hA x) (ha x)
        have c3 : Bag K M s c T (B + 2000000000) (wt (.str z) + 300) H (upd (upd (upd H1 l3 (.lst [.str z])) t3 (.tup [.str z])) L1 (.lst [.str (z ++ Str.ofString "z"), .str (cutS z none (some (-1))), .str (Txt.upper z), .str (z ++ Str.ofString " "), .ref l3, .ref t3])) L1
            [.str (z ++ Str.ofString "z"), .str (cutS z none (some (-1))), .str (Txt.upper z), .str (z ++ Str.ofString " "), .ref l3, .ref t3] [.str (z ++ Str.ofString "z"), .str (cutS z none (some (-1))), .str (Txt.upper z), .str (z ++ Str.ofString " "), .list [.str z], .tuple [.str z]] := by
          refine Bag.mk' ?_ ?_ b2.kept b2.st b2.mask nL1
          · refine .cons (.str _) (.cons (.str _) (.cons (.str _) (.cons (.str _) (.cons ?_ (.cons ?_ .nil)))))
            · exact dp_up n3 (dp_lst_new b0.mask m3 (.cons (.str z) .nil))
            · exact dp_tup_new b1.mask n3 (.cons (.str z) .nil)
          · intro e he
            simp only [List.mem_cons, List.not_mem_nil, or_false] at he
            rcases he with rfl | rfl | rfl | rfl | rfl | rfl
            · exact gS _ (app _ (by decide +kernel)) (by rw [str_len_app, l1]; exact Nat.le_refl _)
            · exact gS _ cut.1 (by have := cut.2; omega)
            · exact gS _ up.1 (by rw [up.2]; omega)
            · exact gS _ (app _ (by decide +kernel)) (by rw [str_len_app, l2]; exact Nat.le_refl _)
            · exact gone.2
            · exact gone.1
        have bag : ∀ {H2 L2 us es}, Bag K M s c T (B + 2000000000) (wt (.str z) + 300) H H2 L2 us es → Bag K M s c T (B + 2000000000) (wt (.str z) + 300) H H2 p (zs.map V.str) (zs.map PyData.str) := fun {H2 L2 us es} b => by
          refine ⟨(N.kept (b.kept.mono hM.sc)).at', dp_strs zs, fun e he => ?_, b.kept, b.st, N.out, b.mask⟩
          obtain ⟨y, hy, rfl⟩ := List.mem_map.mp he
          exact name_asc (N.ok y hy) (by omega)
        have zl2 := N.len
        have lz : (zs.map V.str).length = zs.length := List.length_map ..
        have lz2 : (zs.map PyData.str).length = zs.length := List.length_map ..
        refine ⟨L0, L1, _, _, rfl, rfl, b3.at', c3.at', small _ (by show 15 + 6 ≤ 1000; decide), fun L2 nL2 => ?_⟩
        have b4 := b3.cat c3 nL2
        refine ⟨.ref p, rfl, L2, p, _, _, rfl, rfl, b4.at', (bag b4).at', small _ (by rw [lz]; show 21 + zs.length ≤ 1000; omega), fun L3 nL3 => ?_⟩
        have b5 := b4.cat (bag b4) nL3
        refine ⟨.ref p, rfl, L3, p, _, _, rfl, rfl, b5.at', (bag b5).at', small _ (by rw [List.length_append, lz]; show 21 + zs.length + zs.length ≤ 1000; omega), fun L4 nL4 => ?_⟩
        have b6 := b5.cat (bag b5) nL4
        -- some + ['bar', ..]
        refine ⟨.ref L4, rfl, (by show 7 ≤ sizeLine; decide), fun L5 nL5 => ?_⟩
        have b7 := b6.up (o := .lst [.str "bar", .str "carry", .str "empty", .str "fallback", .str "look", .str "once", .str "end"]) nL5
        have c7 := Bag.mk' (K := K) (B := B + 2000000000) (W := wt (.str z) + 300) (H0 := H) (vs := [.str "bar", .str "carry", .str "empty", .str "fallback", .str "look", .str "once", .str "end"]) (.cons (.str _) (.cons (.str _) (.cons (.str _) (.cons (.str _) (.cons (.str _) (.cons (.str _) (.cons (.str _) .nil))))))) (by
          intro e he
          simp only [List.mem_cons, List.not_mem_nil, or_false] at he
          rcases he with rfl | rfl | rfl | rfl | rfl | rfl | rfl <;> exact asc_of (by decide +kernel) (by omega)) b6.kept b6.st b6.mask nL5
        refine ⟨L4, L5, _, _, rfl, rfl, b7.at', c7.at', small _ (by rw [List.length_append, List.length_append, lz]; show 21 + zs.length + zs.length + 7 ≤ 1000; omega), fun L6 nL6 => ?_⟩
        have b8 := b7.cat c7 nL6
        have len8 : ((first15D ++ [PyData.str (z ++ Str.ofString "z"), .str (cutS z none (some (-1))), .str (Txt.upper z), .str (z ++ Str.ofString " "), .list [.str z], .tuple [.str z]] ++ zs.map PyData.str ++ zs.map PyData.str) ++ [PyData.str "bar", .str "carry", .str "empty", .str "fallback", .str "look", .str "once", .str "end"]).length = 28 + zs.length + zs.length := by
          rw [List.length_append, List.length_append, List.length_append, lz2]
          show 21 + zs.length + zs.length + 7 = _
          omega
        exact fin L6 _ _ _ b8 (by rw [len8]; omega) (by rw [len8]; omega)
      · exact fin L0 _ _ _ b0 (by show 0 < 15; decide) (by show 15 ≤ 1000; decide)
end
end TT

set_option Elab.async false
set_option linter.all false
set_option maxRecDepth 100000
namespace TT
open PySem PySem.Spec PyProof.Rows L2
section
variable {P : Program} {w : World} {K : PySem.W.Frag} {mg : Str → Option Value} {base : Heap}
def spBent (n : Nat) (K : PySem.W.Frag) : Sp := fun vs H Q _ => ∃ (M : List Addr) (s c p : Addr) (T B L : Nat) (v : V) (d : PyData) (zs : List Str), vs = [.ref s, v, .ref p] ∧ d.depth < n ∧ StAt H s c T ∧ Mask M H s c ∧ T + 4 * n ≤ 1000000 ∧ Dp K (msk M H) v d ∧ Nice B L d ∧ L ≤ 800 ∧ 1 ≤ B ∧ B ≤ 10 ^ 12 ∧ wt d ≤ 50000 ∧ NamesAt H M p zs ∧
  ∀ (u : V) (e : PyData) (H' : Hp), Dp K (msk M H') u e → Bt B L d e → StAt H' s c (T + 4 * n) → Kept [s, c] H H' → Q u H'
abbrev s_law_bent : Stmt := topS 29
abbrev N_law_bent : List Str := ["state", "thing", "names", "way", "pieces", "at", "ahead", "behind"]
theorem sc_law_bent : FnScope N_law_bent ["state", "thing", "names"] (defScope s_law_bent) := ⟨rfl, rfl, rfl, by decide +kernel, rfl, by decide +kernel, by decide +kernel⟩

theorem ok_bent1 {n : Nat} {f : Addr} {fd : FuncData} (F : Fun K "_law_bent" "_law_bent" s_law_bent f fd) (nb : NB mg) (D_law_take : Def P w K mg base 1 "_law_take" ["state", "many"] spTake) (D_law_other : Def P w K mg base 3 "_law_other" ["state", "thing", "names"] (spOther K))
    (D_law_bent : Def P w K mg base (3 + n) "_law_bent" ["state", "thing", "names"] (spBent n K)) : FnOk P w K mg base CX0 (3 + n + 1) f fd ["state", "thing", "names"] (spBent (n + 1) K) := by
  refine F.ok sc_law_bent (fun vs H Q E h => ?_) (fun cdv A outer sh H vs Q E hr h => ?_)
  · obtain ⟨M, s, c, p, T, B, L, v, d, zs, rfl, _⟩ := h
    rfl
  · obtain ⟨M, s, c, p, T, B, L, v, d, zs, rfl, hdep, S, hM, hT, hd, hn, hL, hB0, hB, hw, N, q⟩ := h
    have nd := sc_law_bent.nd
    have hu := hu_of hr
    refine ⟨_, (pss_cons (ps_set (i := 3) nd rfl (Or.inl rfl) (pe_own D_law_take hr (pa_cons (pv 0) (pa_cons pe_int pa_nil)) (by omega)))
      (pss_cons (ps_if (PW.pt (pw_or (pt_not (pt_val (pe_callB call_isiT (by rfl) nb.b_isinstance (by decide +kernel) (pa_cons (pv 1) (pa_cons (pe_tup (pa_cons (pe_bltn (v := .ty "tuple") (by rfl) nb.b_tuple (by decide +kernel) rfl) (pa_cons (pe_bltn (v := .ty "list") (by rfl) nb.b_list (by decide +kernel) rfl) pa_nil))) pa_nil))))) (pw_or (pt_cmpR op_eq (pe_callB call_len (by rfl) nb.b_len (by decide +kernel) (pa_cons (pv 1) pa_nil)) pe_int (nomark _)) (pw_or1 (pt_cmpR op_eq (pv 3) pe_int (nomark _))))))
        (pss_one (ps_ret (pe_own D_law_other hr (pa_cons (pv 0) (pa_cons (pv 1) (pa_cons (pv 2) pa_nil))) (by omega))))
        pss_nil)
      (pss_cons (ps_par (i := 4) (j := 5) (by rfl) nd rfl rfl (by decide) rfl rfl (pa_cons (pe_callTy call_list_of (by rfl) nb.b_list (by decide +kernel) (pa_cons (pv 1) pa_nil)) (pa_cons (pe_ix ix_list (pe_lst (pa_cons (pe_op op_sub (pe_callB call_len (by rfl) nb.b_len (by decide +kernel) (pa_cons (pv 1) pa_nil)) pe_int) (pa_cons (pe_own D_law_take hr (pa_cons (pv 0) (pa_cons (pe_callB call_len (by rfl) nb.b_len (by decide +kernel) (pa_cons (pv 1) pa_nil)) pa_nil)) (by omega)) pa_nil))) (pe_own D_law_take hr (pa_cons (pv 0) (pa_cons pe_int pa_nil)) (by omega)) (fun _ _ => rfl)) pa_nil)) (by rfl))
      (pss_cons (ps_if (pt_cmpR op_eq (pv 3) pe_int (nomark _))
        (pss_one (ps_ret (pe_ifExp (pt_val (pe_callB call_isi (by rfl) nb.b_isinstance (by decide +kernel) (pa_cons (pv 1) (pa_cons (pe_bltn (v := .ty "list") (by rfl) nb.b_list (by decide +kernel) rfl) pa_nil)))) (pe_callTy call_tuple_of (by rfl) nb.b_tuple (by decide +kernel) (pa_cons (pv 4) pa_nil)) (pv 4))))
        pss_nil)
      (pss_cons (ps_par (i := 6) (j := 7) (by rfl) nd rfl rfl (by decide) rfl rfl (pa_cons (pe_slice sl_list (pv 4) po_none (po_some (pv 5))) (pa_cons (pe_slice sl_list (pv 4) (po_some (pe_op op_add (pv 5) pe_int)) po_none) pa_nil)) (by rfl))
      (pss_cons (ps_if (pt_cmpR op_eq (pv 3) pe_int (nomark _))
        (pss_one (ps_set (i := 4) nd rfl (Or.inl rfl) (pe_op op_cat (pv 6) (pv 7))))
        (pss_one (ps_if (pt_cmpR op_eq (pv 3) pe_int (nomark _))
          (pss_one (ps_set (i := 4) nd rfl (Or.inl rfl) (pe_op op_cat (pe_op op_cat (pv 6) (pe_lst (pa_cons (pe_ix ix_list (pv 4) (pv 5) (fun _ _ => rfl)) pa_nil))) (pe_slice sl_list (pv 4) (po_some (pv 5)) po_none))))
          (pss_one (ps_if (pt_cmpR op_eq (pv 3) pe_int (nomark _))
            (pss_one (ps_set (i := 4) nd rfl (Or.inl rfl) (pe_op op_cat (pe_op op_cat (pv 6) (pe_revL (pe_slice sl_list (pv 4) (po_some (pv 5)) (po_some (pe_op op_add (pv 5) pe_int))))) (pe_slice sl_list (pv 4) (po_some (pe_op op_add (pv 5) pe_int)) po_none))))
            (pss_one (ps_if (pt_cmpR op_eq (pv 3) pe_int (nomark _))
              (pss_one (ps_set (i := 4) nd rfl (Or.inl rfl) (pe_revL (pv 4))))
              (pss_one (ps_if (pt_cmpR op_eq (pv 3) pe_int (nomark _))
                (pss_one (ps_set (i := 4) nd rfl (Or.inl rfl) (pe_op op_cat (pe_op op_cat (pv 6) (pe_lst (pa_cons (pe_own D_law_other hr (pa_cons (pv 0) (pa_cons pe_non (pa_cons (pv 2) pa_nil))) (by omega)) pa_nil))) (pe_slice sl_list (pv 4) (po_some (pv 5)) po_none))))
                (pss_one (ps_asg (pe_own D_law_bent hr (pa_cons (pv 0) (pa_cons (pe_ix ix_list (pv 4) (pv 5) (fun _ _ => rfl)) (pa_cons (pv 2) pa_nil))) (by omega)) (pg_sub (pv 4) (pv 5) set_list))))))))))))
      (pss_one (ps_ret (pe_ifExp (pt_val (pe_callB call_isi (by rfl) nb.b_isinstance (by decide +kernel) (pa_cons (pv 1) (pa_cons (pe_bltn (v := .ty "list") (by rfl) nb.b_list (by decide +kernel) rfl) pa_nil)))) (pv 4) (pe_callTy call_tuple_of (by rfl) nb.b_tuple (by decide +kernel) (pa_cons (pv 4) pa_nil))))))))))), ?_⟩
    have small : ∀ n : Nat, n ≤ 1000 → n ≤ sizeLine := fun n h => Nat.le_of_lt (small1000 h)
    -- way
    refine ⟨.ref s, rfl, s, c, T, _, rfl, S, by omega, by decide, by decide, fun way H1 w0 w1 S1 K1 => ?_⟩
    have M1 := hM.kept K1 S1
    have hd1 := dp_same (hM.same K1) hd
    have N1 := N.kept (K1.mono hM.sc)
    have other : ∀ (H2 : Hp), Same H1 H2 → ∀ st', (st' = [some (.ref s), some v, some (.ref p), some (.int way), none, none, none, none]) → 
        tRet (tCall (spOther K) [] E0 (tCons (tVar 0) (tCons (tVar 1) (tCons (tVar 2) tNil)))) { nx := fun x H' => Q V.non H', rt := Q } st' H2 := by
      rintro H2 sm _ rfl
      have M2 : Mask M H2 s c := M1.kept (Kept.of_same sm) (S1.same sm)
      refine ⟨.ref s, rfl, v, rfl, .ref p, rfl, M, s, c, p, T + 1, B, L, v, d, zs, rfl, S1.same sm, M2, by omega, dp_same (msk_same (Kept.of_same sm)) hd1, hn, hB0, hB, hw, N1.kept (Kept.of_same sm), fun u e H3 h3 g3 S3 K3 => ?_⟩
      exact q u e H3 h3 (bt_good g3) (S3.mono (by omega)) (K1.trans ((Kept.of_same sm).trans K3))
    refine ⟨v, rfl, (by show 2 ≤ sizeLine; decide), fun tt ntt => ?_⟩
    have st := same_upd (o := .tup [.ty "tuple", .ty "list"]) ntt
    refine ⟨v, tt, _, _, [.type "tuple", .type "list"], _, rfl, upd_same, .cons (.ty _) (.cons (.ty _) .nil), dp_ty (dp_same st (dp_same (msk_sub _ _) hd1)), kit_tl d, _, rfl, ?_⟩
    cases hC : (isTB d || isLB d) with
    | false => exact iteT (iteT (other _ st _ rfl))
    | true =>
      refine iteF ?_
      obtain ⟨pd, xs, ds, rfl, hA, hX⟩ := cont_of hd1 hC
      have l := dpAll_len hA
      -- facts of the container
      have fc : ds.length ≤ L ∧ NiceAll B L ds ∧ wt d = 6 + wtAll ds ∧ d.depth = PyData.depthAll ds + 1 := by
        rcases hX with ⟨rfl, _⟩ | ⟨rfl, _⟩ <;> exact ⟨hn.1, hn.2, rfl, rfl⟩
      obtain ⟨fl, fn, fw, fdp⟩ := fc
      have lx : xs.length ≤ 800 := by omega
      have lenV : ∀ H2, Same H1 H2 → LenV K (.ref pd) H2 xs.length := fun H2 sm => by
        rcases hX with ⟨_, hS⟩ | ⟨_, hS⟩
        · exact .inr ⟨xs, sameT (msk_sub _ _ |>.trans sm) hS, rfl⟩
        · exact .inl ⟨xs, ((msk_sub _ _).trans sm).seq hS, rfl⟩
      refine ⟨.ref pd, rfl, .ref pd, xs.length, rfl, lenV _ st, rfl, _, rfl, ?_⟩
      cases h0 : decide (V.int (xs.length : Int) = V.int 0) with
      | true => exact iteT (iteT (other _ st _ rfl))
      | false =>
        refine iteF ?_
        have x0 : 0 < xs.length := by
          have := of_decide_eq_false h0
          refine Nat.pos_of_ne_zero fun z => this (congrArg V.int (by rw [z]; rfl))
        refine ⟨.int way, rfl, rfl, _, rfl, ?_⟩
        cases h6 : decide (V.int way = V.int 6) with
        | true => exact iteT (other _ st _ rfl)
        | false =>
          refine iteF ?_
          -- pieces, at
          have seqV : ∀ H2, Same H1 H2 → (SqL K H2 pd xs ∨ SqT K H2 pd xs) := fun H2 sm => by
            rcases hX with ⟨_, hS⟩ | ⟨_, hS⟩
            · exact .inr (sameT ((msk_sub _ _).trans sm) hS)
            · exact .inl (((msk_sub _ _).trans sm).seq hS)
          refine ⟨.ref pd, rfl, pd, xs, rfl, seqV _ st, fun P0 nP => ?_⟩
          have s2 : Same H1 (upd (upd H1 tt (.tup [.ty "tuple", .ty "list"])) P0 (.lst xs)) := st.trans (same_upd nP)
          have eP : (upd (upd H1 tt (.tup [.ty "tuple", .ty "list"])) P0 (.lst xs)) P0 = some (.lst xs) := upd_same
          have nP1 : H1 P0 = none := Same.free st nP
          have S2 := S1.same s2
          have M2 : Mask M (upd (upd H1 tt (.tup [.ty "tuple", .ty "list"])) P0 (.lst xs)) s c := M1.kept (Kept.of_same s2) S2
          have outP : P0 ∉ M := M1.new nP1
          refine ⟨.ref pd, rfl, .ref pd, xs.length, rfl, lenV _ s2, _, _, rfl, rfl, .ref s, rfl, .ref pd, rfl, .ref pd, xs.length, rfl, lenV _ s2, s, c, T + 1, _, rfl, S2, by omega, by omega, by omega, fun a2 H3 a0 a1 S3 K3 => ?_⟩
          refine ⟨(by show 2 ≤ sizeLine; decide), fun Q0 nQ => ?_⟩
          refine ⟨.ref s, rfl, s, c, _, _, rfl, S3.upd_new nQ, by omega, by decide, by decide, fun e2 H4 e0 e1 S4 K4 => ?_⟩
          have outQ : Q0 ∉ [s, c] := by simp [(S3.nes nQ).symm, (S3.nec nQ).symm]
          have eQ : H4 Q0 = some (.lst [.int ((xs.length : Int) - 1), .int a2]) := K4.at upd_same outQ
          have outP2 : P0 ∉ [s, c] := fun z => outP (hM.sc _ z)
          have eP3 : H3 P0 = some (.lst xs) := K3.at eP outP2
          have eP4 : H4 P0 = some (.lst xs) := K4.at (show (upd H3 Q0 _) P0 = some _ by rw [upd_ne (ne_of_none eP3 nQ)]; exact eP3) outP2
          have K14 : Kept [s, c] H1 H4 := (Kept.of_same s2).trans (K3.trans ((Kept.upd_new nQ).trans K4))
          obtain ⟨a, ha, hat⟩ : ∃ a : Nat, a < xs.length ∧ atI [V.int ((xs.length : Int) - 1), V.int a2] e2 = some (.int (a : Int)) := by
            have : e2 = 0 ∨ e2 = 1 := by omega
            rcases this with rfl | rfl
            · exact ⟨xs.length - 1, by omega, by show some (V.int ((xs.length : Int) - 1)) = _; rw [show ((xs.length : Int) - 1) = ((xs.length - 1 : Nat) : Int) by omega]⟩
            · exact ⟨a2.toNat, by omega, by show some (V.int a2) = _; rw [show a2 = ((a2.toNat : Nat) : Int) by omega]; rfl⟩
          refine ⟨Q0, _, _, _, rfl, rfl, .inl (.inl eQ), hat, _, _, rfl, ?_⟩
          have M4 := M1.kept K14 S4
          have N4 := N1.kept (K14.mono hM.sc)
          -- the items, out of reach of the copy
          have dpP : DpAll K (msk (P0 :: M) H4) xs ds := by
            have h1 : DpAll K (msk (P0 :: M) H1) xs ds := dpAll_same (msk_new nP1) (by
              have e := hd1
              rcases hX with ⟨rfl, _⟩ | ⟨rfl, _⟩
              · exact dpAll_same (Same.refl _) hA
              · exact dpAll_same (Same.refl _) hA)
            exact dpAll_same (msk_same (K14.mono fun z hz => List.mem_cons_of_mem _ (hM.sc z hz))) h1
          have dpM : DpAll K (msk M H4) xs ds := dpAll_same (msk_less fun z hz => List.mem_cons_of_mem _ hz) dpP
          clear hat eQ e0 e1 a0 a1
          -- the end: the things that are made of the items
          have mk : ∀ (B' : Bool) (u : V) (es : List PyData) (H5 : Hp), Dp K (msk M H5) u (if B' = true then .list es else .tuple es) → Pc (B + 2000000000) L ds es → StAt H5 s c (T + 4 * (n + 1)) → Kept [s, c] H1 H5 → Q u H5 := by
            intro B' u es H5 h1 pc S5 K5
            refine q u _ H5 h1 ?_ S5 (K1.trans K5)
            have nA : NiceAll (B + 2000000000) (L + 1) es := niceAll_iff.mpr fun e he => (pc.mem e he).1
            have dA : PyData.depthAll es ≤ PyData.depthAll ds + 1 := depthAll_le fun e he => (pc.mem e he).2
            have wA := pc.wt
            cases B' with
            | true => exact ⟨⟨pc.len, nA⟩, by show 6 + wtAll es ≤ _; omega, by show PyData.depthAll es + 1 ≤ _; omega⟩
            | false => exact ⟨⟨pc.len, nA⟩, by show 6 + wtAll es ≤ _; omega, by show PyData.depthAll es + 1 ≤ _; omega⟩
          have hd4 : ∀ H5, Kept [s, c] H1 H5 → Dp K H5 (.ref pd) d := fun H5 K5 => dp_same (msk_sub M H5) (dp_same (M1.same K5) hd1)
          have fin : ∀ (Z : Addr) (H5 : Hp) (ys : List V) (es : List PyData) (y6 y7 : Option V), H5 Z = some (.lst ys) → DpAll K (msk M H5) ys es → Z ∉ M → Pc (B + 2000000000) L ds es → StAt H5 s c (T + 4 * (n + 1)) → Mask M H5 s c → Kept [s, c] H1 H5 →
              tRet (tIf (tB (tCB (rIsi K) (tCons (tVar 1) (tCons (tC (.ty "list")) tNil)))) (tVar 4) (tCB (fun xs H Q => ∃ p ys, xs = [.ref p] ∧ ((SqL K H p ys ∧ ∀ l, H l = none → Q (.ref l) (upd H l (.tup ys))) ∨ (SqT K H p ys ∧ Q (.ref p) H))) (tCons (tVar 4) tNil)))
                { nx := fun x H' => Q V.non H', rt := Q } [some (.ref s), some (.ref pd), some (.ref p), some (.int way), some (.ref Z), some (.int a), y6, y7] H5 := by
            intro Z H5 ys es y6 y7 eZ dZ oZ pc S5 M5 K5
            refine ⟨.ref pd, rfl, .ref pd, .ty "list", _, _, _, rfl, .ty "list", dp_ty (hd4 H5 K5), kit_l d, _, rfl, ?_⟩
            cases hl : isLB d with
            | true =>
              refine iteT ⟨.ref Z, rfl, ?_⟩
              exact mk true _ es H5 (.lst (.inl (.inl (msk_at eZ oZ))) dZ) pc S5 K5
            | false =>
              refine iteF ⟨.ref Z, rfl, Z, ys, rfl, .inl ⟨.inl (.inl eZ), fun t nt => ?_⟩⟩
              exact mk false _ es _ (dp_tup_new M5 nt dZ) pc (S5.upd_new nt) (K5.trans (Kept.upd_new nt))
          have S4' : StAt H4 s c (T + 4 * (n + 1)) := S4.mono (by omega)
          have pcs : Pc (B + 2000000000) L ds ds := ⟨by omega, pc_mem fn, by omega⟩
          -- if way == 0
          refine ⟨.int way, rfl, rfl, _, rfl, ite2 (fun h0' => ?_) (fun _ => ?_)⟩
          · refine ⟨.ref pd, rfl, .ref pd, .ty "list", _, _, _, rfl, .ty "list", dp_ty (hd4 H4 K14), kit_l d, _, rfl, ?_⟩
            cases hl : isLB d with
            | true =>
              refine iteT ⟨.ref P0, rfl, P0, xs, rfl, .inl ⟨.inl (.inl eP4), fun t nt => ?_⟩⟩
              exact mk false _ ds _ (dp_tup_new M4 nt dpM) pcs (S4'.upd_new nt) (K14.trans (Kept.upd_new nt))
            | false =>
              refine iteF ⟨.ref P0, rfl, ?_⟩
              exact mk true _ ds H4 (.lst (.inl (.inl (msk_at eP4 outP))) dpM) pcs S4' K14
          -- ahead, behind
          refine ⟨.ref P0, rfl, .int a, rfl, _, rfl, P0, xs, rfl, .inl (.inl eP4), fun A0 nA => ?_⟩
          have nPA : P0 ≠ A0 := ne_of_none eP4 nA
          refine ⟨.ref P0, rfl, .int a, rfl, _, _, rfl, rfl, _, rfl, P0, xs, rfl, .inl (.inl (by rw [upd_ne nPA]; exact eP4)), fun B0 nB => ?_⟩
          have nAB : A0 ≠ B0 := ne_of_none upd_same nB
          have nPB : P0 ≠ B0 := ne_of_none (show (upd H4 A0 _) P0 = some _ by rw [upd_ne nPA]; exact eP4) nB
          have c2 : cutV xs (some ((a : Int) + 1)) none = xs.drop (a + 1) := cutV_hi xs (a + 1)
          refine ⟨_, _, rfl, ?_⟩
          have hA5 : (upd (upd H4 A0 (.lst (cutV xs none (some (a : Int))))) B0 (.lst (cutV xs (some ((a : Int) + 1)) none))) A0 = some (.lst (xs.take a)) := by rw [upd_ne nAB, upd_same, cutV_lo]
          have hB5 : (upd (upd H4 A0 (.lst (cutV xs none (some (a : Int))))) B0 (.lst (cutV xs (some ((a : Int) + 1)) none))) B0 = some (.lst (xs.drop (a + 1))) := by rw [upd_same, c2]
          have hP5 : (upd (upd H4 A0 (.lst (cutV xs none (some (a : Int))))) B0 (.lst (cutV xs (some ((a : Int) + 1)) none))) P0 = some (.lst xs) := by rw [upd_ne nPB, upd_ne nPA]; exact eP4
          have S5 := (S4.upd_new (o := .lst (cutV xs none (some (a : Int)))) nA).upd_new (o := .lst (cutV xs (some ((a : Int) + 1)) none)) nB
          have K45 : ∀ M', Kept M' H4 (upd (upd H4 A0 (.lst (cutV xs none (some (a : Int))))) B0 (.lst (cutV xs (some ((a : Int) + 1)) none))) := fun M' => (Kept.upd_new nA).trans (Kept.upd_new nB)
          have M5 : Mask M (upd (upd H4 A0 (.lst (cutV xs none (some (a : Int))))) B0 (.lst (cutV xs (some ((a : Int) + 1)) none))) s c := M4.up.up
          have D5 := dpAll_same (msk_same (K45 M)) dpM
          have D5P := dpAll_same (msk_same (K45 (P0 :: M))) dpP
          have N5 := N4.kept (K45 M)
          have K15 := K14.trans (K45 [s, c])
          show tSeq _ _ _ _ (upd (upd H4 A0 (.lst (cutV xs none (some (a : Int))))) B0 (.lst (cutV xs (some ((a : Int) + 1)) none)))
          generalize upd (upd H4 A0 (.lst (cutV xs none (some (a : Int))))) B0 (.lst (cutV xs (some ((a : Int) + 1)) none)) = H5 at hA5 hB5 hP5 S5 M5 D5 D5P N5 K15
          clear K45
          have lT : (xs.take a).length ≤ 800 := by rw [List.length_take]; omega
          have lD : ∀ k, (xs.drop k).length ≤ 800 := fun k => by rw [List.length_drop]; omega
          have S5' : StAt H5 s c (T + 4 * (n + 1)) := S5.mono (by omega)
          have lds : ds.length ≤ 800 := by omega
          have had : a < ds.length := by omega
          obtain ⟨x, hx⟩ : ∃ x, xs[a]? = some x := ⟨_, List.getElem?_eq_getElem ha⟩
          obtain ⟨dx, hdx, hDx⟩ := dpAll_get a D5 hx
          obtain ⟨_, hdx', hDxP⟩ := dpAll_get a D5P hx
          rw [hdx] at hdx'
          cases hdx'
          have mdx : dx ∈ ds := List.mem_of_getElem? hdx
          have wdx := wt_mem mdx
          have cut := wtAll_cut ds a
          have cut1 := wtAll_cut ds (a + 1)
          have cut2 := wtAll_cut ds (a + 2)
          have one' : wtAll (ds.take (a + 1)) = wtAll (ds.take a) + (wt dx + 3) := by
            rw [List.take_add_one, hdx, wtAll_app]; rfl
          have pm := pc_mem fn
          have inT : ∀ k, ∀ e ∈ ds.take k, Nice (B + 2000000000) (L + 1) e ∧ e.depth ≤ PyData.depthAll ds + 1 := fun k e he => pm e (List.mem_of_mem_take he)
          have inD : ∀ k, ∀ e ∈ ds.drop k, Nice (B + 2000000000) (L + 1) e ∧ e.depth ≤ PyData.depthAll ds + 1 := fun k e he => pm e (List.mem_of_mem_drop he)
          have two : ∀ {es fs : List PyData}, (∀ e ∈ es, Nice (B + 2000000000) (L + 1) e ∧ e.depth ≤ PyData.depthAll ds + 1) → (∀ e ∈ fs, Nice (B + 2000000000) (L + 1) e ∧ e.depth ≤ PyData.depthAll ds + 1) → ∀ e ∈ es ++ fs, Nice (B + 2000000000) (L + 1) e ∧ e.depth ≤ PyData.depthAll ds + 1 :=
            fun h1 h2 e he => (List.mem_append.mp he).elim (h1 e) (h2 e)
          refine ⟨.int way, rfl, rfl, _, rfl, ite2 (fun _ => ?_) (fun _ => ?_)⟩
          · -- ahead + behind
            refine ⟨.ref A0, rfl, .ref B0, rfl, A0, B0, _, _, rfl, rfl, hA5, hB5, small _ (by have := lD (a + 1); rw [List.length_take] at lT; rw [List.length_take, List.length_drop]; omega), fun Z nZ => ?_⟩
            refine fin Z _ _ (ds.take a ++ ds.drop (a + 1)) _ _ upd_same (dpAll_same (msk_same (Kept.upd_new nZ)) (dpAll_app (dpAll_take a D5) (dpAll_drop (a + 1) D5))) (M5.new nZ) ⟨?_, two (inT a) (inD (a + 1)), ?_⟩ (S5'.upd_new nZ) M5.up (K15.trans (Kept.upd_new nZ))
            · rw [List.length_append, List.length_take, List.length_drop]; omega
            · rw [wtAll_app]; omega
          refine ⟨.int way, rfl, rfl, _, rfl, ite2 (fun _ => ?_) (fun _ => ?_)⟩
          · -- ahead + [pieces[at]] + pieces[at:]
            refine ⟨.ref A0, rfl, .ref P0, rfl, .int a, rfl, P0, xs, _, x, rfl, rfl, .inl (.inl hP5), atI_nat hx, (by show 1 ≤ sizeLine; decide), fun O0 nO => ?_⟩
            refine ⟨A0, O0, _, _, rfl, rfl, (by rw [upd_ne (ne_of_none hA5 nO)]; exact hA5), upd_same, small _ (by rw [List.length_take]; show min a xs.length + 1 ≤ 1000; omega), fun R0 nR => ?_⟩
            have k1 : ∀ M', Kept M' H5 (upd (upd H5 O0 (.lst [x])) R0 (.lst (xs.take a ++ [x]))) := fun M' => (Kept.upd_new nO).trans (Kept.upd_new nR)
            refine ⟨.ref P0, rfl, .int a, rfl, _, rfl, P0, xs, rfl, .inl (.inl ((k1 []).at hP5 List.not_mem_nil)), fun W0 nW => ?_⟩
            have eW : ∀ (h : (upd (upd H5 O0 (.lst [x])) R0 (.lst (xs.take a ++ [x]))) W0 = none), R0 ≠ W0 := fun h => ne_of_none upd_same h
            refine ⟨R0, W0, xs.take a ++ [x], xs.drop a, rfl, rfl, (by rw [upd_ne (eW nW)]; exact upd_same), (by rw [upd_same, cutV_hi]), small _ (by rw [List.length_append, List.length_take, List.length_drop]; show min a xs.length + 1 + (xs.length - a) ≤ 1000; omega), fun Z nZ => ?_⟩
            have k2 : ∀ M', Kept M' H5 (upd (upd (upd (upd H5 O0 (.lst [x])) R0 (.lst (xs.take a ++ [x]))) W0 (.lst (cutV xs (some (a : Int)) none))) Z (.lst ((xs.take a ++ [x]) ++ xs.drop a))) := fun M' => (k1 M').trans ((Kept.upd_new nW).trans (Kept.upd_new nZ))
            refine fin Z _ _ ((ds.take a ++ [dx]) ++ ds.drop a) _ _ upd_same (dpAll_same (msk_same (k2 M)) (dpAll_app (dpAll_snoc (dpAll_take a D5) hDx) (dpAll_drop a D5))) ((M5.up.up.up (o := .lst _)).new nZ) ⟨?_, two (two (inT a) (fun e he => by rw [List.mem_singleton.mp he]; exact pm dx mdx)) (inD a), ?_⟩ (((S5'.upd_new nO).upd_new nR).upd_new nW |>.upd_new nZ) M5.up.up.up.up (K15.trans (k2 _))
            · rw [List.length_append, List.length_append, List.length_take, List.length_drop]; show min a ds.length + 1 + (ds.length - a) ≤ L + 1; omega
            · rw [wtAll_app, wtAll_app]; show wtAll (ds.take a) + (wt dx + 3 + 0) + wtAll (ds.drop a) ≤ _; omega
          refine ⟨.int way, rfl, rfl, _, rfl, ite2 (fun _ => ?_) (fun _ => ?_)⟩
          · -- ahead + pieces[at:at + 2][::-1] + pieces[at + 2:]
            refine ⟨.ref A0, rfl, .ref P0, rfl, .int a, rfl, _, rfl, .int a, rfl, _, _, rfl, rfl, _, rfl, P0, xs, rfl, .inl (.inl hP5), fun O0 nO => ?_⟩
            refine ⟨O0, (xs.drop a).take 2, rfl, .inl (.inl (by rw [upd_same]; exact congrArg (fun z => some (HO.lst z)) (cutV_mid xs a 2 (by omega)))), fun V0 nV => ?_⟩
            refine ⟨A0, V0, xs.take a, _, rfl, rfl, (by rw [upd_ne (ne_of_none (show (upd H5 O0 _) A0 = some _ by rw [upd_ne (ne_of_none hA5 nO)]; exact hA5) nV), upd_ne (ne_of_none hA5 nO)]; exact hA5), upd_same, small _ (by rw [List.length_reverse, List.length_take, List.length_take, List.length_drop]; omega), fun R0 nR => ?_⟩
            refine ⟨.ref P0, rfl, .int a, rfl, _, _, rfl, rfl, _, rfl, P0, xs, rfl, .inl (.inl (((Kept.upd_new (M := []) nO).trans ((Kept.upd_new nV).trans (Kept.upd_new nR))).at hP5 List.not_mem_nil)), fun W0 nW => ?_⟩
            refine ⟨R0, W0, xs.take a ++ ((xs.drop a).take 2).reverse, xs.drop (a + 2), rfl, rfl, (by rw [upd_ne (ne_of_none upd_same nW)]; exact upd_same), (by rw [upd_same]; exact congrArg (fun z => some (HO.lst z)) (cutV_hi xs (a + 2))), small _ (by rw [List.length_append, List.length_reverse, List.length_take, List.length_take, List.length_drop, List.length_drop]; omega), fun Z nZ => ?_⟩
            have cut3 := wtAll_cut (ds.drop a) 2
            have dd2 : (ds.drop a).drop 2 = ds.drop (a + 2) := by rw [List.drop_drop]
            rw [dd2] at cut3
            refine fin Z _ _ ((ds.take a ++ ((ds.drop a).take 2).reverse) ++ ds.drop (a + 2)) _ _ upd_same
              (dpAll_same (msk_same ((Kept.upd_new nO).trans ((Kept.upd_new nV).trans ((Kept.upd_new nR).trans ((Kept.upd_new nW).trans (Kept.upd_new nZ)))))) (dpAll_app (dpAll_app (dpAll_take a D5) (dpAll_rev (dpAll_take 2 (dpAll_drop a D5)))) (dpAll_drop (a + 2) D5)))
              (M5.up.up.up.up.new nZ) ⟨?_, two (two (inT a) (fun e he => inD a e (List.mem_of_mem_take (List.mem_reverse.mp he)))) (inD (a + 2)), ?_⟩ ((((S5'.upd_new nO).upd_new nV).upd_new nR).upd_new nW |>.upd_new nZ) M5.up.up.up.up.up
              (K15.trans ((Kept.upd_new nO).trans ((Kept.upd_new nV).trans ((Kept.upd_new nR).trans ((Kept.upd_new nW).trans (Kept.upd_new nZ))))))
            · rw [List.length_append, List.length_append, List.length_reverse, List.length_take, List.length_take, List.length_drop, List.length_drop]; omega
            · rw [wtAll_app, wtAll_app, wtAll_rev]; omega
          refine ⟨.int way, rfl, rfl, _, rfl, ite2 (fun _ => ?_) (fun _ => ?_)⟩
          · -- pieces[::-1]
            refine ⟨.ref P0, rfl, P0, xs, rfl, .inl (.inl hP5), fun Z nZ => ?_⟩
            refine fin Z _ _ ds.reverse _ _ upd_same (dpAll_same (msk_same (Kept.upd_new nZ)) (dpAll_rev D5)) (M5.new nZ) ⟨?_, fun e he => pm e (List.mem_reverse.mp he), ?_⟩ (S5'.upd_new nZ) M5.up (K15.trans (Kept.upd_new nZ))
            · rw [List.length_reverse]; omega
            · rw [wtAll_rev]; omega
          refine ⟨.int way, rfl, rfl, _, rfl, ite2 (fun _ => ?_) (fun _ => ?_)⟩
          · -- ahead + [other] + pieces[at:]
            refine ⟨.ref A0, rfl, .ref s, rfl, .ref p, rfl, M, s, c, p, T + 3, B, L, .non, .none, zs, rfl, S5, M5, by omega, .non, trivial, hB0, hB, (by show 4 ≤ 50000; decide), N5, fun u e H6 h6' g6 S6 K6 => ?_⟩
            have M6 := M5.kept K6 S6
            have hA6 : H6 A0 = some (.lst (xs.take a)) := K6.at hA5 (fun z => (M4.new nA) (hM.sc _ z))
            have hP6 : H6 P0 = some (.lst xs) := K6.at hP5 outP2
            have D6 := dpAll_same (M5.same K6) D5
            refine ⟨(by show 1 ≤ sizeLine; decide), fun O0 nO => ?_⟩
            refine ⟨A0, O0, _, _, rfl, rfl, (by rw [upd_ne (ne_of_none hA6 nO)]; exact hA6), upd_same, small _ (by rw [List.length_take]; show min a xs.length + 1 ≤ 1000; omega), fun R0 nR => ?_⟩
            have k1 : ∀ M', Kept M' H6 (upd (upd H6 O0 (.lst [u])) R0 (.lst (xs.take a ++ [u]))) := fun M' => (Kept.upd_new nO).trans (Kept.upd_new nR)
            refine ⟨.ref P0, rfl, .int a, rfl, _, rfl, P0, xs, rfl, .inl (.inl ((k1 []).at hP6 List.not_mem_nil)), fun W0 nW => ?_⟩
            refine ⟨R0, W0, xs.take a ++ [u], xs.drop a, rfl, rfl, (by rw [upd_ne (ne_of_none upd_same nW)]; exact upd_same), (by rw [upd_same, cutV_hi]), small _ (by rw [List.length_append, List.length_take, List.length_drop]; show min a xs.length + 1 + (xs.length - a) ≤ 1000; omega), fun Z nZ => ?_⟩
            have k2 : ∀ M', Kept M' H6 (upd (upd (upd (upd H6 O0 (.lst [u])) R0 (.lst (xs.take a ++ [u]))) W0 (.lst (cutV xs (some (a : Int)) none))) Z (.lst ((xs.take a ++ [u]) ++ xs.drop a))) := fun M' => (k1 M').trans ((Kept.upd_new nW).trans (Kept.upd_new nZ))
            have S6' : StAt H6 s c (T + 4 * (n + 1)) := S6.mono (by omega)
            have w6 : wt e ≤ 304 := g6.wt
            refine fin Z _ _ ((ds.take a ++ [e]) ++ ds.drop a) _ _ upd_same (dpAll_same (msk_same (k2 M)) (dpAll_app (dpAll_snoc (dpAll_take a D6) h6') (dpAll_drop a D6))) (M6.up.up.up.new nZ) ⟨?_, two (two (inT a) (fun e' he => by rw [List.mem_singleton.mp he]; exact ⟨g6.nice.mono (Nat.le_refl _) (by omega), Nat.le_trans g6.dep (by omega)⟩)) (inD a), ?_⟩ (((S6'.upd_new nO).upd_new nR).upd_new nW |>.upd_new nZ) M6.up.up.up.up ((K15.trans K6).trans (k2 _))
            · rw [List.length_append, List.length_append, List.length_take, List.length_drop]; show min a ds.length + 1 + (ds.length - a) ≤ L + 1; omega
            · rw [wtAll_app, wtAll_app]; show wtAll (ds.take a) + (wt e + 3 + 0) + wtAll (ds.drop a) ≤ _; omega
          · -- pieces[at] = bent(..)
            have ndx : Nice B L dx := niceAll_iff.mp fn dx mdx
            have ddx := depth_mem mdx
            have MP : Mask (P0 :: M) H5 s c := ⟨fun z hz => List.mem_cons_of_mem _ (hM.sc z hz), fun z hz => by
              rcases List.mem_cons.mp hz with rfl | hz
              · rw [hP5]; exact fun z => nomatch z
              · exact M5.tr z hz⟩
            have NP : NamesAt H5 (P0 :: M) p zs := ⟨fun z => by
              rcases List.mem_cons.mp z with z | z
              · have := N1.at'
                rw [z, nP1] at this
                cases this
              · exact N5.out z, N5.at', N5.ok, N5.len⟩
            refine ⟨.ref s, rfl, .ref P0, rfl, .int a, rfl, P0, xs, _, x, rfl, rfl, .inl (.inl hP5), atI_nat hx, .ref p, rfl, P0 :: M, s, c, p, T + 3, B, L, x, dx, zs, rfl, by omega, S5, MP, by omega, hDxP, ndx, hL, hB0, hB, by omega, NP, fun u e H6 h6' b6 S6 K6 => ?_⟩
            have hP6 : H6 P0 = some (.lst xs) := K6.at hP5 outP2
            have D6P := dpAll_same (MP.same K6) D5P
            have M6 := M5.kept K6 S6
            refine ⟨.ref P0, rfl, .int a, rfl, P0, xs, _, a, rfl, rfl, hP6, ixN_nat ha, ?_⟩
            have upM : ∀ {o : HO}, Same (msk (P0 :: M) H6) (msk M (upd H6 P0 o)) := fun {o} b o' e' => by
              have hb : b ∉ P0 :: M := fun z => by
                unfold msk at e'
                rw [if_pos z] at e'
                cases e'
              have e2 := msk_sub _ _ b o' e'
              refine msk_at (by rw [upd_ne (fun z => hb (by rw [z]; exact List.mem_cons_self ..))]; exact e2) fun z => hb (List.mem_cons_of_mem _ z)
            have S6' : StAt H6 s c (T + 4 * (n + 1)) := S6.mono (by omega)
            have nsP : s ≠ P0 := fun z => outP2 (by rw [← z]; exact List.mem_cons_self ..)
            have ncP : c ≠ P0 := fun z => outP2 (by rw [← z]; exact List.mem_cons_of_mem _ (List.mem_cons_self ..))
            have sets : wtAll (ds.set a e) = wtAll (ds.take a) + (wt e + 3) + wtAll (ds.drop (a + 1)) := by
              rw [List.set_eq_take_append_cons_drop, if_pos had, wtAll_app]
              show wtAll (ds.take a) + (wt e + 3 + wtAll (ds.drop (a + 1))) = _
              omega
            have w6 := b6.wt
            refine fin P0 _ _ (ds.set a e) _ _ upd_same (dpAll_same upM (dpAll_set h6' a D6P)) outP ⟨by rw [List.length_set]; omega, fun e' he => ?_, by rw [sets]; omega⟩ (S6'.upd nsP ncP) M6.up ?_
            · rcases List.mem_or_eq_of_mem_set he with he | rfl
              · exact pm e' he
              · exact ⟨b6.nice, by have := b6.dep; omega⟩
            · intro b o e' hb
              by_cases hbP : b = P0
              · rw [hbP, nP1] at e'; cases e'
              · rw [upd_ne hbP]
                exact (K15.trans K6) b o e' hb
theorem ok_bent {f : Addr} {fd : FuncData} (F : Fun K "_law_bent" "_law_bent" s_law_bent f fd) (nb : NB mg) (D_law_take : Def P w K mg base 1 "_law_take" ["state", "many"] spTake) (D_law_other : Def P w K mg base 3 "_law_other" ["state", "thing", "names"] (spOther K))
    (hm : mg "_law_bent" = some (.ref f)) (hb : Binds K fd ["state", "thing", "names"] []) : ∀ n : Nat, FnOk P w K mg base CX0 (3 + n) f fd ["state", "thing", "names"] (spBent n K)
  | 0 => ⟨fun vs H Q E h => by obtain ⟨M, s, c, p, T, B, L, v, d, zs, rfl, _⟩ := h; rfl, fun _ _ _ _ _ _ _ _ _ _ _ _ _ h => by
      obtain ⟨M, s, c, p, T, B, L, v, d, zs, rfl, hd, _⟩ := h
      exact absurd hd (Nat.not_lt_zero _)⟩
  | n + 1 => ok_bent1 F nb D_law_take D_law_other (.mk hm F.kp hb (ok_bent F nb D_law_take D_law_other hm hb n))
end
end TT

set_option Elab.async false
set_option linter.all false
set_option maxRecDepth 100000
namespace TT
open PySem PySem.Spec PyProof.Rows L2
theorem atI_end {α : Type} {xs : List α} {v : α} (h : xs[xs.length - 1]? = some v) : atI xs (-1) = some v := by
  cases xs with
  | nil => cases h
  | cons a r =>
    have e : (a :: r).getLast (List.cons_ne_nil _ _) = v := by
      rw [← List.getLast?_eq_getElem?, List.getLast?_eq_some_getLast (List.cons_ne_nil a r)] at h
      exact Option.some.inj h
    have e2 : a :: r = (a :: r).dropLast ++ [v] := by
      rw [← e, List.dropLast_concat_getLast]
    rw [e2]
    exact atI_last _ _

theorem deedB_ok {ts : List Tab} {dd : Deed} (h : DeedOk ts dd) : deedB ts (deedD dd) = true := by
  have tt : ∀ t, t ∈ tns ts → inS (tns ts) (.str t) = true := fun t h => decide_eq_true h
  cases dd with
  | put t r =>
    obtain ⟨h1, h2⟩ := h
    show (decide ((3 : Int) = lenI "put") && (inS (tns ts) (.str t) && rowB (cns ts t).length (rowD r))) = true
    rw [tt t h1, rowB_ok h2]; rfl
  | drop t k =>
    obtain ⟨h1, h2⟩ := h
    show (decide ((3 : Int) = lenI "drop") && (inS (tns ts) (.str t) && (decide (-1000000000 ≤ k) && decide (k ≤ 1000000000)))) = true
    rw [tt t h1, decide_eq_true h2.1, decide_eq_true h2.2]; rfl
  | sweep t col o =>
    obtain ⟨h1, h2, h3⟩ := h
    show (decide ((4 : Int) = lenI "sweep") && (inS (tns ts) (.str t) && (decide (col ∈ cns ts t) && worthB (wD o)))) = true
    rw [tt t h1, decide_eq_true h2, worthB_ok h3]; rfl
  | shift t col b =>
    obtain ⟨h1, h2, h3⟩ := h
    show (decide ((4 : Int) = lenI "shift") && (inS (tns ts) (.str t) && (decide (col ∈ cns ts t) && (decide (-1000000000 ≤ b) && decide (b ≤ 1000000000))))) = true
    rw [tt t h1, decide_eq_true h2, decide_eq_true h3.1, decide_eq_true h3.2]; rfl
  | set t k col o =>
    obtain ⟨h1, h2, h3, h4, h5⟩ := h
    show (decide ((5 : Int) = lenI "set") && (inS (tns ts) (.str t) && ((decide (-1000000000 ≤ k) && decide (k ≤ 1000000000)) && (decide (col ∈ cns ts t) && (if (cns ts t).head? = some col then boundB (wD o) else worthB (wD o)))))) = true
    rw [tt t h1, decide_eq_true h2.1, decide_eq_true h2.2, decide_eq_true h3]
    by_cases h : (cns ts t).head? = some col
    · rw [if_pos h]
      have := h5 h
      cases o with
      | none => exact absurd rfl this
      | some i =>
        show (_ && (_ && (_ && (true && (decide (-1000000000 ≤ i) && decide (i ≤ 1000000000)))))) = true
        rw [decide_eq_true h4.1, decide_eq_true h4.2]; rfl
    · rw [if_neg h, worthB_ok h4]; rfl
theorem deed_nice {ts : List Tab} (okt : TabsOk 5 ts) {dd : Deed} (h : DeedOk ts dd) : Nice 1000000000 61 (deedD dd) ∧ wt (deedD dd) ≤ 600 ∧ (deedD dd).depth ≤ 2 := by
  have nt : ∀ t, t ∈ tns ts → Nice 1000000000 61 (.str t) ∧ wt (.str t) ≤ 92 := fun t ht => name_nice (tns_ok okt t ht) _ _
  have nc : ∀ t col, t ∈ tns ts → col ∈ cns ts t → Nice 1000000000 61 (.str col) ∧ wt (.str col) ≤ 92 := fun t col ht hc => name_nice ((cns_ok okt ht).1 col hc) _ _
  have nw : ∀ s : Str, nameB (.str s) = true → Nice 1000000000 61 (.str s) ∧ wt (.str s) ≤ 92 := fun s hs => name_nice (nameB_ok hs) _ _
  have ni : ∀ i : Int, BOk i → Nice 1000000000 61 (.int i) := fun i hi => by have := hi.1; have := hi.2; show i.natAbs ≤ 1000000000; omega
  cases dd with
  | put t r =>
    obtain ⟨h1, h2⟩ := h
    obtain ⟨a1, a2⟩ := nw "put" (by decide +kernel)
    obtain ⟨b1, b2⟩ := nt t h1
    obtain ⟨c1, c2, c3⟩ := row61 (cns_ok okt h1).2.2.1 h2
    refine ⟨⟨by show 3 ≤ 61; decide, a1, b1, c1, trivial⟩, ?_, ?_⟩
    · show 6 + (wt (.str "put") + 3 + (wt (.str t) + 3 + (wt (rowD r) + 3 + 0))) ≤ 600; omega
    · show max 0 (max 0 (max (rowD r).depth 0)) + 1 ≤ 2; omega
  | drop t k =>
    obtain ⟨h1, h2⟩ := h
    obtain ⟨a1, a2⟩ := nw "drop" (by decide +kernel)
    obtain ⟨b1, b2⟩ := nt t h1
    refine ⟨⟨by show 3 ≤ 61; decide, a1, b1, ni k h2, trivial⟩, ?_, by show max 0 (max 0 (max 0 0)) + 1 ≤ 2; decide⟩
    show 6 + (wt (.str "drop") + 3 + (wt (.str t) + 3 + (25 + 3 + 0))) ≤ 600; omega
  | sweep t col o =>
    obtain ⟨h1, h2, h3⟩ := h
    obtain ⟨a1, a2⟩ := nw "sweep" (by decide +kernel)
    obtain ⟨b1, b2⟩ := nt t h1
    obtain ⟨c1, c2⟩ := nc t col h1 h2
    obtain ⟨d1, d2, d3⟩ := w61 h3 61
    refine ⟨⟨by show 4 ≤ 61; decide, a1, b1, c1, d1, trivial⟩, ?_, ?_⟩
    · show 6 + (wt (.str "sweep") + 3 + (wt (.str t) + 3 + (wt (.str col) + 3 + (wt (wD o) + 3 + 0)))) ≤ 600; omega
    · show max 0 (max 0 (max 0 (max (wD o).depth 0))) + 1 ≤ 2; omega
  | shift t col b =>
    obtain ⟨h1, h2, h3⟩ := h
    obtain ⟨a1, a2⟩ := nw "shift" (by decide +kernel)
    obtain ⟨b1, b2⟩ := nt t h1
    obtain ⟨c1, c2⟩ := nc t col h1 h2
    refine ⟨⟨by show 4 ≤ 61; decide, a1, b1, c1, ni b h3, trivial⟩, ?_, by show max 0 (max 0 (max 0 (max 0 0))) + 1 ≤ 2; decide⟩
    show 6 + (wt (.str "shift") + 3 + (wt (.str t) + 3 + (wt (.str col) + 3 + (25 + 3 + 0)))) ≤ 600; omega
  | set t k col o =>
    obtain ⟨h1, h2, h3, h4, _⟩ := h
    obtain ⟨a1, a2⟩ := nw "set" (by decide +kernel)
    obtain ⟨b1, b2⟩ := nt t h1
    obtain ⟨c1, c2⟩ := nc t col h1 h3
    obtain ⟨d1, d2, d3⟩ := w61 h4 61
    refine ⟨⟨by show 5 ≤ 61; decide, a1, b1, ni k h2, c1, d1, trivial⟩, ?_, ?_⟩
    · show 6 + (wt (.str "set") + 3 + (wt (.str t) + 3 + (25 + 3 + (wt (.str col) + 3 + (wt (wD o) + 3 + 0))))) ≤ 600; omega
    · show max 0 (max 0 (max 0 (max 0 (max (wD o).depth 0)))) + 1 ≤ 2; omega
section
variable {P : Program} {w : World} {K : PySem.W.Frag} {mg : Str → Option Value} {base : Heap}
/-- of what is nice -/
def spTold (K : PySem.W.Frag) : Sp := fun vs H Q _ => ∃ (tp : Addr) (ts : List Tab) (v : V) (d : PyData), vs = [.ref tp, v] ∧ Tabs K H tp ts ∧ Dp K H v d ∧ Nice (10 ^ 12) 800 d ∧ d.depth ≤ 50 ∧ wt d ≤ 99000 ∧ ∀ H', Same H H' → Q (.bl true) H'
abbrev s_law_told_right : Stmt := topS 33
abbrev N_law_told_right : List Str := ["tables", "thing", "text", "found"]
theorem sc_law_told_right : FnScope N_law_told_right ["tables", "thing"] (defScope s_law_told_right) := ⟨rfl, rfl, rfl, by decide +kernel, rfl, by decide +kernel, by decide +kernel⟩

theorem ok_law_told_right {f : Addr} {fd : FuncData} (F : Fun K "_law_told_right" "_law_told_right" s_law_told_right f fd) (nb : NB mg) (D_is_deed : Def P w K mg base 5 "is_deed" ["tables", "thing"] (spTs deedB K))
    (D_law_due : Def P w K mg base 3 "_law_due" ["tables", "thing"] (spTs deedB K)) : FnG P w K mg base CX0 6 f fd ["tables", "thing"] (spTold K) := by
  refine okG F sc_law_told_right (fun vs H Q E h => ?_) (fun cdv A outer sh H vs Q E hr hg h => ?_)
  · obtain ⟨tp, ts, v, d, rfl, _⟩ := h
    rfl
  obtain ⟨tp, ts, v, d, rfl, hT, hd, hn, hdep, hw, q⟩ := h
  have nd := sc_law_told_right.nd
  obtain ⟨nT, wT, dT⟩ := tabs_all hT
  have hf : Fit d := fit_nice (by decide) hn (by omega)
  have hsh : SeqAt.shaped d = true := shaped_nice hn (by omega)
  have hs : Shows (.list [.tuple (ts.map tabD), d]) := by
    refine shows_more (B := 10 ^ 12) (L := 800) ⟨by show 2 ≤ 800; decide, nT.mono (by decide) (by decide), hn, trivial⟩ (by decide) ?_ ?_
    · show max (PyData.tuple (ts.map tabD)).depth (max d.depth 0) + 1 ≤ 60
      omega
    · show 6 + (wt (.tuple (ts.map tabD)) + 3 + (wt d + 3 + 0)) ≤ 1000000
      omega
  refine ⟨_, (pss_cons (ps_par (i := 2) (j := 3) (by rfl) nd rfl rfl (by decide) rfl rfl (pa_cons (pe_callB (call_repr_d hg hr) (by rfl) nb.b_repr (by decide +kernel) (pa_cons (pe_lst (pa_cons (pv 0) (pa_cons (pv 1) pa_nil))) pa_nil)) (pa_cons (pe_own D_is_deed hr (pa_cons (pv 0) (pa_cons (pv 1) pa_nil))) pa_nil)) (by rfl))
      (pss_one (ps_ret (pe_and (pe_callB call_isi (by rfl) nb.b_isinstance (by decide +kernel) (pa_cons (pv 3) (pa_cons (pe_bltn (v := .ty "bool") (by rfl) nb.b_bool (by decide +kernel) rfl) pa_nil))) (pe_and (pe_cmpR op_eq (pv 3) (pe_own D_law_due hr (pa_cons (pv 0) (pa_cons (pv 1) pa_nil))) (nomark _)) (pe_one (pe_cmpR op_eq (pe_callB (call_repr_d hg hr) (by rfl) nb.b_repr (by decide +kernel) (pa_cons (pe_lst (pa_cons (pv 0) (pa_cons (pv 1) pa_nil))) pa_nil)) (pv 2) (nomark _)))))))), ?_⟩
  refine ⟨.ref tp, rfl, v, rfl, (by show 2 ≤ sizeLine; decide), fun L1 n1 => ?_⟩
  have s1 := same_upd (o := .lst [.ref tp, v]) n1
  have dl : ∀ {H' : Hp} {L : Addr}, Same H H' → H' L = some (.lst [.ref tp, v]) → Dp K H' (.ref L) (.list [.tuple (ts.map tabD), d]) := fun {H' L} s e => .lst (.inl (.inl e)) (.cons (dp_same s hT.dp) (.cons (dp_same s hd) .nil))
  refine ⟨.ref L1, _, rfl, dl s1 upd_same, hs.sh, hs.nd, hs.dp, hs.sz, .ref tp, rfl, v, rfl, tp, ts, v, d, rfl, hT.same s1, dp_same s1 hd, hf, hsh, fun H1 sm1 => ⟨_, _, rfl, ?_⟩⟩
  have s2 := s1.trans sm1
  refine ⟨_, rfl, .bl (deedB ts d), .ty "bool", _, _, _, rfl, .ty "bool", dp_ty (.bl (deedB ts d)), kit_b (.bool (deedB ts d)), _, rfl, iteT ?_⟩
  refine ⟨_, rfl, .ref tp, rfl, v, rfl, tp, ts, v, d, rfl, hT.same s2, dp_same s2 hd, hf, hsh, fun H2 sm2 => ⟨rfl, _, rfl, ?_⟩⟩
  rw [decide_eq_true rfl]
  refine iteT ?_
  have s3 := s2.trans sm2
  refine ⟨.ref tp, rfl, v, rfl, (by show 2 ≤ sizeLine; decide), fun L2 n2 => ?_⟩
  have s4 := s3.trans (same_upd (o := .lst [.ref tp, v]) n2)
  refine ⟨.ref L2, _, rfl, dl s4 upd_same, hs.sh, hs.nd, hs.dp, hs.sz, _, rfl, rfl, ?_⟩
  rw [decide_eq_true rfl]
  exact q _ s4
def words5 : List Str := ["put", "drop", "set", "sweep", "shift"]
theorem words5_ok : ∀ z ∈ words5, NameOk z := by
  have h1 : words5.all (fun z => nameB (.str z)) = true := by decide +kernel
  exact fun z hz => nameB_ok (List.all_eq_true.mp h1 z hz)
def spLaw (K : PySem.W.Frag) : Sp := fun vs H Q _ => ∃ (a : Addr) (ns : List Int), vs = [.ref a] ∧ SqL K H a (ns.map V.int) ∧ ∀ H', Q (.bl true) H'
abbrev s_law : Stmt := topS 34
abbrev N_law : List Str := ["script", "state", "tables", "content", "names", "turn", "deed", "thing", "table", "column"]
theorem sc_law : FnScope N_law ["script"] (defScope s_law) := ⟨rfl, rfl, rfl, by decide +kernel, rfl, by decide +kernel, by decide +kernel⟩

set_option maxHeartbeats 4000000 in
theorem ok_law {f : Addr} {fd : FuncData} (F : Fun K "law" "law" s_law f fd) (nb : NB mg) (D_law_begin : Def P w K mg base 1 "_law_begin" ["script"] (spBegin K)) (D_law_take : Def P w K mg base 1 "_law_take" ["state", "many"] spTake) (D_law_tables : Def P w K mg base 3 "_law_tables" ["state", "many", "wide"] (spTables K))
    (D_law_content : Def P w K mg base 4 "_law_content" ["state", "tables", "many"] (spContent K)) (D_law_deed : Def P w K mg base 4 "_law_deed" ["state", "tables", "content"] (spDeed K)) (D_law_due : Def P w K mg base 3 "_law_due" ["tables", "thing"] (spTs deedB K))
    (D_law_other : Def P w K mg base 3 "_law_other" ["state", "thing", "names"] (spOther K)) (D_law_bent : Def P w K mg base 10 "_law_bent" ["state", "thing", "names"] (spBent 7 K)) (D_law_told_right : DefG P w K mg base 6 "_law_told_right" ["tables", "thing"] (spTold K)) :
    FnG P w K mg base CX0 11 f fd ["script"] (spLaw K) := by
  refine okG F sc_law (fun vs H Q E h => ?_) (fun cdv A outer sh H vs Q E hr hg h => ?_)
  · obtain ⟨a, ns, rfl, _⟩ := h
    rfl
  · obtain ⟨a, ns, rfl, hS, q⟩ := h
    have nd := sc_law.nd
    have hu := hu_of hr
    refine ⟨_, (pss_cons (ps_set (i := 1) nd rfl (Or.inl rfl) (pe_own D_law_begin hr (pa_cons (pv 0) pa_nil)))
      (pss_cons (ps_set (i := 2) nd rfl (Or.inl rfl) (pe_own D_law_tables hr (pa_cons (pv 1) (pa_cons (pe_op op_add pe_int (pe_own D_law_take hr (pa_cons (pv 1) (pa_cons pe_int pa_nil)))) (pa_cons pe_int pa_nil)))))
      (pss_cons (ps_set (i := 3) nd rfl (Or.inl rfl) (pe_own D_law_content hr (pa_cons (pv 1) (pa_cons (pv 2) (pa_cons (pe_op op_add pe_int (pe_own D_law_take hr (pa_cons (pv 1) (pa_cons pe_int pa_nil)))) pa_nil)))))
      (pss_cons (ps_set (i := 4) nd rfl (Or.inl rfl) (pe_op op_cat (pe_lc (own := [("table", 8)]) (g := (gName 8)) (tt := tYes) rfl nd (pi_tup (pv 2)) (blkOk_by (N := N_law) (sc := defScope s_law) (by decide +kernel)) (fun _ _ _ _ _ => (pg_name (i := 8) nd rfl (Or.inl rfl))) (fun _ _ _ _ _ => pts_nil) (fun _ _ _ _ _ => (pe_ix (r := rIxT K) ix_tup (pv 8) pe_int (fun _ _ => rfl)))) (pe_lc (own := [("column", 9)]) (g := (gName 9)) (tt := tYes) rfl nd (pi_tup (pe_ix ix_seq (pe_ix ix_tup (pv 2) (pe_un un_neg pe_int) (fun _ _ => rfl)) pe_int (fun _ _ => rfl))) (blkOk_by (N := N_law) (sc := defScope s_law) (by decide +kernel)) (fun _ _ _ _ _ => (pg_name (i := 9) nd rfl (Or.inl rfl))) (fun _ _ _ _ _ => pts_nil) (fun _ _ _ _ _ => (pe_ix (r := rIxT K) ix_tup (pv 9) pe_int (fun _ _ => rfl))))))
      (pss_cons (ps_set (i := 4) nd rfl (Or.inl rfl) (pe_op op_cat (pv 4) (pe_lst (pa_cons pe_str (pa_cons pe_str (pa_cons pe_str (pa_cons pe_str (pa_cons pe_str pa_nil))))))))
      (pss_cons (ps_for PassesOwn.never rfl (pi_range1 (by rfl) nb.b_range (pa_cons pe_int pa_nil)) (pg_name (i := 5) nd rfl (Or.inl rfl))
        (pss_cons (ps_set (i := 6) nd rfl (Or.inl rfl) (pe_own D_law_deed hr (pa_cons (pv 1) (pa_cons (pv 2) (pa_cons (pv 3) pa_nil)))))
        (pss_cons (ps_if (PW.pt (pw_or (pt_not (pt_val (pe_own D_law_due hr (pa_cons (pv 2) (pa_cons (pv 6) pa_nil))))) (pw_or1 (pt_not (pt_val (pe_ownG D_law_told_right hg hr (pa_cons (pv 2) (pa_cons (pv 6) pa_nil))))))))
          (pss_one (ps_ret pe_bl))
          pss_nil)
        (pss_cons (ps_set (i := 7) nd rfl (Or.inl rfl) (pe_own D_law_bent hr (pa_cons (pv 1) (pa_cons (pv 6) (pa_cons (pv 4) pa_nil)))))
        (pss_cons (ps_if (pt_cmpR op_eq (pe_own D_law_take hr (pa_cons (pv 1) (pa_cons pe_int pa_nil))) pe_int (nomark _))
          (pss_one (ps_set (i := 7) nd rfl (Or.inl rfl) (pe_own D_law_bent hr (pa_cons (pv 1) (pa_cons (pv 7) (pa_cons (pv 4) pa_nil))))))
          pss_nil)
        (pss_one (ps_if (PW.pt (pw_or (pt_not (pt_val (pe_ownG D_law_told_right hg hr (pa_cons (pv 2) (pa_cons (pv 7) pa_nil))))) (pw_or1 (pt_not (pt_val (pe_ownG D_law_told_right hg hr (pa_cons (pv 2) (pa_cons (pe_own D_law_other hr (pa_cons (pv 1) (pa_cons pe_int (pa_cons (pv 4) pa_nil)))) pa_nil))))))))
          (pss_one (ps_ret pe_bl))
          pss_nil)))))))
      (pss_one (ps_ret pe_bl)))))))), ?_⟩
    -- state
    refine ⟨.ref a, rfl, a, ns, rfl, hS, fun s c H1 S1 _ _ _ => ?_⟩
    -- tables
    refine ⟨.ref s, rfl, .ref s, rfl, s, c, 0, _, rfl, S1, by decide, by decide, by decide, fun d H2 d0 d1 S2 _ => ⟨_, _, rfl, rfl, ?_⟩⟩
    obtain ⟨m, hm⟩ : ∃ m : Nat, 1 + d = (m : Int) := ⟨(1 + d).toNat, by omega⟩
    refine ⟨s, c, 1, m, 5, congrArg (fun z => [V.ref s, V.int z, V.int 5]) hm, S2, by omega, by omega, by decide, by decide, fun tp ts H3 lts okts ftp dts S3 K3 => ?_⟩
    have TM : Tabs K (msk [s, c] H3) tp ts := ⟨dts, okts, by omega, by omega⟩
    -- content
    refine ⟨.ref s, rfl, .ref tp, rfl, .ref s, rfl, s, c, _, _, rfl, S3, by omega, by decide, by decide, fun g H5 g0 g1 S5 K5 => ⟨_, _, rfl, rfl, ?_⟩⟩
    obtain ⟨mm, hmm⟩ : ∃ mm : Nat, 1 + g = (mm : Int) := ⟨(1 + g).toNat, by omega⟩
    refine ⟨s, c, tp, _, mm, ts, congrArg (fun z => [V.ref s, V.ref tp, V.int z]) hmm, S5, by omega, by omega, by omega, TM.same (msk_same K5), fun cp ct H6 okc kb fcp dct S6 K6 => ?_⟩
    have TM6 := TM.same (msk_same (K5.trans K6))
    have kb' : ∀ rs ∈ ct, ∀ r ∈ rs, -100000000 ≤ keyW r ∧ keyW r < 100000000 := fun rs h r hr => by have := kb rs h r hr; omega
    replace S6 : StAt H6 s c 20000 := S6.mono (by omega)
    clear kb TM dts K3 K5 K6
    -- names
    have M6 := mask0 S6
    obtain ⟨xs, hTS, hTA, lx⟩ := TM6.parts
    have l0 := TM6.l0
    have l8 := TM6.l8
    refine ⟨.ref tp, rfl, tp, rfl, ⟨_, sameT (msk_sub _ _) hTS⟩, fun D1 nD1 => ?_⟩
    refine lc_it walk_tup (PvM H6 D1 fun i => .str ((tns ts).getD i Str.empty)) (pvm_start ..) (fun i H' _ hP => sameT ((msk_sub _ _).trans (pvm_same hP nD1)) hTS) (fun i x H' H'' hi hP hY => ?_) (fun H11 hP1 => ?_)
    · obtain ⟨rfl, hx⟩ := hY
      obtain ⟨tb, qq, pc, ys, htb, rfl, h1, _, _⟩ := tab_at hTA hx
      refine ⟨rfl, ?_⟩
      unfold tYes
      dsimp only
      refine iteT ?_
      refine ⟨.ref qq, rfl, qq, _, 0, .str tb.1, rfl, rfl, sameT ((msk_sub _ _).trans (pvm_same hP nD1)) h1, atI_nat (j := 0) rfl, pvm_step hP (Same.refl _) ?_ (by omega)⟩
      rw [getD_of (show (tns ts)[i]? = some tb.1 by rw [List.getElem?_map, htb]; rfl)]
    have s11 := pvm_same hP1 nD1
    have eD1 : H11 D1 = some (.lst ((tns ts).map V.str)) := by
      rw [hP1.1, lx, ← tns_len]
      have e := range_map (fun z => V.str z) Str.empty (tns ts)
      rw [e]
    -- the last table's columns
    obtain ⟨xl, hxl⟩ : ∃ xl, xs[xs.length - 1]? = some xl := ⟨_, List.getElem?_eq_getElem (show xs.length - 1 < xs.length by omega)⟩
    obtain ⟨tb, qq, pc, ys, htb, rfl, hq1, hq2, hq3⟩ := tab_at hTA hxl
    have hmt : tb ∈ ts := List.mem_of_getElem? htb
    obtain ⟨okc', _⟩ := okts.cs tb hmt
    have lc5 := okc'.top
    have ly : ys.length = tb.2.length := by rw [dpAll_len hq3, List.length_map]
    have m11 := (msk_sub [s, c] H6).trans s11
    refine ⟨.ref tp, rfl, _, rfl, tp, xs, _, .ref qq, rfl, rfl, sameT m11 hTS, atI_end hxl, .inr (.inl ⟨qq, _, 1, .ref pc, rfl, rfl, sameT m11 hq1, rfl, pc, rfl, ⟨_, sameT m11 hq2⟩, fun D2 nD2 => ?_⟩)⟩
    refine lc_it walk_tup (PvM H11 D2 fun i => .str ((tb.2.map (·.1)).getD i Str.empty)) (pvm_start ..) (fun i H' _ hP => sameT (m11.trans (pvm_same hP nD2)) hq2) (fun i x H' H'' hi hP hY => ?_) (fun H12 hP2 => ?_)
    · obtain ⟨rfl, hx⟩ := hY
      obtain ⟨co, qc, yc, hco, rfl, hqc⟩ := col_at hq3 hx
      refine ⟨rfl, ?_⟩
      unfold tYes
      dsimp only
      refine iteT ?_
      refine ⟨.ref qc, rfl, qc, _, 0, .str co.1, rfl, rfl, sameT (m11.trans (pvm_same hP nD2)) hqc, atI_nat (j := 0) rfl, pvm_step hP (Same.refl _) ?_ (by omega)⟩
      rw [getD_of (show (tb.2.map (·.1))[i]? = some co.1 by rw [List.getElem?_map, hco]; rfl)]
    have s12 := pvm_same hP2 nD2
    have eD2 : H12 D2 = some (.lst ((tb.2.map (·.1)).map V.str)) := by
      rw [hP2.1, ly, ← List.length_map (as := tb.2) (fun x => x.1)]
      have e := range_map (fun z => V.str z) Str.empty (tb.2.map (·.1))
      rw [e]
    have lt1 : (tns ts).length = ts.length := tns_len
    have lt2 : (tb.2.map (·.1)).length = tb.2.length := List.length_map ..
    refine ⟨D1, D2, _, _, rfl, rfl, s12 _ _ eD1, eD2, Nat.le_of_lt (small1000 (by simp only [List.length_map]; omega)), fun D3 nD3 => ?_⟩
    have s13 := (s11.trans s12).trans (same_upd (o := .lst ((tns ts).map V.str ++ (tb.2.map (·.1)).map V.str)) nD3)
    have eD3 : (upd H12 D3 (.lst ((tns ts).map V.str ++ (tb.2.map (·.1)).map V.str))) D3 = some (.lst ((tns ts).map V.str ++ (tb.2.map (·.1)).map V.str)) := upd_same
    show tSeq _ _ _ [some (.ref a), some (.ref s), some (.ref tp), some (.ref cp), some (.ref D3), none, none, none, none, none] (upd H12 D3 (.lst ((tns ts).map V.str ++ (tb.2.map (·.1)).map V.str)))
    generalize upd H12 D3 (.lst ((tns ts).map V.str ++ (tb.2.map (·.1)).map V.str)) = H13 at s13 eD3 ⊢
    -- names + [..]
    refine ⟨.ref D3, rfl, (by show 5 ≤ sizeLine; decide), fun W nW => ?_⟩
    have nD3W : D3 ≠ W := ne_of_none eD3 nW
    refine ⟨D3, W, _, _, rfl, rfl, (by rw [upd_ne nD3W]; exact eD3), upd_same, Nat.le_of_lt (small1000 (by simp only [List.length_append, List.length_map]; show _ + 5 ≤ 1000; omega)), fun Ln nLn => ?_⟩
    have sL := (s13.trans (same_upd (o := .lst [.str "put", .str "drop", .str "set", .str "sweep", .str "shift"]) nW)).trans (same_upd (o := .lst (((tns ts).map V.str ++ (tb.2.map (·.1)).map V.str) ++ [.str "put", .str "drop", .str "set", .str "sweep", .str "shift"])) nLn)
    have nLn6 : H6 Ln = none := Same.free (s13.trans (same_upd nW)) nLn
    have S15 := S6.same sL
    have kL := Kept.of_same (M := [s, c]) sL
    have TM15 := TM6.same (msk_same kL)
    have dE15 := dp_same (msk_same kL) dct
    obtain ⟨zs, ezs⟩ : ∃ zs, zs = (tns ts ++ tb.2.map (·.1)) ++ words5 := ⟨_, rfl⟩
    have N15 : NamesAt (upd (upd H13 W (.lst [.str "put", .str "drop", .str "set", .str "sweep", .str "shift"])) Ln (.lst (((tns ts).map V.str ++ (tb.2.map (·.1)).map V.str) ++ [.str "put", .str "drop", .str "set", .str "sweep", .str "shift"]))) [s, c] Ln zs := by
      rw [ezs]
      refine ⟨M6.new nLn6, by rw [upd_same, List.map_append, List.map_append]; rfl, fun z hz => ?_, by rw [List.length_append, List.length_append, lt1, lt2]; show _ + 5 ≤ 100; omega⟩
      rcases List.mem_append.mp hz with h | h
      · rcases List.mem_append.mp h with h | h
        · exact tns_ok okts z h
        · obtain ⟨co, hco, rfl⟩ := List.mem_map.mp h
          exact okc'.nm co hco
      · exact words5_ok z h
    show tSeq _ _ _ [some (.ref a), some (.ref s), some (.ref tp), some (.ref cp), some (.ref Ln), none, none, none, none, none] (upd (upd H13 W (.lst [.str "put", .str "drop", .str "set", .str "sweep", .str "shift"])) Ln (.lst (((tns ts).map V.str ++ (tb.2.map (·.1)).map V.str) ++ [.str "put", .str "drop", .str "set", .str "sweep", .str "shift"])))
    generalize upd (upd H13 W (.lst [.str "put", .str "drop", .str "set", .str "sweep", .str "shift"])) Ln (.lst (((tns ts).map V.str ++ (tb.2.map (·.1)).map V.str) ++ [.str "put", .str "drop", .str "set", .str "sweep", .str "shift"])) = H15 at S15 TM15 dE15 N15 ⊢
    clear sL kL nLn nLn6 nD3W nW eD3 s13 eD2 hP2 nD2 s12 m11 hq1 hq2 hq3 eD1 hP1 nD1 s11 hTA hTS TM6 S6 M6 ezs
    -- for turn in range(40)
    refine ⟨40, rfl, by decide, by decide, ?_⟩
    refine for_range (lo := 0) (n := (40 : Int).toNat) (fun i σ H' => (∃ y5 y6 y7, σ = [some (.ref a), some (.ref s), some (.ref tp), some (.ref cp), some (.ref Ln), y5, y6, y7, none, none]) ∧ Tabs K (msk [s, c] H') tp ts ∧ Dp K (msk [s, c] H') (.ref cp) (contD ct) ∧ NamesAt H' [s, c] Ln zs ∧ StAt H' s c (20000 + i * 200)) ⟨⟨_, _, _, rfl⟩, TM15, dE15, N15, S15.mono (by omega)⟩ (fun i σ H16 hi hP => ?_) (fun σ H16 hP => ?_)
    · obtain ⟨⟨y5, y6, y7, rfl⟩, TT', dT, NT, ST⟩ := hP
      have hi : i < 40 := hi
      -- deed
      refine ⟨.ref s, rfl, .ref tp, rfl, .ref cp, rfl, s, c, tp, cp, _, mm, ts, ct, rfl, ST, by omega, by omega, TT', okc, kb', dT, fun ep dd H17 okd fep dpe S17 K17 => ?_⟩
      have TT17 := TT'.same (msk_same K17)
      have dT17 := dp_same (msk_same K17) dT
      have NT17 := NT.kept K17
      obtain ⟨niceE, wtE, depE⟩ := deed_nice okts okd
      have T17 := TT17.same (msk_sub _ _)
      have D17 := dp_same (msk_sub _ _) dpe
      refine ⟨.ref tp, rfl, .ref ep, rfl, tp, ts, .ref ep, deedD dd, rfl, T17, D17, fit_nice (by decide) niceE (by omega), shaped_nice niceE (by omega), fun H18 s18 => ⟨_, rfl, ?_⟩⟩
      rw [deedB_ok okd]
      refine iteF ?_
      refine ⟨.ref tp, rfl, .ref ep, rfl, tp, ts, .ref ep, deedD dd, rfl, T17.same s18, dp_same s18 D17, niceE.mono (by decide) (by decide), by omega, by omega, fun H19 s19 => ⟨_, rfl, iteF ?_⟩⟩
      have s79 := s18.trans s19
      have k79 := Kept.of_same (M := [s, c]) s79
      have S19 := S17.same s79
      have TT19 := TT17.same (msk_same k79)
      have dT19 := dp_same (msk_same k79) dT17
      have NT19 := NT17.kept k79
      have dE19 := dp_same (msk_same k79) dpe
      -- thing = bent(state, deed, names)
      refine ⟨.ref s, rfl, .ref ep, rfl, .ref Ln, rfl, [s, c], s, c, Ln, _, 1000000000, 61, _, _, zs, rfl, by omega, S19, mask0 S19, by omega, dE19, niceE, by decide, by decide, by decide, by omega, NT19, fun u1 b1 H20 h20 t20 S20 K20 => ?_⟩
      have TT20 := TT19.same (msk_same K20)
      have dT20 := dp_same (msk_same K20) dT19
      have NT20 := NT19.kept K20
      have w1 : wt b1 ≤ 3800 := by have := t20.wt; omega
      have dp1 : b1.depth ≤ 3 := by have := t20.dep; omega
      refine' (fun (rest : ∀ (u : V) (b : PyData) (H18 : Hp), Dp K (msk [s, c] H18) u b → Nice 5000000000 63 b → wt b ≤ 95000 → b.depth ≤ 6 → Tabs K (msk [s, c] H18) tp ts → Dp K (msk [s, c] H18) (.ref cp) (contD ct) → NamesAt H18 [s, c] Ln zs → StAt H18 s c (20000 + i * 200 + 190) → (_ : V → Hp → Prop) u H18) => _) _
      rotate_left
      · refine ⟨.ref s, rfl, s, c, _, _, rfl, S20, by omega, by decide, by decide, fun d H21 d0 d1 S21 K21 => ⟨rfl, _, rfl, ite2 (fun _ => ?_) (fun _ => ?_)⟩⟩
        · have h21 := dp_same (msk_same K21) h20
          refine ⟨.ref s, rfl, u1, rfl, .ref Ln, rfl, [s, c], s, c, Ln, _, 3000000000, 62, _, _, zs, rfl, by omega, S21, mask0 S21, by omega, h21, t20.nice, by decide, by decide, by decide, by omega, NT20.kept K21, fun u2 b2 H22 h22 t22 S22 K22 => ?_⟩
          have K212 := K21.trans K22
          exact rest u2 b2 H22 h22 t22.nice (by have := t22.wt; omega) (by have := t22.dep; omega) (TT20.same (msk_same K212)) (dp_same (msk_same K212) dT20) (NT20.kept K212) (S22.mono (by omega))
        · exact rest u1 b1 H21 (dp_same (msk_same K21) h20) (t20.nice.mono (by decide) (by decide)) (by omega) (by omega) (TT20.same (msk_same K21)) (dp_same (msk_same K21) dT20) (NT20.kept K21) (S21.mono (by omega))
      · intro u b H18 h18 n18 w18 dd18 TT18 dT18 NT18 S18
        refine ⟨.ref tp, rfl, u, rfl, tp, ts, u, b, rfl, TT18.same (msk_sub _ _), dp_same (msk_sub _ _) h18, n18.mono (by decide) (by decide), by omega, by omega, fun H19 s19 => ⟨_, rfl, iteF ?_⟩⟩
        have S19 := S18.same s19
        have k19 := Kept.of_same (M := [s, c]) s19
        refine ⟨.ref tp, rfl, .ref s, rfl, .ref Ln, rfl, [s, c], s, c, Ln, _, 1000000000, 8, .int 3, .int 3, zs, rfl, S19, mask0 S19, by omega, .int 3, by show 3 ≤ 1000000000; decide, by decide, by decide, by show 25 ≤ 50000; decide, NT18.kept k19, fun u2 b2 H20 h20 g20 S20 K20 => ?_⟩
        have k20 := k19.trans K20
        refine ⟨tp, ts, u2, b2, rfl, (TT18.same (msk_same k20)).same (msk_sub _ _), dp_same (msk_sub _ _) h20, g20.nice.mono (by decide) (by decide), (by have := g20.dep; omega), (by have := g20.wt; have e : wt (.int 3) = 25 := rfl; omega), fun H21 s21 => ⟨_, rfl, iteF ?_⟩⟩
        have k21 := k20.trans (Kept.of_same (M := [s, c]) s21)
        exact ⟨⟨_, _, _, rfl⟩, TT18.same (msk_same k21), dp_same (msk_same k21) dT18, NT18.kept k21, (S20.same s21).mono (by omega)⟩
    · obtain ⟨⟨y5, y6, y7, rfl⟩, _⟩ := hP
      exact q _
end
end TT

set_option Elab.async false
set_option linter.all false
set_option maxRecDepth 100000
namespace TT
open PySem PySem.Spec PyProof.Rows L2
/-! ### what the top has written; the law's own head -/
theorem all_mk {l : PySem.W.OpenLaw} {w : World} {K : PySem.W.Frag} {h : Heap} {mg : Str → Option Value} {fa f1 f2 f3 f4 f5 f6 f7 f8 f9 f10 f11 f12 f13 f14 f15 f16 f17 f18 f19 f20 f21 f22 f23 f24 f25 f26 : Addr} (X : K.In h) (G : h.Ns mainGlobals mg) (hfa : mg "law" = some (.ref fa))
    {od1 an1 od2 an2 od3 an3 od4 an4 od5 an5 od6 an6 od7 an7 od8 an8 od9 an9 od10 an10 od11 an11 od12 an12 od13 an13 od14 an14 od15 an15 od16 an16 od17 an17 od18 an18 od19 an19 od20 an20 od21 an21 od22 an22 od23 an23 od24 an24 od25 an25 od26 an26 : Option Addr} {sl1 sl2 sl3 sl4 sl5 sl6 sl7 sl8 sl9 sl10 sl11 sl12 sl13 sl14 sl15 sl16 sl17 sl18 sl19 sl20 sl21 sl22 sl23 sl24 sl25 sl26 : Array (Option Value)} {oc1 kV1 dc1 pm1 cd1 ct1 oc2 kV2 dc2 pm2 cd2 ct2 oc3 kV3 dc3 pm3 cd3 ct3 oc4 kV4 dc4 pm4 cd4 ct4 oc5 kV5 dc5 pm5 cd5 ct5 oc6 kV6 dc6 pm6 cd6 ct6 oc7 kV7 dc7 pm7 cd7 ct7 oc8 kV8 dc8 pm8 cd8 ct8 oc9 kV9 dc9 pm9 cd9 ct9 oc10 kV10 dc10 pm10 cd10 ct10 oc11 kV11 dc11 pm11 cd11 ct11 oc12 kV12 dc12 pm12 cd12 ct12 oc13 kV13 dc13 pm13 cd13 ct13 oc14 kV14 dc14 pm14 cd14 ct14 oc15 kV15 dc15 pm15 cd15 ct15 oc16 kV16 dc16 pm16 cd16 ct16 oc17 kV17 dc17 pm17 cd17 ct17 oc18 kV18 dc18 pm18 cd18 ct18 oc19 kV19 dc19 pm19 cd19 ct19 oc20 kV20 dc20 pm20 cd20 ct20 oc21 kV21 dc21 pm21 cd21 ct21 oc22 kV22 dc22 pm22 cd22 ct22 oc23 kV23 dc23 pm23 cd23 ct23 oc24 kV24 dc24 pm24 cd24 ct24 oc25 kV25 dc25 pm25 cd25 ct25 oc26 kV26 dc26 pm26 cd26 ct26 : Value}
    (a1 : PySem.W.nsIn K mainGlobals "_law_begin" = some (some (.ref f1))) (l1 : K.lookup f1 = some ⟨oc1, od1, .func (PySem.W.fnOf "_law_begin" "_law_begin" (defArgs s_law_begin) (defBody s_law_begin) (defScope s_law_begin) .none kV1 dc1 pm1 an1 cd1 ct1), sl1⟩) (c1 : PySem.W.codeIn K cd1 "_law_begin" = true) (k1 : PySem.W.keepIn K (.ref f1) = true)
    (a2 : PySem.W.nsIn K mainGlobals "_law_take" = some (some (.ref f2))) (l2 : K.lookup f2 = some ⟨oc2, od2, .func (PySem.W.fnOf "_law_take" "_law_take" (defArgs s_law_take) (defBody s_law_take) (defScope s_law_take) .none kV2 dc2 pm2 an2 cd2 ct2), sl2⟩) (c2 : PySem.W.codeIn K cd2 "_law_take" = true) (k2 : PySem.W.keepIn K (.ref f2) = true)
    (a3 : PySem.W.nsIn K mainGlobals "_law_some" = some (some (.ref f3))) (l3 : K.lookup f3 = some ⟨oc3, od3, .func (PySem.W.fnOf "_law_some" "_law_some" (defArgs s_law_some) (defBody s_law_some) (defScope s_law_some) .none kV3 dc3 pm3 an3 cd3 ct3), sl3⟩) (c3 : PySem.W.codeIn K cd3 "_law_some" = true) (k3 : PySem.W.keepIn K (.ref f3) = true)
    (a4 : PySem.W.nsIn K mainGlobals "_law_names" = some (some (.ref f4))) (l4 : K.lookup f4 = some ⟨oc4, od4, .func (PySem.W.fnOf "_law_names" "_law_names" (defArgs s_law_names) (defBody s_law_names) (defScope s_law_names) .none kV4 dc4 pm4 an4 cd4 ct4), sl4⟩) (c4 : PySem.W.codeIn K cd4 "_law_names" = true) (k4 : PySem.W.keepIn K (.ref f4) = true)
    (a5 : PySem.W.nsIn K mainGlobals "_law_worth" = some (some (.ref f5))) (l5 : K.lookup f5 = some ⟨oc5, od5, .func (PySem.W.fnOf "_law_worth" "_law_worth" (defArgs s_law_worth) (defBody s_law_worth) (defScope s_law_worth) .none kV5 dc5 pm5 an5 cd5 ct5), sl5⟩) (c5 : PySem.W.codeIn K cd5 "_law_worth" = true) (k5 : PySem.W.keepIn K (.ref f5) = true)
    (a6 : PySem.W.nsIn K mainGlobals "_law_tables" = some (some (.ref f6))) (l6 : K.lookup f6 = some ⟨oc6, od6, .func (PySem.W.fnOf "_law_tables" "_law_tables" (defArgs s_law_tables) (defBody s_law_tables) (defScope s_law_tables) .none kV6 dc6 pm6 an6 cd6 ct6), sl6⟩) (c6 : PySem.W.codeIn K cd6 "_law_tables" = true) (k6 : PySem.W.keepIn K (.ref f6) = true)
    (a7 : PySem.W.nsIn K mainGlobals "_law_near" = some (some (.ref f7))) (l7 : K.lookup f7 = some ⟨oc7, od7, .func (PySem.W.fnOf "_law_near" "_law_near" (defArgs s_law_near) (defBody s_law_near) (defScope s_law_near) .none kV7 dc7 pm7 an7 cd7 ct7), sl7⟩) (c7 : PySem.W.codeIn K cd7 "_law_near" = true) (k7 : PySem.W.keepIn K (.ref f7) = true)
    (a8 : PySem.W.nsIn K mainGlobals "_law_content" = some (some (.ref f8))) (l8 : K.lookup f8 = some ⟨oc8, od8, .func (PySem.W.fnOf "_law_content" "_law_content" (defArgs s_law_content) (defBody s_law_content) (defScope s_law_content) .none kV8 dc8 pm8 an8 cd8 ct8), sl8⟩) (c8 : PySem.W.codeIn K cd8 "_law_content" = true) (k8 : PySem.W.keepIn K (.ref f8) = true)
    (a9 : PySem.W.nsIn K mainGlobals "is_tuple" = some (some (.ref f9))) (l9 : K.lookup f9 = some ⟨oc9, od9, .func (PySem.W.fnOf "is_tuple" "is_tuple" (defArgs s_is_tuple) (defBody s_is_tuple) (defScope s_is_tuple) .none kV9 dc9 pm9 an9 cd9 ct9), sl9⟩) (c9 : PySem.W.codeIn K cd9 "is_tuple" = true) (k9 : PySem.W.keepIn K (.ref f9) = true)
    (a10 : PySem.W.nsIn K mainGlobals "is_number" = some (some (.ref f10))) (l10 : K.lookup f10 = some ⟨oc10, od10, .func (PySem.W.fnOf "is_number" "is_number" (defArgs s_is_number) (defBody s_is_number) (defScope s_is_number) .none kV10 dc10 pm10 an10 cd10 ct10), sl10⟩) (c10 : PySem.W.codeIn K cd10 "is_number" = true) (k10 : PySem.W.keepIn K (.ref f10) = true)
    (a11 : PySem.W.nsIn K mainGlobals "is_bounded" = some (some (.ref f11))) (l11 : K.lookup f11 = some ⟨oc11, od11, .func (PySem.W.fnOf "is_bounded" "is_bounded" (defArgs s_is_bounded) (defBody s_is_bounded) (defScope s_is_bounded) .none kV11 dc11 pm11 an11 cd11 ct11), sl11⟩) (c11 : PySem.W.codeIn K cd11 "is_bounded" = true) (k11 : PySem.W.keepIn K (.ref f11) = true)
    (a12 : PySem.W.nsIn K mainGlobals "is_worth" = some (some (.ref f12))) (l12 : K.lookup f12 = some ⟨oc12, od12, .func (PySem.W.fnOf "is_worth" "is_worth" (defArgs s_is_worth) (defBody s_is_worth) (defScope s_is_worth) .none kV12 dc12 pm12 an12 cd12 ct12), sl12⟩) (c12 : PySem.W.codeIn K cd12 "is_worth" = true) (k12 : PySem.W.keepIn K (.ref f12) = true)
    (a13 : PySem.W.nsIn K mainGlobals "is_row" = some (some (.ref f13))) (l13 : K.lookup f13 = some ⟨oc13, od13, .func (PySem.W.fnOf "is_row" "is_row" (defArgs s_is_row) (defBody s_is_row) (defScope s_is_row) .none kV13 dc13 pm13 an13 cd13 ct13), sl13⟩) (c13 : PySem.W.codeIn K cd13 "is_row" = true) (k13 : PySem.W.keepIn K (.ref f13) = true)
    (a14 : PySem.W.nsIn K mainGlobals "table_names" = some (some (.ref f14))) (l14 : K.lookup f14 = some ⟨oc14, od14, .func (PySem.W.fnOf "table_names" "table_names" (defArgs s_table_names) (defBody s_table_names) (defScope s_table_names) .none kV14 dc14 pm14 an14 cd14 ct14), sl14⟩) (c14 : PySem.W.codeIn K cd14 "table_names" = true) (k14 : PySem.W.keepIn K (.ref f14) = true)
    (a15 : PySem.W.nsIn K mainGlobals "_columns_of" = some (some (.ref f15))) (l15 : K.lookup f15 = some ⟨oc15, od15, .func (PySem.W.fnOf "_columns_of" "_columns_of" (defArgs s_columns_of) (defBody s_columns_of) (defScope s_columns_of) .none kV15 dc15 pm15 an15 cd15 ct15), sl15⟩) (c15 : PySem.W.codeIn K cd15 "_columns_of" = true) (k15 : PySem.W.keepIn K (.ref f15) = true)
    (a16 : PySem.W.nsIn K mainGlobals "column_names" = some (some (.ref f16))) (l16 : K.lookup f16 = some ⟨oc16, od16, .func (PySem.W.fnOf "column_names" "column_names" (defArgs s_column_names) (defBody s_column_names) (defScope s_column_names) .none kV16 dc16 pm16 an16 cd16 ct16), sl16⟩) (c16 : PySem.W.codeIn K cd16 "column_names" = true) (k16 : PySem.W.keepIn K (.ref f16) = true)
    (a17 : PySem.W.nsIn K mainGlobals "_law_deed" = some (some (.ref f17))) (l17 : K.lookup f17 = some ⟨oc17, od17, .func (PySem.W.fnOf "_law_deed" "_law_deed" (defArgs s_law_deed) (defBody s_law_deed) (defScope s_law_deed) .none kV17 dc17 pm17 an17 cd17 ct17), sl17⟩) (c17 : PySem.W.codeIn K cd17 "_law_deed" = true) (k17 : PySem.W.keepIn K (.ref f17) = true)
    (a18 : PySem.W.nsIn K mainGlobals "_is_cell" = some (some (.ref f18))) (l18 : K.lookup f18 = some ⟨oc18, od18, .func (PySem.W.fnOf "_is_cell" "_is_cell" (defArgs s_is_cell) (defBody s_is_cell) (defScope s_is_cell) .none kV18 dc18 pm18 an18 cd18 ct18), sl18⟩) (c18 : PySem.W.codeIn K cd18 "_is_cell" = true) (k18 : PySem.W.keepIn K (.ref f18) = true)
    (a19 : PySem.W.nsIn K mainGlobals "is_deed" = some (some (.ref f19))) (l19 : K.lookup f19 = some ⟨oc19, od19, .func (PySem.W.fnOf "is_deed" "is_deed" (defArgs s_is_deed) (defBody s_is_deed) (defScope s_is_deed) .none kV19 dc19 pm19 an19 cd19 ct19), sl19⟩) (c19 : PySem.W.codeIn K cd19 "is_deed" = true) (k19 : PySem.W.keepIn K (.ref f19) = true)
    (a20 : PySem.W.nsIn K mainGlobals "_law_is_worth" = some (some (.ref f20))) (l20 : K.lookup f20 = some ⟨oc20, od20, .func (PySem.W.fnOf "_law_is_worth" "_law_is_worth" (defArgs s_law_is_worth) (defBody s_law_is_worth) (defScope s_law_is_worth) .none kV20 dc20 pm20 an20 cd20 ct20), sl20⟩) (c20 : PySem.W.codeIn K cd20 "_law_is_worth" = true) (k20 : PySem.W.keepIn K (.ref f20) = true)
    (a21 : PySem.W.nsIn K mainGlobals "_law_is_row" = some (some (.ref f21))) (l21 : K.lookup f21 = some ⟨oc21, od21, .func (PySem.W.fnOf "_law_is_row" "_law_is_row" (defArgs s_law_is_row) (defBody s_law_is_row) (defScope s_law_is_row) .none kV21 dc21 pm21 an21 cd21 ct21), sl21⟩) (c21 : PySem.W.codeIn K cd21 "_law_is_row" = true) (k21 : PySem.W.keepIn K (.ref f21) = true)
    (a22 : PySem.W.nsIn K mainGlobals "_law_due" = some (some (.ref f22))) (l22 : K.lookup f22 = some ⟨oc22, od22, .func (PySem.W.fnOf "_law_due" "_law_due" (defArgs s_law_due) (defBody s_law_due) (defScope s_law_due) .none kV22 dc22 pm22 an22 cd22 ct22), sl22⟩) (c22 : PySem.W.codeIn K cd22 "_law_due" = true) (k22 : PySem.W.keepIn K (.ref f22) = true)
    (a23 : PySem.W.nsIn K mainGlobals "_law_other" = some (some (.ref f23))) (l23 : K.lookup f23 = some ⟨oc23, od23, .func (PySem.W.fnOf "_law_other" "_law_other" (defArgs s_law_other) (defBody s_law_other) (defScope s_law_other) .none kV23 dc23 pm23 an23 cd23 ct23), sl23⟩) (c23 : PySem.W.codeIn K cd23 "_law_other" = true) (k23 : PySem.W.keepIn K (.ref f23) = true)
    (a24 : PySem.W.nsIn K mainGlobals "_law_bent" = some (some (.ref f24))) (l24 : K.lookup f24 = some ⟨oc24, od24, .func (PySem.W.fnOf "_law_bent" "_law_bent" (defArgs s_law_bent) (defBody s_law_bent) (defScope s_law_bent) .none kV24 dc24 pm24 an24 cd24 ct24), sl24⟩) (c24 : PySem.W.codeIn K cd24 "_law_bent" = true) (k24 : PySem.W.keepIn K (.ref f24) = true)
    (a25 : PySem.W.nsIn K mainGlobals "_law_told_right" = some (some (.ref f25))) (l25 : K.lookup f25 = some ⟨oc25, od25, .func (PySem.W.fnOf "_law_told_right" "_law_told_right" (defArgs s_law_told_right) (defBody s_law_told_right) (defScope s_law_told_right) .none kV25 dc25 pm25 an25 cd25 ct25), sl25⟩) (c25 : PySem.W.codeIn K cd25 "_law_told_right" = true) (k25 : PySem.W.keepIn K (.ref f25) = true)
    (a26 : PySem.W.nsIn K mainGlobals "law" = some (some (.ref f26))) (l26 : K.lookup f26 = some ⟨oc26, od26, .func (PySem.W.fnOf "law" "law" (defArgs s_law) (defBody s_law) (defScope s_law) .none kV26 dc26 pm26 an26 cd26 ct26), sl26⟩) (c26 : PySem.W.codeIn K cd26 "law" = true) (k26 : PySem.W.keepIn K (.ref f26) = true)
    (z_list : PySem.W.nsIn K mainGlobals "list" = some none)
    (z_len : PySem.W.nsIn K mainGlobals "len" = some none)
    (z_divmod : PySem.W.nsIn K mainGlobals "divmod" = some none)
    (z_range : PySem.W.nsIn K mainGlobals "range" = some none)
    (z_min : PySem.W.nsIn K mainGlobals "min" = some none)
    (z_int : PySem.W.nsIn K mainGlobals "int" = some none)
    (z_bool : PySem.W.nsIn K mainGlobals "bool" = some none)
    (z_str : PySem.W.nsIn K mainGlobals "str" = some none)
    (z_tuple : PySem.W.nsIn K mainGlobals "tuple" = some none)
    (z_all : PySem.W.nsIn K mainGlobals "all" = some none)
    (z_any : PySem.W.nsIn K mainGlobals "any" = some none)
    (z_repr : PySem.W.nsIn K mainGlobals "repr" = some none)
    (z_isinstance : PySem.W.nsIn K mainGlobals "isinstance" = some none)
    (z_zip : PySem.W.nsIn K mainGlobals "zip" = some none)
    (z_enumerate : PySem.W.nsIn K mainGlobals "enumerate" = some none)
    (z_set : PySem.W.nsIn K mainGlobals "set" = some none)
    (z_sum : PySem.W.nsIn K mainGlobals "sum" = some none)
    (z_sorted : PySem.W.nsIn K mainGlobals "sorted" = some none)
    (z_max : PySem.W.nsIn K mainGlobals "max" = some none)
    (g_MOST_NUMBER : ∃ u, PySem.W.nsIn K mainGlobals "MOST_NUMBER" = some (some (.int 1000000000 u)))
    {a_LENGTHS : Addr} {es_LENGTHS : Array DictEntry} {n_LENGTHS : Nat} (t_LENGTHS : PySem.W.nsIn K mainGlobals "LENGTHS" = some (some (.ref a_LENGTHS))) (o_LENGTHS : K.lookup a_LENGTHS = some ⟨.type "dict", none, .dict es_LENGTHS n_LENGTHS, #[]⟩) (kl_LENGTHS : PySem.W.KeysLit w.params es_LENGTHS.toList) (sm_LENGTHS : (a_LENGTHS == sysModules) = false) (de_LENGTHS : DEnts lens es_LENGTHS.toList)
    : ∃ fd : FuncData, (∀ (s : Shared) (v : Value), BindsTo s fd ⟨[v], []⟩ [("script", v)]) ∧ ∀ base : Heap, K.In base → base.Ns mainGlobals mg → FnG l.prog w K mg base CX0 11 fa fd ["script"] (spLaw K) := by
  have e := hfa.symm.trans (PySem.W.mg_of X G a26)
  cases e
  have nb : NB mg := ⟨PySem.W.mg_none_of X G z_list, PySem.W.mg_none_of X G z_len, PySem.W.mg_none_of X G z_divmod, PySem.W.mg_none_of X G z_range, PySem.W.mg_none_of X G z_min, PySem.W.mg_none_of X G z_int, PySem.W.mg_none_of X G z_bool, PySem.W.mg_none_of X G z_str, PySem.W.mg_none_of X G z_tuple, PySem.W.mg_none_of X G z_all, PySem.W.mg_none_of X G z_any, PySem.W.mg_none_of X G z_repr, PySem.W.mg_none_of X G z_isinstance, PySem.W.mg_none_of X G z_zip, PySem.W.mg_none_of X G z_enumerate, PySem.W.mg_none_of X G z_set, PySem.W.mg_none_of X G z_sum, PySem.W.mg_none_of X G z_sorted, PySem.W.mg_none_of X G z_max⟩
  have gc : GC mg := ⟨(let ⟨u, hu⟩ := g_MOST_NUMBER; ⟨u, PySem.W.mg_of X G hu⟩)⟩
  have gl : GL K w mg := ⟨⟨a_LENGTHS, es_LENGTHS, n_LENGTHS, PySem.W.mg_of X G t_LENGTHS, ⟨o_LENGTHS, kl_LENGTHS, sm_LENGTHS⟩, de_LENGTHS⟩⟩
  refine ⟨PySem.W.fnOf "law" "law" (defArgs s_law) (defBody s_law) (defScope s_law) .none kV26 dc26 pm26 an26 cd26 ct26, fun s v => .of_eq rfl, fun base _ _ => ?_⟩
  have F1 := fun_mk (st := s_law_begin) l1 c1 k1
  have b1 := F1.binds (ps := ["script"]) fun _ _ _ _ _ _ us hl => match us, hl with | [_], _ => rfl
  have D_law_begin : Def l.prog w K mg base 1 "_law_begin" ["script"] (spBegin K) := .mk (PySem.W.mg_of X G a1) k1 b1 (ok_begin F1 nb)
  have F2 := fun_mk (st := s_law_take) l2 c2 k2
  have b2 := F2.binds (ps := ["state", "many"]) fun _ _ _ _ _ _ us hl => match us, hl with | [_, _], _ => rfl
  have D_law_take : Def l.prog w K mg base 1 "_law_take" ["state", "many"] spTake := .mk (PySem.W.mg_of X G a2) k2 b2 (ok_take F2 nb)
  have F3 := fun_mk (st := s_law_some) l3 c3 k3
  have b3 := F3.binds (ps := ["state", "things"]) fun _ _ _ _ _ _ us hl => match us, hl with | [_, _], _ => rfl
  have D_law_some : Def l.prog w K mg base 2 "_law_some" ["state", "things"] (spSome K) := .mk (PySem.W.mg_of X G a3) k3 b3 (ok_some F3 nb D_law_take)
  have F4 := fun_mk (st := s_law_names) l4 c4 k4
  have b4 := F4.binds (ps := ["state", "many"]) fun _ _ _ _ _ _ us hl => match us, hl with | [_, _], _ => rfl
  have D_law_names : Def l.prog w K mg base 2 "_law_names" ["state", "many"] spNames := .mk (PySem.W.mg_of X G a4) k4 b4 (ok_names F4 nb D_law_take)
  have F5 := fun_mk (st := s_law_worth) l5 c5 k5
  have b5 := F5.binds (ps := ["state"]) fun _ _ _ _ _ _ us hl => match us, hl with | [_], _ => rfl
  have D_law_worth : Def l.prog w K mg base 2 "_law_worth" ["state"] spWorth := .mk (PySem.W.mg_of X G a5) k5 b5 (ok_worth F5 D_law_take)
  have F6 := fun_mk (st := s_law_tables) l6 c6 k6
  have b6 := F6.binds (ps := ["state", "many", "wide"]) fun _ _ _ _ _ _ us hl => match us, hl with | [_, _, _], _ => rfl
  have D_law_tables : Def l.prog w K mg base 3 "_law_tables" ["state", "many", "wide"] (spTables K) := .mk (PySem.W.mg_of X G a6) k6 b6 (ok_tables F6 nb D_law_take D_law_names D_law_worth)
  have F7 := fun_mk (st := s_law_near) l7 c7 k7
  have b7 := F7.binds (ps := ["state", "low", "many"]) fun _ _ _ _ _ _ us hl => match us, hl with | [_, _, _], _ => rfl
  have D_law_near : Def l.prog w K mg base 3 "_law_near" ["state", "low", "many"] spNear := .mk (PySem.W.mg_of X G a7) k7 b7 (ok_near F7 nb D_law_take D_law_worth)
  have F8 := fun_mk (st := s_law_content) l8 c8 k8
  have b8 := F8.binds (ps := ["state", "tables", "many"]) fun _ _ _ _ _ _ us hl => match us, hl with | [_, _, _], _ => rfl
  have D_law_content : Def l.prog w K mg base 4 "_law_content" ["state", "tables", "many"] (spContent K) := .mk (PySem.W.mg_of X G a8) k8 b8 (ok_content F8 nb D_law_take D_law_near)
  have F9 := fun_mk (st := s_is_tuple) l9 c9 k9
  have b9 := F9.binds (ps := ["thing", "least", "most"]) fun _ _ _ _ _ _ us hl => match us, hl with | [_, _, _], _ => rfl
  have D_is_tuple : Def l.prog w K mg base 1 "is_tuple" ["thing", "least", "most"] (spTup K) := .mk (PySem.W.mg_of X G a9) k9 b9 (ok_is_tuple F9 nb)
  have F10 := fun_mk (st := s_is_number) l10 c10 k10
  have b10 := F10.binds (ps := ["thing"]) fun _ _ _ _ _ _ us hl => match us, hl with | [_], _ => rfl
  have D_is_number : Def l.prog w K mg base 1 "is_number" ["thing"] (spB numB K) := .mk (PySem.W.mg_of X G a10) k10 b10 (ok_is_number F10 nb)
  have F11 := fun_mk (st := s_is_bounded) l11 c11 k11
  have b11 := F11.binds (ps := ["thing"]) fun _ _ _ _ _ _ us hl => match us, hl with | [_], _ => rfl
  have D_is_bounded : Def l.prog w K mg base 2 "is_bounded" ["thing"] (spB boundB K) := .mk (PySem.W.mg_of X G a11) k11 b11 (ok_is_bounded F11 gc D_is_number)
  have F12 := fun_mk (st := s_is_worth) l12 c12 k12
  have b12 := F12.binds (ps := ["thing"]) fun _ _ _ _ _ _ us hl => match us, hl with | [_], _ => rfl
  have D_is_worth : Def l.prog w K mg base 3 "is_worth" ["thing"] (spB worthB K) := .mk (PySem.W.mg_of X G a12) k12 b12 (ok_is_worth F12 D_is_bounded)
  have F13 := fun_mk (st := s_is_row) l13 c13 k13
  have b13 := F13.binds (ps := ["width", "thing"]) fun _ _ _ _ _ _ us hl => match us, hl with | [_, _], _ => rfl
  have D_is_row : Def l.prog w K mg base 4 "is_row" ["width", "thing"] (spRow K) := .mk (PySem.W.mg_of X G a13) k13 b13 (ok_is_row F13 nb D_is_tuple D_is_worth)
  have F14 := fun_mk (st := s_table_names) l14 c14 k14
  have b14 := F14.binds (ps := ["tables"]) fun _ _ _ _ _ _ us hl => match us, hl with | [_], _ => rfl
  have D_table_names : Def l.prog w K mg base 1 "table_names" ["tables"] (spNamesOf K) := .mk (PySem.W.mg_of X G a14) k14 b14 (ok_table_names F14)
  have F15 := fun_mk (st := s_columns_of) l15 c15 k15
  have b15 := F15.binds (ps := ["tables", "table"]) fun _ _ _ _ _ _ us hl => match us, hl with | [_, _], _ => rfl
  have D_columns_of : Def l.prog w K mg base 1 "_columns_of" ["tables", "table"] (spColumnsOf K) := .mk (PySem.W.mg_of X G a15) k15 b15 (ok_columns_of F15)
  have F16 := fun_mk (st := s_column_names) l16 c16 k16
  have b16 := F16.binds (ps := ["tables", "table"]) fun _ _ _ _ _ _ us hl => match us, hl with | [_, _], _ => rfl
  have D_column_names : Def l.prog w K mg base 2 "column_names" ["tables", "table"] (spColNames K) := .mk (PySem.W.mg_of X G a16) k16 b16 (ok_column_names F16 D_columns_of)
  have F17 := fun_mk (st := s_law_deed) l17 c17 k17
  have b17 := F17.binds (ps := ["state", "tables", "content"]) fun _ _ _ _ _ _ us hl => match us, hl with | [_, _, _], _ => rfl
  have D_law_deed : Def l.prog w K mg base 4 "_law_deed" ["state", "tables", "content"] (spDeed K) := .mk (PySem.W.mg_of X G a17) k17 b17 (ok_deed F17 nb D_law_take D_law_some D_law_near)
  have F18 := fun_mk (st := s_is_cell) l18 c18 k18
  have b18 := F18.binds (ps := ["columns", "column", "worth"]) fun _ _ _ _ _ _ us hl => match us, hl with | [_, _, _], _ => rfl
  have D_is_cell : Def l.prog w K mg base 4 "_is_cell" ["columns", "column", "worth"] (spCell K) := .mk (PySem.W.mg_of X G a18) k18 b18 (ok_is_cell F18 D_is_bounded D_is_worth)
  have F19 := fun_mk (st := s_is_deed) l19 c19 k19
  have b19 := F19.binds (ps := ["tables", "thing"]) fun _ _ _ _ _ _ us hl => match us, hl with | [_, _], _ => rfl
  have D_is_deed : Def l.prog w K mg base 5 "is_deed" ["tables", "thing"] (spTs deedB K) := .mk (PySem.W.mg_of X G a19) k19 b19 (ok_is_deed F19 nb gl D_is_tuple D_is_bounded D_is_worth D_table_names D_column_names D_is_row D_is_cell)
  have F20 := fun_mk (st := s_law_is_worth) l20 c20 k20
  have b20 := F20.binds (ps := ["thing"]) fun _ _ _ _ _ _ us hl => match us, hl with | [_], _ => rfl
  have D_law_is_worth : Def l.prog w K mg base 1 "_law_is_worth" ["thing"] (spB worthB K) := .mk (PySem.W.mg_of X G a20) k20 b20 (ok_law_is_worth F20 nb)
  have F21 := fun_mk (st := s_law_is_row) l21 c21 k21
  have b21 := F21.binds (ps := ["columns", "row"]) fun _ _ _ _ _ _ us hl => match us, hl with | [_, _], _ => rfl
  have D_law_is_row : Def l.prog w K mg base 2 "_law_is_row" ["columns", "row"] (spLRow K) := .mk (PySem.W.mg_of X G a21) k21 b21 (ok_law_is_row F21 nb D_law_is_worth)
  have F22 := fun_mk (st := s_law_due) l22 c22 k22
  have b22 := F22.binds (ps := ["tables", "thing"]) fun _ _ _ _ _ _ us hl => match us, hl with | [_, _], _ => rfl
  have D_law_due : Def l.prog w K mg base 3 "_law_due" ["tables", "thing"] (spTs deedB K) := .mk (PySem.W.mg_of X G a22) k22 b22 (ok_law_due F22 nb D_law_is_worth D_law_is_row)
  have F23 := fun_mk (st := s_law_other) l23 c23 k23
  have b23 := F23.binds (ps := ["state", "thing", "names"]) fun _ _ _ _ _ _ us hl => match us, hl with | [_, _, _], _ => rfl
  have D_law_other : Def l.prog w K mg base 3 "_law_other" ["state", "thing", "names"] (spOther K) := .mk (PySem.W.mg_of X G a23) k23 b23 (ok_other F23 nb D_law_some)
  have F24 := fun_mk (st := s_law_bent) l24 c24 k24
  have b24 := F24.binds (ps := ["state", "thing", "names"]) fun _ _ _ _ _ _ us hl => match us, hl with | [_, _, _], _ => rfl
  have D_law_bent : Def l.prog w K mg base 10 "_law_bent" ["state", "thing", "names"] (spBent 7 K) := .mk (PySem.W.mg_of X G a24) k24 b24 (ok_bent F24 nb D_law_take D_law_other (PySem.W.mg_of X G a24) b24 7)
  have F25 := fun_mk (st := s_law_told_right) l25 c25 k25
  have b25 := F25.binds (ps := ["tables", "thing"]) fun _ _ _ _ _ _ us hl => match us, hl with | [_, _], _ => rfl
  have D_law_told_right : DefG l.prog w K mg base 6 "_law_told_right" ["tables", "thing"] (spTold K) := .mk (PySem.W.mg_of X G a25) k25 b25 (ok_law_told_right F25 nb D_is_deed D_law_due)
  have F26 := fun_mk (st := s_law) l26 c26 k26
  exact ok_law F26 nb D_law_begin D_law_take D_law_tables D_law_content D_law_deed D_law_due D_law_other D_law_bent D_law_told_right
end TT
open PySem PySem.W PyProof.Rows
set_option maxRecDepth 100000 in
set_option maxHeartbeats 0 in
theorem PySem.Challenge.cw_tiedtables_k06_what_deeds_are_holds : PySem.Challenge.rw_tiedtables_k06_what_deeds_are.Holds := by
  w_on; o_law; k_head; (case hw => w_witness2)
  k_fill
  refine TT.walk_ofG (l := PySem.Challenge.rw_tiedtables_k06_what_deeds_are) (n := 63) (k := 11) (x := "script") (sp := TT.spLaw) rfl (by decide) rfl ⟨rfl, by decide, by decide⟩ (fun w h Y => PySem.W.kIn_of Y) ?F (fun K H a ns hl hO hS => ⟨a, ns, rfl, hS, fun _ => rfl⟩)
  case F =>
    intro w mg fa h KX G hmg
    refine' TT.all_mk KX G hmg ?a1 ?l1 ?c1 ?k1 ?a2 ?l2 ?c2 ?k2 ?a3 ?l3 ?c3 ?k3 ?a4 ?l4 ?c4 ?k4 ?a5 ?l5 ?c5 ?k5 ?a6 ?l6 ?c6 ?k6 ?a7 ?l7 ?c7 ?k7 ?a8 ?l8 ?c8 ?k8 ?a9 ?l9 ?c9 ?k9 ?a10 ?l10 ?c10 ?k10 ?a11 ?l11 ?c11 ?k11 ?a12 ?l12 ?c12 ?k12 ?a13 ?l13 ?c13 ?k13 ?a14 ?l14 ?c14 ?k14 ?a15 ?l15 ?c15 ?k15 ?a16 ?l16 ?c16 ?k16 ?a17 ?l17 ?c17 ?k17 ?a18 ?l18 ?c18 ?k18 ?a19 ?l19 ?c19 ?k19 ?a20 ?l20 ?c20 ?k20 ?a21 ?l21 ?c21 ?k21 ?a22 ?l22 ?c22 ?k22 ?a23 ?l23 ?c23 ?k23 ?a24 ?l24 ?c24 ?k24 ?a25 ?l25 ?c25 ?k25 ?a26 ?l26 ?c26 ?k26 ?z_list ?z_len ?z_divmod ?z_range ?z_min ?z_int ?z_bool ?z_str ?z_tuple ?z_all ?z_any ?z_repr ?z_isinstance ?z_zip ?z_enumerate ?z_set ?z_sum ?z_sorted ?z_max ?g_MOST_NUMBER ?t_LENGTHS ?o_LENGTHS ?kl_LENGTHS ?sm_LENGTHS ?de_LENGTHS
    (case a1 => k_is)
    (case l1 => k_is)
    (case c1 => k_is)
    (case k1 => k_is)
    (case a2 => k_is)
    (case l2 => k_is)
    (case c2 => k_is)
    (case k2 => k_is)
    (case a3 => k_is)
    (case l3 => k_is)
    (case c3 => k_is)
    (case k3 => k_is)
    (case a4 => k_is)
    (case l4 => k_is)
    (case c4 => k_is)
    (case k4 => k_is)
    (case a5 => k_is)
    (case l5 => k_is)
    (case c5 => k_is)
    (case k5 => k_is)
    (case a6 => k_is)
    (case l6 => k_is)
    (case c6 => k_is)
    (case k6 => k_is)
    (case a7 => k_is)
    (case l7 => k_is)
    (case c7 => k_is)
    (case k7 => k_is)
    (case a8 => k_is)
    (case l8 => k_is)
    (case c8 => k_is)
    (case k8 => k_is)
    (case a9 => k_is)
    (case l9 => k_is)
    (case c9 => k_is)
    (case k9 => k_is)
    (case a10 => k_is)
    (case l10 => k_is)
    (case c10 => k_is)
    (case k10 => k_is)
    (case a11 => k_is)
    (case l11 => k_is)
    (case c11 => k_is)
    (case k11 => k_is)
    (case a12 => k_is)
    (case l12 => k_is)
    (case c12 => k_is)
    (case k12 => k_is)
    (case a13 => k_is)
    (case l13 => k_is)
    (case c13 => k_is)
    (case k13 => k_is)
    (case a14 => k_is)
    (case l14 => k_is)
    (case c14 => k_is)
    (case k14 => k_is)
    (case a15 => k_is)
    (case l15 => k_is)
    (case c15 => k_is)
    (case k15 => k_is)
    (case a16 => k_is)
    (case l16 => k_is)
    (case c16 => k_is)
    (case k16 => k_is)
    (case a17 => k_is)
    (case l17 => k_is)
    (case c17 => k_is)
    (case k17 => k_is)
    (case a18 => k_is)
    (case l18 => k_is)
    (case c18 => k_is)
    (case k18 => k_is)
    (case a19 => k_is)
    (case l19 => k_is)
    (case c19 => k_is)
    (case k19 => k_is)
    (case a20 => k_is)
    (case l20 => k_is)
    (case c20 => k_is)
    (case k20 => k_is)
    (case a21 => k_is)
    (case l21 => k_is)
    (case c21 => k_is)
    (case k21 => k_is)
    (case a22 => k_is)
    (case l22 => k_is)
    (case c22 => k_is)
    (case k22 => k_is)
    (case a23 => k_is)
    (case l23 => k_is)
    (case c23 => k_is)
    (case k23 => k_is)
    (case a24 => k_is)
    (case l24 => k_is)
    (case c24 => k_is)
    (case k24 => k_is)
    (case a25 => k_is)
    (case l25 => k_is)
    (case c25 => k_is)
    (case k25 => k_is)
    (case a26 => k_is)
    (case l26 => k_is)
    (case c26 => k_is)
    (case k26 => k_is)
    (case z_list => k_is)
    (case z_len => k_is)
    (case z_divmod => k_is)
    (case z_range => k_is)
    (case z_min => k_is)
    (case z_int => k_is)
    (case z_bool => k_is)
    (case z_str => k_is)
    (case z_tuple => k_is)
    (case z_all => k_is)
    (case z_any => k_is)
    (case z_repr => k_is)
    (case z_isinstance => k_is)
    (case z_zip => k_is)
    (case z_enumerate => k_is)
    (case z_set => k_is)
    (case z_sum => k_is)
    (case z_sorted => k_is)
    (case z_max => k_is)
    (case g_MOST_NUMBER => exact ⟨_, by k_is⟩)
    (case t_LENGTHS => k_is)
    (case o_LENGTHS => k_is)
    (case kl_LENGTHS => exact ⟨⟨_, _, rfl, rfl⟩, ⟨⟨_, _, rfl, rfl⟩, ⟨⟨_, _, rfl, rfl⟩, ⟨⟨_, _, rfl, rfl⟩, ⟨⟨_, _, rfl, rfl⟩, trivial⟩⟩⟩⟩⟩)
    (case sm_LENGTHS => rfl)
    (case de_LENGTHS => exact .cons ⟨_, rfl⟩ ⟨_, rfl⟩ (.cons ⟨_, rfl⟩ ⟨_, rfl⟩ (.cons ⟨_, rfl⟩ ⟨_, rfl⟩ (.cons ⟨_, rfl⟩ ⟨_, rfl⟩ (.cons ⟨_, rfl⟩ ⟨_, rfl⟩ (.nil))))))
