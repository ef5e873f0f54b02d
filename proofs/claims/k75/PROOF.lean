import PyProof.Rows.All
import Wide.All
import OpenK.AllK
import Wide.FinOn
import HandS.ForMost
import HandS.Exc
import HandS.Defaults
import HandS.HeadEnd
import HandS.ExcInit
import HandS.NoneIn
import HandS.Steps
import PyProof.ReprRoads
import HandS.IsInst
import HandS.Star
import HandS.RevTup
import HandS.TupMul
import HandS.TupLen
import HandS.TupAny
import HandS.Deep
import HandS.Conv
import KE.KeyNested
import KE.KDictKeyed
import HandS.Nested
import HandS.Strs
import HandS.SetFor
import HandS.Style
import HandS.Iter
import KE.KUnpackStar
import KE.GoesMore
import PyProof.EnumMake
import HandS.HeadHook3
import HandS.Zip
import HandS.NestedK
import KE.KLam
import HandS.Lambda
import KE.KDictDisplayH
import PyProof.Walks
import HandS.Dict
import HandS.RevRange
import HandS.EndTab
import KE.DataFind
import KE.KTupSum
import KE.DataMinKey
import KE.DataMinMax
import KE.SortData
import HandS.Head0
import HandS.Head1
import HandS.Head2
import HandS.HeadHook1
import HandS.HeadHook2
import HandS.HeadHook4
import KE.KStateDown
import PySem.Challenge.RW_missbounds_k75_weights
set_option Elab.async false
set_option linter.all false
set_option maxRecDepth 100000
set_option maxHeartbeats 4000000
/-! Defs called where no repr runs around; repr of data. -/
namespace GX
open PySem PySem.Spec PyProof.Rows L2

/-! ### defs that are called where no repr runs around -/
abbrev Gd (A : Around) : Prop := A.guards = some []

structure FnG (P : Program) (w : World) (K : PySem.W.Frag) (mg : Str → Option Value) (base : Heap) (k : Nat) (f : Addr) (fd : FuncData) (ps : List Str) (sp : Sp) : Prop where
  len : ∀ vs H Q E, sp vs H Q E → vs.length = ps.length
  go : ∀ (A : Around) (outer : List Env) (s : Shared) (H : Hp) (args : Args) (us : List Value) (vs : List V) (Q : VK) (E : XK), Gd A → Room k A →
    Env0 P w K mg base A outer s H → BindsTo s fd args (ps.zip us) → Vals vs us → sp vs H Q E →
    codeAny (model P w) A (.call (.ref f) args) (CR CX0 outer P w H s Q E) s

section
variable {P : Program} {w : World} {K : PySem.W.Frag} {mg : Str → Option Value} {base : Heap} {k : Nat} {f : Addr} {fd : FuncData} {ps : List Str} {sp : Sp}

theorem FnG.of (F : FnOk P w K mg base CX0 k f fd ps sp) : FnG P w K mg base k f fd ps sp :=
  ⟨F.len, fun A outer s H args us vs Q E _ hr he hb hv hs => F.run A outer s H args us vs Q E hr he hb hv hs⟩

theorem FnG.mono {j : Nat} (F : FnG P w K mg base j f fd ps sp) (h : j ≤ k) : FnG P w K mg base k f fd ps sp :=
  ⟨F.len, fun A outer s H args us vs Q E g hr he hb hv hs => F.go A outer s H args us vs Q E g (hr.mono h) he hb hv hs⟩

/-- a def by its body, which knows its code object -/
theorem okGc {x qual : Str} {pa : Arguments} {bd : List Stmt} {sc : Scope} {dvs : List V} {kws : List (Str × V)} {N : List Str}
    (F : FunD K x qual pa bd sc dvs kws f fd) (S : FnScope N ps sc) (len : ∀ vs H Q E, sp vs H Q E → vs.length = ps.length)
    (body : ∀ (cdw : Value), fd.code = cdw → ∀ (A : Around) (outer : List Env) (s : Shared) (H : Hp) (vs : List V) (Q : VK) (E : XK),
      Gd (A.deeper (envOfC qual sc s.heap.objs.size f cdw)) → Room k (A.deeper (envOfC qual sc s.heap.objs.size f cdw)) → sp vs H Q E →
      ∃ t, PSs (cxOf CX0 P w K mg base N qual sc f cdw A outer s H E).nox bd t ∧ t { nx := fun _ H' => Q .non H', rt := Q } (start N vs) H) :
    FnG P w K mg base (k + 1) f fd ps sp := by
  obtain ⟨oc, od, dV, kV, doc, pm, an, cdw, ct, slo, rfl, at_, isCode, _, _⟩ := F.ex
  constructor
  · exact len
  intro A outer s H args us vs Q E hG hR e0 hb rv hs
  have hlen := len _ _ _ _ hs
  have kin : K.In s.heap := e0.mod.kin.keeps fun b o z => (e0.bs b o z).1
  have nol : s.heap.NoLimit := e0.mod.nolimit.keeps fun b o z => (e0.bs b o z).1
  have kinds : ∀ y ∈ ps.zip us, sc.names.lookup y.1 = some .local ∨ (sc.names.lookup y.1 = some .cell ∧ ((cellsFrom (s.heap.objs.size + 1) sc.names []).lookup y.1).isSome = true) := by
    rintro ⟨n, v⟩ hy
    rcases S.par n (List.of_mem_zip hy).1 with z | z
    · exact Or.inl z
    · exact Or.inr ⟨z, PySem.W.cellsFrom_some _ _ _ (.inl z)⟩
  refine codeAny_call_function (Room.depth hR) (kin _ _ at_) rfl S.co S.gen rfl (PySem.W.codeRec_of kin isCode) (hb _ _ _ _ (wpAny_newFunctionEnv_cells S.kind kinds ?_))
  intro env henv s1 x
  subst henv
  refine ⟨nol.keeps x.toInCall.keep, codeAny_func ?_⟩
  obtain ⟨t, ht, hq⟩ := body cdw rfl A outer s H vs Q E (by exact hG) (hR.deeper _) hs
  have I := inv_start (CX := CX0) (P := P) (w := w) (K := K) (mg := mg) (base := base) (E := E) S hR.hd e0 hlen rv x
  have done : ∀ {σ' : L2.St} {H' : Hp} {v : V} {u : Value} {s' : Shared}, Inv (cxOf CX0 P w K mg base N qual sc f cdw A outer s H E) [] σ' H' s' → RelV v u → Q v H' → CE outer P w H s Q u s' :=
    fun {_ H' v _ _} J r q => ⟨v, H', J.os, J.bare, J.base, J.hok, r, q⟩
  refine wpAny_mono (ht.nox.run [] s1 (start N vs) H _ I hq) ?_ (fun _ _ z => z)
  intro fl s' hfl
  cases fl with
  | ret u => obtain ⟨v, σ', H', J, r, q⟩ := hfl; exact done J r q
  | next => obtain ⟨σ', H', J, q⟩ := hfl; exact done (v := V.non) (u := Value.none) J rfl q
  | brk => obtain ⟨_, _, _, q⟩ := hfl; exact q.elim
  | cont => obtain ⟨_, _, _, q⟩ := hfl; exact q.elim
/-- a def by its body -/
theorem okG {x qual : Str} {pa : Arguments} {bd : List Stmt} {sc : Scope} {dvs : List V} {kws : List (Str × V)} {N : List Str}
    (F : FunD K x qual pa bd sc dvs kws f fd) (S : FnScope N ps sc) (len : ∀ vs H Q E, sp vs H Q E → vs.length = ps.length)
    (body : ∀ (cdw : Value) (A : Around) (outer : List Env) (s : Shared) (H : Hp) (vs : List V) (Q : VK) (E : XK),
      Gd (A.deeper (envOfC qual sc s.heap.objs.size f cdw)) → Room k (A.deeper (envOfC qual sc s.heap.objs.size f cdw)) → sp vs H Q E →
      ∃ t, PSs (cxOf CX0 P w K mg base N qual sc f cdw A outer s H E).nox bd t ∧ t { nx := fun _ H' => Q .non H', rt := Q } (start N vs) H) :
    FnG P w K mg base (k + 1) f fd ps sp :=
  okGc F S len fun cdw _ => body cdw

end

section
variable {X : Cx} {k : Nat} {f : Addr} {fd : FuncData} {ps : List Str} {sp : Sp} {x : Str} {p pos : Pos} {e : Expr} {es : List Expr} {t : TA}
theorem runG {pins : List (Addr × Obj)} {σ : L2.St} {H : Hp} {s : Shared} {Q : VK} {us : List Value} {vs : List V}
    (F : FnG X.prog X.w X.K X.mg X.base k f fd ps sp) (hG : Gd X.A) (hR : Room k X.A) (hb : Binds X.K fd ps []) (I : Inv X pins σ H s) (r : Vals vs us) (h : sp vs H Q E0) :
    wpAny (model X.prog X.w) X.A (call (.ref f) us)
      (EP X pins σ Q) X.xe s := by
  have hl : (us ++ ([] : List Value)).length = ps.length := by
    rw [List.append_nil, ← r.length]
    exact F.len _ _ _ _ h
  have hbb := hb s us I.kIn hl
  rw [List.append_nil] at hbb
  apply wpAny_call
  refine codeAny_mono (F.go X.A X.stack s H ⟨us, []⟩ us vs Q E0 hG hR I.env0 hbb r h) ?_
  intro res s' z
  cases res with
  | error er => exact False.elim z
  | ok fl => cases fl with
    | ret u => exact I.after z
    | next => exact z.elim
    | brk => exact z.elim
    | cont => exact z.elim
/-- f(e, ..) -/
theorem pe_callG (F : FnG X.prog X.w X.K X.mg X.base k f fd ps sp) (hG : Gd X.A) (hR : Room k X.A) (hg : Gl X x) (hm : X.mg x = some (.ref f)) (hk : PySem.W.keepIn X.K (.ref f) = true) (hb : Binds X.K fd ps [])
    (ha : PA X (e :: es) t)
    (hdb : (x == ("__debug__" : Str)) = false := by decide)
    (he : starEach (e :: es) X.env = (false, eval e X.env) :: starEach es X.env := by rfl) (hpl : (backTo pos (starEach es X.env)).any (·.1) = false := by rfl) :
    PE X (.Call (.Name x p) (e :: es) [] pos) (tCall sp [] E0 t) := by
  constructor
  intro pins s σ H Q I h
  apply wpAny_Call_Name_kw
  refine ld_glob I hg hm (PySem.W.callWith_K (h₀ := X.base) I.ok.mod.kin hk (thn (ha.run pos pins s σ H _ I h) ?_) he hpl) hdb
  rintro us s1 ⟨vs, H1, I1, r, q⟩
  exact ⟨I1.kIn, runG F hG hR hb I1 r (by rw [List.append_nil] at q; exact q)⟩
end

/-! ### repr of data -/
mutual
inductive Dd (K : PySem.W.Frag) (H : Hp) : V → PyData → Prop
  | non : Dd K H .non .none
  | bl (b : Bool) : Dd K H (.bl b) (.bool b)
  | int (i : Int) : Dd K H (.int i) (.int i)
  | str (x : Str) : Dd K H (.str x) (.str x)
  | lst {a : Addr} {xs : List V} {ds : List PyData} : a ≠ sysModules → SqL K H a xs → DdA K H xs ds → Dd K H (.ref a) (.list ds)
  | tup {a : Addr} {xs : List V} {ds : List PyData} : SqT K H a xs → DdA K H xs ds → Dd K H (.ref a) (.tuple ds)
  | dic {a : Addr} : H a = some (.dK []) → Dd K H (.ref a) (.dict [])
inductive DdA (K : PySem.W.Frag) (H : Hp) : List V → List PyData → Prop
  | nil : DdA K H [] []
  | cons {v : V} {vs : List V} {d : PyData} {ds : List PyData} : Dd K H v d → DdA K H vs ds → DdA K H (v :: vs) (d :: ds)
end
theorem sqT_same {K : PySem.W.Frag} {H H' : Hp} {a : Addr} {xs : List V} (e : Same H H') (h : SqT K H a xs) : SqT K H' a xs := by
  rcases h with (h | ⟨o, h⟩) | h
  · exact .inl (.inl (e _ _ h))
  · exact .inl (.inr ⟨o, e _ _ h⟩)
  · exact .inr h
mutual
theorem Dd.same {K : PySem.W.Frag} {H H' : Hp} (e : Same H H') : ∀ (d : PyData) (v : V), Dd K H v d → Dd K H' v d
  | .none, _, h => by cases h; exact .non
  | .bool _, _, h => by cases h; exact .bl _
  | .int _, _, h => by cases h; exact .int _
  | .str _, _, h => by cases h; exact .str _
  | .list ds, _, h => by cases h with | lst hne hs ha => exact .lst hne (e.seq hs) (DdA.same e ds _ ha)
  | .tuple ds, _, h => by cases h with | tup hs ha => exact .tup (sqT_same e hs) (DdA.same e ds _ ha)
  | .dict _, _, h => by cases h with | dic hd => exact .dic (e _ _ hd)
theorem DdA.same {K : PySem.W.Frag} {H H' : Hp} (e : Same H H') : ∀ (ds : List PyData) (vs : List V), DdA K H vs ds → DdA K H' vs ds
  | [], _, h => by cases h; exact .nil
  | d :: ds, _, h => by cases h with | cons h1 h2 => exact .cons (Dd.same e d _ h1) (DdA.same e ds _ h2)
end
section
variable {X : Cx} {s : Shared} {H : Hp} {σ : L2.St} {pins : List (Addr × Obj)}
theorem dK_nil {a : Addr} (I : Inv X pins σ H s) (h : H a = some (.dK [])) : ∃ (o : Obj) (n : Nat), s.heap.get? a = some o ∧ o.cls = .type "dict" ∧ o.data = .dict #[] n ∧ a ≠ sysModules := by
  obtain ⟨_, hs, vs, kv, o, es, ep, ho, hx, hd, _, hl, _⟩ := I.hok a _ h
  cases kv
  have e0 : es = #[] := by
    obtain ⟨l⟩ := es
    cases hl
    rfl
  subst e0
  exact ⟨o, ep, ho, hx.1, hd, by simpa using hs⟩
mutual
theorem Dd.reads (I : Inv X pins σ H s) : ∀ (d : PyData) (v : V) (u : Value), Dd X.K H v d → RelV v u → ∃ as, Reads s.heap u d as ∧ sysModules ∉ as
  | .none, _, _, h, r => by cases h; cases r; exact ⟨_, .none, fun z => nomatch z⟩
  | .bool b, _, _, h, r => by cases h; cases r; exact ⟨_, .bool b, fun z => nomatch z⟩
  | .int i, _, _, h, r => by cases h; obtain ⟨t, rfl⟩ := r; exact ⟨_, .int i t, fun z => nomatch z⟩
  | .str x, _, _, h, r => by cases h; obtain ⟨t, rfl⟩ := r; exact ⟨_, .str x t, fun z => nomatch z⟩
  | .list ds, _, _, h, r => by
    cases h with
    | lst hne hs ha =>
      cases r
      obtain ⟨its, rv, ⟨o, n, ho, hc, _, hd⟩, _⟩ := I.list hs
      obtain ⟨as, hr, hz⟩ := DdA.reads I ds _ its ha rv
      refine ⟨_, .list ho hc hd hr, fun z => ?_⟩
      rcases List.mem_cons.mp z with y | y
      · exact hne y.symm
      · exact hz y
  | .tuple ds, _, _, h, r => by
    cases h with
    | tup hs ha =>
      cases r
      obtain ⟨its, rv, ⟨o, ho, hc, n, hd⟩, _⟩ := I.tuple hs
      obtain ⟨as, hr, hz⟩ := DdA.reads I ds _ its ha rv
      exact ⟨_, .tuple ho hc hd hr, hz⟩
  | .dict kvs, _, _, h, r => by
    cases h with
    | dic hd0 =>
      cases r
      obtain ⟨o, n, ho, hc, hd, hne⟩ := dK_nil I hd0
      exact ⟨_, .dict (kvs := []) ho hc hd .nil .nil, fun z => by simp at z; exact hne z.symm⟩
theorem DdA.reads (I : Inv X pins σ H s) : ∀ (ds : List PyData) (vs : List V) (us : List Value), DdA X.K H vs ds → Vals vs us → ∃ as, ReadsAll s.heap us ds as ∧ sysModules ∉ as
  | [], _, _, h, r => by cases h; cases r; exact ⟨_, .nil, fun z => nomatch z⟩
  | d :: ds, _, _, h, r => by
    cases h with
    | cons h1 h2 =>
      cases r with
      | cons r1 r2 =>
        obtain ⟨as, q1, z1⟩ := Dd.reads I d _ _ h1 r1
        obtain ⟨bs, q2, z2⟩ := DdA.reads I ds _ _ h2 r2
        refine ⟨_, .cons q1 q2, fun hm => ?_⟩
        rcases List.mem_append.mp hm with y | y
        · exact z1 y
        · exact z2 y
end
/-- repr of a list that is not empty -/
def rReprL (K : PySem.W.Frag) : List V → Hp → VK → Prop := fun xs H Q => ∃ (p : Addr) (vs : List V) (ds : List PyData), xs = [.ref p] ∧ vs ≠ [] ∧ SqL K H p vs ∧ DdA K H vs ds ∧
  PyData.showableAll ds = true ∧ PyData.depthAll ds ≤ 60 ∧ (listText (PyData.shownAll ds)).length ≤ sizeLine ∧ Q (.str (listText (PyData.shownAll ds))) H
theorem call_reprL (hG : Gd X.A) (hu : X.A.units + 64 < cLine) : CallR X (.builtin "repr") (rReprL X.K) := by
  intro pins s σ H xs us Q I r h
  obtain ⟨p, vs, ds, rfl, hne, hs, ha, hsh, hdep, hz, q⟩ := h
  cases r with
  | cons r1 r2 =>
    cases r2
    cases r1
    obtain ⟨its, rv, ⟨o, n, ho, hc, _, hd⟩, _⟩ := I.list hs
    obtain ⟨as, hr, hn⟩ := DdA.reads I ds _ its ha rv
    cases its with
    | nil => cases rv; exact (hne rfl).elim
    | cons y l =>
      have hrl : ReadsAll s.heap (y :: l).toArray.toList ds as := by simpa using hr
      obtain ⟨bs, hb, hk⟩ := ReprAllK.of_readsAll (prog := X.prog) (w := X.w) hr hsh (fun _ => hn) (fun t ht => Nat.le_trans (listText_mem_le ht) hz)
      have hna : p ∉ bs := not_mem_of_deeper (Reads.list ho hc hd hrl) (n := PyData.depthAll ds) (by simp only [PyData.depth]; omega) hb
      refine call_repr_slot (T := "list") (idr := "list.__repr__") (by omega) ⟨o, ho, hc⟩ F.slot_list_repr.toG ?_
      refine call_list_reprK (A := X.A.in1) (d := PyData.depthAll ds) ho hc hd hna (by simpa using hk.length_eq) (fun i z e => hk.item i z (by simpa using e)) hG (fun b _ => Clear.nil b) (by show X.A.units + 1 + (PyData.depthAll ds + 1) < cLine; omega) (fun _ _ e => e) (fun h' u tk hkeep => ?_) hz
      exact ⟨_, _, rfl, .str _, H, I.kept (t' := tk) hkeep, ⟨_, rfl⟩, q⟩
end
section
variable {X : Cx} {es : List Expr} {t : TA} {pos : Pos}
/-- a display: the new list is not sys.modules -/
def tLstN (t : TA) : TE := fun σ H Q => t σ H fun xs H1 => xs.length ≤ sizeLine ∧ ∀ p, H1 p = none → p ≠ sysModules → Q (.ref p) (upd H1 p (.lst xs))
theorem pe_lstN (h : PA X es t) : PE X (.List es pos) (tLstN t) := by
  constructor
  intro pins s σ H Q I hq
  apply wpAny_List_spliced
  refine thn (h.run pos pins s σ H _ I hq) ?_
  rintro us s1 ⟨xs, H1, I1, r, z, q⟩
  have hn : H1 s1.heap.objs.size = none := I1.hok.fresh (Nat.le_refl _)
  have big : mainGlobals < s1.heap.objs.size := Nat.lt_of_lt_of_le (Nat.lt_of_lt_of_le I1.mod.glob.lt I1.ok.bsz) I1.sz
  have ne : s1.heap.objs.size ≠ sysModules := fun e => by
    rw [e] at big
    exact absurd big (by decide)
  refine ⟨by rw [← r.length]; exact z, .ref s1.heap.objs.size, upd H1 s1.heap.objs.size (.lst xs), I1.laid (t' := s1.toks) (fun b u e => Heap.get?_push_of_some _ e) (Nat.le_refl _) ?_, rfl, q _ hn ne⟩
  exact ⟨z, us, 0, r, Heap.get?_push_size _ rfl⟩
end
end GX

set_option Elab.async false
set_option linter.all false
set_option maxRecDepth 100000
set_option maxHeartbeats 4000000
/-! Tuples whose object is known to have no dict of its own: where they are made. -/
namespace DL
open PySem PySem.Spec PyProof.Rows L2 GX StX
/-- a tuple is read there, and it has no attributes -/
def TpN (K : PySem.W.Frag) (H : Hp) (a : Addr) (xs : List V) : Prop :=
  (∃ o : Obj, H a = some (.frz o (.tup xs)) ∧ o.dict = none) ∨
    ∃ (ob : Obj) (its : Array Value) (m : Nat), K.lookup a = some ob ∧ ob.cls = .type "tuple" ∧ ob.dict = none ∧ ob.data = .seq its m ∧ its.size ≤ sizeLine ∧ Vals xs its.toList
theorem TpN.sq {K : PySem.W.Frag} {H : Hp} {a : Addr} {xs : List V} (h : TpN K H a xs) : SqT K H a xs := by
  rcases h with ⟨o, h, _⟩ | ⟨o, its, m, h1, h2, _, h4, h5, h6⟩
  · exact .inl (.inr ⟨o, h⟩)
  · exact .inr ⟨o, its, m, h1, h2, h4, h5, h6⟩
theorem TpN.same {K : PySem.W.Frag} {H H' : Hp} {a : Addr} {xs : List V} (h : TpN K H a xs) (e : Same H H') : TpN K H' a xs := by
  rcases h with ⟨o, h, d⟩ | h
  · exact .inl ⟨o, e _ _ h, d⟩
  · exact .inr h
section
variable {X : Cx} {pins : List (Addr × Obj)} {σ : L2.St} {H : Hp} {s : Shared}
/-- what is wanted of a new tuple -/
def NewT (H : Hp) (xs : List V) (Q : VK) : Prop := ∀ (p : Addr) (o : Obj), H p = none → o.dict = none → Q (.ref p) (upd H p (.frz o (.tup xs)))
theorem laidT {xs : List V} {us : List Value} {Q : VK} {t' : Nat} (I : Inv X pins σ H s) (rv : Vals xs us) (z : xs.length ≤ sizeLine) (q : NewT H xs Q) :
    EP X pins σ Q (.ref s.heap.objs.size) { s with heap := s.heap.push { cls := .type "tuple", data := .seq us.toArray }, toks := t' } := by
  have there := Heap.get?_push_size s.heap (o := { cls := .type "tuple", data := .seq us.toArray }) rfl
  refine ⟨.ref s.heap.objs.size, upd H s.heap.objs.size (.frz { cls := .type "tuple", data := .seq us.toArray } (.tup xs)), ?_, rfl, q _ _ (I.hok.fresh (Nat.le_refl _)) rfl⟩
  exact I.laid (fun b o e => Heap.get?_push_of_some _ e) (Nat.le_refl _) ⟨there, z, us, rv, ⟨_, there, rfl, 0, rfl⟩⟩
/-! ### a display -/
def tTupN (t : TA) : TE := fun σ H Q => t σ H fun xs H1 => xs.length ≤ sizeLine ∧ NewT H1 xs Q
theorem pe_tupN {es : List Expr} {t : TA} {x1 : Nat} {pos : Pos} (h : PA X es t) : PE X (.Tuple es x1 pos) (tTupN t) := by
  constructor
  intro pins s σ H Q I hq
  apply wpAny_Tuple_spliced
  refine thn (h.run pos pins s σ H _ I hq) ?_
  rintro us s1 ⟨xs, H1, I1, r, z, q⟩
  exact ⟨by rw [← r.length]; exact z, laidT (t' := s1.toks) I1 r z q⟩
/-! ### t + u -/
def rCatN (K : PySem.W.Frag) : R2 := fun x y H Q => ∃ a b xs ys, x = .ref a ∧ y = .ref b ∧ SqT K H a xs ∧ SqT K H b ys ∧ xs.length + ys.length ≤ sizeLine ∧
  (xs = [] → Q (.ref b) H) ∧ (xs ≠ [] → ys = [] → Q (.ref a) H) ∧ (xs ≠ [] → ys ≠ [] → NewT H (xs ++ ys) Q)
theorem op_catN : OpR X (binaryOp .Add) (rCatN X.K) := by
  intro pins s σ H x y v u Q I rx ry h
  obtain ⟨a, b, xs, ys, e1, e2, ha, hb, hz, q0, q1, q2⟩ := h
  subst e1 e2
  obtain rfl : v = Value.ref a := rx
  obtain rfl : u = Value.ref b := ry
  obtain ⟨ia, ra, pa, _⟩ := I.tuple ha
  obtain ⟨ib, rb, pb, _⟩ := I.tuple hb
  by_cases hx : xs = []
  · subst hx
    cases ra
    exact cat_tup0 pa pb ⟨.ref b, H, I, rfl, q0 rfl⟩
  · have la := ra.length
    have lb := rb.length
    refine HT.cat_tup pa pb (fun w => hx (ra.nil_iff.mp w)) (fun w => ⟨.ref a, H, I, rfl, q1 hx (rb.nil_iff.mp w)⟩) (fun w => ?_) (by omega)
    exact laidT (t' := s.toks) I (ra.append rb) (by rw [List.length_append]; exact hz) (q2 hx fun w2 => w (rb.nil_iff.mpr w2))
/-! ### t[lo:hi] -/
def rSlN (K : PySem.W.Frag) : V → Option Int → Option Int → Hp → VK → Prop := fun x lo hi H Q => ∃ a xs, x = .ref a ∧ SqT K H a xs ∧
  ((HT.sIx xs.length 0 lo = 0 ∧ HT.sIx xs.length xs.length hi = xs.length → Q (.ref a) H) ∧ (¬ (HT.sIx xs.length 0 lo = 0 ∧ HT.sIx xs.length xs.length hi = xs.length) → NewT H (cutV xs lo hi) Q))
theorem sl_N : SlR X (rSlN X.K) := by
  intro pins s σ H x v vl vu lo hi sl Q I rx hs pl pu h
  obtain ⟨a, xs, e1, hx, q1, q2⟩ := h
  subst e1
  obtain rfl : v = Value.ref a := rx
  obtain ⟨ia, ra, ta, za⟩ := I.tuple hx
  have la : ia.toArray.size = xs.length := by rw [List.size_toArray]; exact ra.length.symm
  refine ⟨"tuple", _, PyProof.Rows.slot_tuple_getitem.lookup, ta.typeIs, ?_⟩
  by_cases hw : HT.sIx xs.length 0 lo = 0 ∧ HT.sIx xs.length xs.length hi = xs.length
  · exact getItem_tuple_whole ta hs pl pu (by rw [la]; exact hw) ⟨.ref a, H, I, rfl, q1 hw⟩
  · refine HT.getItem_tuple_cut ta hs pl pu (by rw [la]; exact hw) ?_ (by rw [la]; exact za)
    rw [la]
    have rc : Vals (cutV xs lo hi) ((ia.drop (HT.sIx xs.length 0 lo)).take (HT.sIx xs.length xs.length hi - HT.sIx xs.length 0 lo)) := (ra.drop _).take _
    exact laidT (t' := s.toks) I rc (Nat.le_trans (cutV_length xs lo hi) za) (q2 hw)
/-! ### tuple(x) -/
def rTupN (K : PySem.W.Frag) : List V → Hp → VK → Prop := fun vs H Q => ∃ p ys, vs = [.ref p] ∧ ((SqL K H p ys ∧ NewT H ys Q) ∨ (SqT K H p ys ∧ Q (.ref p) H))
theorem call_tupN : CallR X (.type "tuple") (rTupN X.K) := by
  intro pins s σ H xs us Q I r h
  obtain ⟨p, ys, e1, h⟩ := h
  subst e1
  obtain ⟨u, rfl, ru⟩ := r.one
  obtain rfl : u = Value.ref p := ru
  rcases h with ⟨hs, q⟩ | ⟨hs, q⟩
  · obtain ⟨ia, ra, la, za⟩ := I.list hs
    refine call_tuple_list la.isList (fun h' hk => ?_) (by rw [List.size_toArray, ← ra.length]; exact za)
    exact laidT (t' := s.toks) (I.kept (t' := s.toks) hk) ra za q
  · obtain ⟨ia, ra, ta, za⟩ := I.tuple hs
    exact call_tuple_tup ta ⟨.ref p, H, I, rfl, q⟩
/-! ### divmod -/
def rDmN : List V → Hp → VK → Prop := fun vs H Q => ∃ i j, vs = [.int i, .int j] ∧ CDiv i j ∧ NewT H [.int (i / j), .int (i % j)] Q
theorem call_dmN : CallR X (.builtin "divmod") rDmN := by
  intro pins s σ H xs us Q I r h
  obtain ⟨i, j, e1, hc, q⟩ := h
  subst e1
  obtain ⟨u, w', rfl, ⟨t, rfl⟩, ⟨t', rfl⟩⟩ := vals2 r
  have j0 := hc.1
  have j1 := hc.2
  refine divmod_int (by omega) ?_ (.inl (PyProof.noPylong_small (by omega)))
  rw [Int.fdiv_eq_ediv_of_nonneg i (by omega), Int.fmod_eq_emod_of_nonneg i (by omega)]
  exact laidT (xs := [.int (i / j), .int (i % j)]) (us := [.int (i / j) s.toks, .int (i % j) (s.toks + 1)]) I (.cons ⟨_, rfl⟩ (.cons ⟨_, rfl⟩ .nil)) (by simp only [List.length_cons, List.length_nil]; rw [sizeLine_eq]; decide) q
/-! ### tuple(range(..)) -/
def tTupRgN (te : L2.St → Hp → (Int → Int → Hp → Prop) → Prop) : TE := fun σ H Q => te σ H fun a b H1 => RgOk a b ∧ NewT H1 (rgV a b) Q
theorem pe_tupRgN {e : Expr} {te : L2.St → Hp → (Int → Int → Hp → Prop) → Prop} {p pos : Pos} (hc : X.calm = true) (hg : Gl X "tuple") (hm : X.mg "tuple" = none) (he : PRg X e te) (na : starEach [e] X.env = (false, eval e X.env) :: starEach [] X.env := by rfl) :
    PE X (.Call (.Name "tuple" p) [e] [] pos) (tTupRgN te) := by
  constructor
  intro pins s σ H Q I h
  refine Call_ (ld_blt I hg hm boot_tuple (PyProof.Rows.callWith_type1 (args_cons (thn (he pins s σ H _ I h) ?_) na) na))
  rintro x s1 ⟨r, a, b, t, u, v, H1, ex, hr, I1, ok, q⟩
  subst ex
  refine args_nil ?_
  obtain ⟨b1, b2, b3, b4, b5⟩ := ok
  refine call_tuple_range (n := (b - a).toNat) (I1.ok.hd hc) hr (small_one b1 b2 b3 b4) (rangeSize_nat a b) b5 fun h' tk acc hk hi => ?_
  have I2 : Inv X pins σ H1 { s1 with heap := h', toks := tk } := I1.kept hk
  have fin := laidT (t' := tk) (Q := Q) I2 (vals_rg hi) (by rw [rgV_length, sizeLine_eq]; omega) q
  rw [Array.toArray_toList] at fin
  exact fin
end
/-! ### t * k -/
theorem mulN_wp {M : Nat} (l : Addr) (its : List Value) (n : Nat) (dd : Option Addr) (sl : Array (Option Value)) (k : Int) (t : Tok) (prog : Program) (w : World) (A : Around) (E : Value → Shared → Prop) (s : Shared) (Q : Value → Shared → Prop)
    (ho : s.heap.get? l = some { cls := .type "tuple", dict := dd, data := .seq its.toArray n, slots := sl }) (hn : its ≠ []) (h1 : 2 ≤ k) (h2 : k ≤ 2000) (hz : its.length ≤ 500)
    (hQ : Q (.ref s.heap.objs.size) { s with heap := s.heap.push { cls := .type "tuple", data := .seq (List.replicate k.toNat its).flatten.toArray } }) : wpAny (model prog w) A (binaryOp .Mult (.ref l) (.int k t)) Q E s := by
  have emp : its.toArray.isEmpty = false := by
    cases its with
    | nil => exact (hn rfl).elim
    | cons _ _ => rfl
  have room : k.toNat * its.length ≤ 2000 * 500 := Nat.mul_le_mul (by omega) hz
  have many : ((its.toArray.size : Nat) : Int) * k ≤ 1000000 := by
    rw [List.size_toArray]
    have := Int.mul_le_mul_of_nonneg_right (a := ((its.length : Nat) : Int)) (b := 500) (c := k) (by omega) (by omega)
    omega
  have fits : (List.replicate k.toNat its).flatten.length ≤ sizeLine := by
    rw [PyProof.Rows.lm_len_rep_flat, sizeLine_eq]; omega
  have g0 : (decide (k < -(2 ^ 63)) || decide (k ≥ 2 ^ 63)) = false := by
    rw [decide_eq_false (by omega : ¬ k < -(2 ^ 63)), decide_eq_false (by omega : ¬ k ≥ 2 ^ 63)]
    rfl
  have g1 : (its.toArray.isEmpty || k == 1) = false := by
    rw [emp, Bool.false_or, beq_eq_false_iff_ne]
    omega
  have g2 : (decide (k ≤ 0) || its.toArray.isEmpty) = false := by
    rw [emp, Bool.or_false, decide_eq_false (by omega : ¬ k ≤ 0)]
  have g4 : Builtin.Tuple.tupleTooMany (((its.toArray.size : Nat) : Int) * k) = false := by
    unfold Builtin.Tuple.tupleTooMany
    rw [sizeLine_eq, decide_eq_false]
    omega
  have body := tuple_mulW l its.toArray n dd sl k t g0 g1 g2 (by omega) g4 (by rw [size_rep, List.size_toArray]; exact fits)
  refine wpAny_binaryOp_repeat_ref (T := "tuple") (U := "int") (by decide) ⟨_, ho, rfl⟩ (fun s' => typeIs_int s' k t) noFill_tuple_mul F.fills_int_mul F.slot_int_rmul repeat_tuple F.slot_int_index.lookup ?_
  refine call_meets F.slot_int_rmul (typeIs_int s k t) F.entry_int_rmul (F.args_int_rmul_2 _ _) (int_rmul_tuple k t l its.toArray n dd sl) ⟨ho, rfl, ⟨_, ho, rfl⟩, ?_⟩
  refine call_meets F.slot_tuple_mul ⟨_, ho, rfl⟩ F.entry_tuple_mul (F.args_tuple_mul_2 _ _) body ⟨ho, ?_⟩
  rw [size_rep]
  exact hQ
def rRepN (K : PySem.W.Frag) : R2 := fun x y H Q => ∃ l k xs, x = .ref l ∧ y = .int k ∧ SqT K H l xs ∧ xs ≠ [] ∧ (2 ≤ k ∧ k ≤ 2000) ∧ xs.length ≤ 500 ∧ NewT H (List.replicate k.toNat xs).flatten Q
theorem op_repN {X : Cx} : OpR X (binaryOp .Mult) (rRepN X.K) := by
  intro pins s σ H x y v u Q I rx ry h
  obtain ⟨l, k, xs, e1, e2, hT, hne, ⟨k1, k2⟩, hz, q⟩ := h
  subst e1 e2
  obtain rfl : v = Value.ref l := rx
  obtain ⟨t, rfl⟩ := ry
  obtain ⟨its, r, ⟨⟨cls, dd, data, sl⟩, ho, hc, n, hd⟩, hs⟩ := I.tuple hT
  simp only at hc hd
  subst hc hd
  have le := r.length
  refine mulN_wp (M := 0) l its n dd sl k t _ _ _ _ s _ ho (fun z => hne (r.nil_iff.mp z)) k1 k2 (by omega) ?_
  have rr := r.rep k.toNat
  refine laidT (t' := s.toks) I rr ?_ q
  have room : k.toNat * xs.length ≤ 2000 * 500 := Nat.mul_le_mul (by omega) hz
  rw [PyProof.Rows.lm_len_rep_flat, sizeLine_eq]
  omega
end DL

set_option Elab.async false
set_option linter.all false
set_option maxRecDepth 100000
set_option maxHeartbeats 4000000
/-! Data in a heap, and the states of a def's slots. -/
namespace DL
open PySem PySem.Spec PyProof.Rows L2 GX
/-! ### data -/
/-- the functions that a law makes while it runs: by a tag and the addresses of the captured cells -/
class FT where
  /-- tag, code object, captured cells -/
  nf : Str → Addr → List Addr → Option (Addr → HO)
  /-- the name that its code object has -/
  qn : Str → Str
  /-- the code tables of the defs that make functions, each with the name that a place in it has -/
  tabs : List NdefX.NTab := []
  /-- the row's own defs that are handed on as functions -/
  gl : Str → Option Addr := fun _ => none
/-- no code table -/
abbrev NoT (o : HO) : Prop := ∀ ps, o ≠ .tbl ps
/-- the code tables: their objects are no part of what is known for good, but each code object that one of them tells is -/
def TbG [FT] (G H : Hp) : Prop := ∀ p ∈ FT.tabs, G p.1 = none ∧ ∃ ps : Array Value, H p.1 = some (.tbl ps) ∧ TriplesOk ps.toList ∧ ∀ (pos : Pos) (cv : Value), codeAmong pos ps.toList = some cv → ∃ c, cv = .ref c ∧ G c = some (LamX.CodeO c (p.2 pos.line pos.col))
theorem TbG.step [FT] {G H G' H' : Hp} (t : TbG G H) (s : Same G G') (n : ∀ P ps, H P = some (.tbl ps) → G P = none → G' P = none ∧ H' P = some (.tbl ps)) : TbG G' H' := fun p hp => by
  obtain ⟨g, ps, h1, h2, h3⟩ := t p hp
  obtain ⟨n1, n2⟩ := n _ _ h1 g
  refine ⟨n1, ps, n2, h2, fun pos cv hc => ?_⟩
  obtain ⟨c, e1, e2⟩ := h3 pos cv hc
  exact ⟨c, e1, s _ _ e2⟩
/-- some cells are not tracked -/
def drp (H : Hp) (cs : List Addr) : Hp := fun b => if b ∈ cs then none else H b
theorem drp_in {H : Hp} {cs : List Addr} {b : Addr} (h : b ∈ cs) : drp H cs b = none := if_pos h
theorem drp_out {H : Hp} {cs : List Addr} {b : Addr} (h : b ∉ cs) : drp H cs b = H b := if_neg h
theorem drp_some {H : Hp} {cs : List Addr} {b : Addr} {o : HO} (h : drp H cs b = some o) : b ∉ cs ∧ H b = some o := by
  by_cases c : b ∈ cs
  · rw [drp_in c] at h; cases h
  · rw [drp_out c] at h; exact ⟨c, h⟩
theorem Same.drp {H H' : Hp} (e : Same H H') (cs : List Addr) : Same (DL.drp H cs) (DL.drp H' cs) := fun b o h => by
  obtain ⟨c, h⟩ := drp_some h
  rw [drp_out c]
  exact e _ _ h
/-- a captured cell that nobody writes any more, and what it holds -/
def CelH (H : Hp) (c : Addr) (v : V) : Prop := ∃ (o : Obj) (u : Value), H c = some (.frz o (.own c)) ∧ o.data = .cell (some u) ∧ L2.RelV v u
def CelsH (H : Hp) : List Addr → List V → Prop := Paired (CelH H)
theorem CelsH.same {H H' : Hp} {cs : List Addr} {ws : List V} (h : CelsH H cs ws) (e : Same H H') : CelsH H' cs ws :=
  Paired.mapP h fun _ _ ⟨o, u, a, b, c⟩ => ⟨o, u, e _ _ a, b, c⟩
/-- a function as a datum: its tag and what it captured -/
def fnD (t : Str) (ds : List PyData) : PyData := .dict [(.str t, .tuple ds)]
mutual
inductive Da [FT] (K : PySem.W.Frag) : Hp → V → PyData → Prop
  | non {H : Hp} : Da K H .non .none
  | bl {H : Hp} (b : Bool) : Da K H (.bl b) (.bool b)
  | int {H : Hp} (i : Int) : Da K H (.int i) (.int i)
  | str {H : Hp} (x : Str) : Da K H (.str x) (.str x)
  | lst {H : Hp} {a : Addr} {xs : List V} {ds : List PyData} : H a = some (.lst xs) → DaA K H xs ds → Da K H (.ref a) (.list ds)
  | tup {H : Hp} {a : Addr} {xs : List V} {ds : List PyData} : TpN K H a xs → DaA K H xs ds → Da K H (.ref a) (.tuple ds)
  | dic {H : Hp} {a : Addr} : H a = some (.dK []) → Da K H (.ref a) (.dict [])
  | fn {H : Hp} {a c : Addr} {φ : Addr → HO} {t : Str} {cs : List Addr} {ws : List V} {ds : List PyData} : FT.nf t c cs = some φ → H a = some (φ a) → H c = some (LamX.CodeO c (FT.qn t)) → CelsH H cs ws → cs.Nodup → DaA K (drp H cs) ws ds → Da K H (.ref a) (.dict [(.str t, .tuple ds)])
  | glo {H : Hp} {a : Addr} {t : Str} : FT.gl t = some a → Da K H (.ref a) (.dict [(.str t, .tuple [])])
inductive DaA [FT] (K : PySem.W.Frag) : Hp → List V → List PyData → Prop
  | nil {H : Hp} : DaA K H [] []
  | cons {H : Hp} {v : V} {vs : List V} {d : PyData} {ds : List PyData} : Da K H v d → DaA K H vs ds → DaA K H (v :: vs) (d :: ds)
end
section
variable [FT] {K : PySem.W.Frag}
mutual
theorem Da.same : ∀ {d : PyData} {v : V} {H H' : Hp}, Da K H v d → Same H H' → Da K H' v d
  | .none, _, _, _, h, e => by cases h; exact .non
  | .bool _, _, _, _, h, e => by cases h; exact .bl _
  | .int _, _, _, _, h, e => by cases h; exact .int _
  | .str _, _, _, _, h, e => by cases h; exact .str _
  | .list ds, _, _, _, h, e => by cases h with | lst hs ha => exact .lst (e _ _ hs) (DaA.same ha e)
  | .tuple ds, _, _, _, h, e => by cases h with | tup hs ha => exact .tup (hs.same e) (DaA.same ha e)
  | .dict [], _, _, _, h, e => by cases h with | dic hd => exact .dic (e _ _ hd)
  | .dict [(.str _, .tuple ds)], _, _, _, h, e => by
    cases h with
    | fn h1 h2 hc h3 h4 h5 => exact .fn h1 (e _ _ h2) (e _ _ hc) (h3.same e) h4 (DaA.same h5 (Same.drp e _))
    | glo g => exact .glo g
  | .dict ((.none, _) :: _), _, _, _, h, e => by cases h
  | .dict ((.bool _, _) :: _), _, _, _, h, e => by cases h
  | .dict ((.int _, _) :: _), _, _, _, h, e => by cases h
  | .dict ((.list _, _) :: _), _, _, _, h, e => by cases h
  | .dict ((.tuple _, _) :: _), _, _, _, h, e => by cases h
  | .dict ((.dict _, _) :: _), _, _, _, h, e => by cases h
  | .dict ((.str _, _) :: _ :: _), _, _, _, h, e => by cases h
  | .dict [(.str _, .none)], _, _, _, h, e => by cases h
  | .dict [(.str _, .bool _)], _, _, _, h, e => by cases h
  | .dict [(.str _, .int _)], _, _, _, h, e => by cases h
  | .dict [(.str _, .str _)], _, _, _, h, e => by cases h
  | .dict [(.str _, .list _)], _, _, _, h, e => by cases h
  | .dict [(.str _, .dict _)], _, _, _, h, e => by cases h
theorem DaA.same : ∀ {ds : List PyData} {vs : List V} {H H' : Hp}, DaA K H vs ds → Same H H' → DaA K H' vs ds
  | [], _, _, _, h, e => by cases h; exact .nil
  | d :: ds, _, _, _, h, e => by cases h with | cons h1 h2 => exact .cons (Da.same h1 e) (DaA.same h2 e)
end
variable {H H' : Hp}
theorem DaA.len : ∀ {ds : List PyData} {vs : List V}, DaA K H vs ds → vs.length = ds.length
  | [], _, h => by cases h; rfl
  | _ :: _, _, h => by cases h with | cons _ t => exact congrArg Nat.succ (DaA.len t)
theorem DaA.get : ∀ {ds : List PyData} {vs : List V} {i : Nat} {d : PyData}, DaA K H vs ds → ds[i]? = some d → ∃ v, vs[i]? = some v ∧ Da K H v d
  | [], _, _, _, h, e => by simp at e
  | _ :: _, _, 0, _, h, e => by
    cases h with
    | cons h1 _ =>
      simp at e; subst e
      exact ⟨_, rfl, h1⟩
  | _ :: _, _, i + 1, _, h, e => by
    cases h with
    | cons _ t =>
      obtain ⟨d, h1, h2⟩ := DaA.get (i := i) t (by simpa using e)
      exact ⟨d, by simpa using h1, h2⟩
theorem DaA.getV : ∀ {ds : List PyData} {vs : List V} {i : Nat} {v : V}, DaA K H vs ds → vs[i]? = some v → ∃ d, ds[i]? = some d ∧ Da K H v d
  | [], _, _, _, h, e => by cases h; simp at e
  | _ :: _, _, 0, _, h, e => by
    cases h with
    | cons h1 _ =>
      simp at e; subst e
      exact ⟨_, rfl, h1⟩
  | _ :: _, _, i + 1, _, h, e => by
    cases h with
    | cons _ t =>
      obtain ⟨d, h1, h2⟩ := DaA.getV (i := i) t (by simpa using e)
      exact ⟨d, by simpa using h1, h2⟩
theorem DaA.app : ∀ {ds : List PyData} {vs : List V} {es : List PyData} {ws : List V}, DaA K H vs ds → DaA K H ws es → DaA K H (vs ++ ws) (ds ++ es)
  | [], _, _, _, h, g => by cases h; exact g
  | _ :: _, _, _, _, h, g => by cases h with | cons h1 h2 => exact .cons h1 (DaA.app h2 g)
theorem DaA.snoc {ds : List PyData} {vs : List V} {d : PyData} {v : V} (h : DaA K H vs ds) (g : Da K H v d) : DaA K H (vs ++ [v]) (ds ++ [d]) := h.app (.cons g .nil)
theorem DaA.set : ∀ {ds : List PyData} {vs : List V} {d : PyData} {v : V} (i : Nat), DaA K H vs ds → Da K H v d → DaA K H (vs.set i v) (ds.set i d)
  | [], _, _, _, _, h, _ => by cases h; exact .nil
  | _ :: _, _, _, _, 0, h, g => by cases h with | cons _ h2 => exact .cons g h2
  | _ :: _, _, _, _, i + 1, h, g => by cases h with | cons h1 h2 => exact .cons h1 (DaA.set i h2 g)
theorem DaA.drop : ∀ {ds : List PyData} {vs : List V} (i : Nat), DaA K H vs ds → DaA K H (vs.drop i) (ds.drop i)
  | _, _, 0, h => h
  | [], _, _ + 1, h => by cases h; exact .nil
  | _ :: _, _, i + 1, h => by cases h with | cons _ h2 => exact DaA.drop i h2
theorem DaA.take : ∀ {ds : List PyData} {vs : List V} (i : Nat), DaA K H vs ds → DaA K H (vs.take i) (ds.take i)
  | _, _, 0, _ => .nil
  | [], _, _ + 1, h => by cases h; exact .nil
  | _ :: _, _, i + 1, h => by cases h with | cons h1 h2 => exact .cons h1 (DaA.take i h2)
theorem DaA.rep {d : PyData} {v : V} (h : Da K H v d) : ∀ n : Nat, DaA K H (List.replicate n v) (List.replicate n d)
  | 0 => .nil
  | n + 1 => .cons h (DaA.rep h n)
theorem DaA.rev : ∀ {ds : List PyData} {vs : List V}, DaA K H vs ds → DaA K H vs.reverse ds.reverse
  | [], _, h => by cases h; exact .nil
  | _ :: _, _, h => by
    cases h with
    | cons h1 h2 =>
      rw [List.reverse_cons, List.reverse_cons]
      exact DaA.snoc (DaA.rev h2) h1
theorem DaA.cutV {ds : List PyData} {vs : List V} (lo hi : Option Int) (h : DaA K H vs ds) :
    DaA K H (L2.cutV vs lo hi) ((ds.drop (HT.sIx ds.length 0 lo)).take (HT.sIx ds.length ds.length hi - HT.sIx ds.length 0 lo)) := by
  unfold L2.cutV
  rw [h.len]
  exact (h.drop _).take _
theorem DaA.ints : ∀ {ns : List Int} {vs : List V}, DaA K H vs (ns.map PyData.int) → vs = ns.map V.int
  | [], _, h => by cases h; rfl
  | n :: ns, _, h => by
    cases h with
    | cons h1 h2 =>
      cases h1
      rw [DaA.ints h2]
      rfl
theorem DaA.ofInts : ∀ ns : List Int, DaA K H (ns.map V.int) (ns.map PyData.int)
  | [] => .nil
  | n :: ns => .cons (.int n) (DaA.ofInts ns)
theorem DaA.bls : ∀ {bs : List Bool} {vs : List V}, DaA K H vs (bs.map PyData.bool) → vs = bs.map V.bl
  | [], _, h => by cases h; rfl
  | n :: ns, _, h => by
    cases h with
    | cons h1 h2 =>
      cases h1
      rw [DaA.bls h2]
      rfl
theorem DaA.strs : ∀ {bs : List Str} {vs : List V}, DaA K H vs (bs.map PyData.str) → vs = bs.map V.str
  | [], _, h => by cases h; rfl
  | n :: ns, _, h => by
    cases h with
    | cons h1 h2 =>
      cases h1
      rw [DaA.strs h2]
      rfl
mutual
theorem Da.dp : ∀ {d : PyData} {v : V}, Da K H v d → d.canLay0 = true → Dp K H v d
  | .none, _, h, _ => by cases h; exact .non
  | .bool _, _, h, _ => by cases h; exact .bl _
  | .int _, _, h, _ => by cases h; exact .int _
  | .str _, _, h, _ => by cases h; exact .str _
  | .list ds, _, h, c => by cases h with | lst hs ha => exact .lst (.inl (.inl hs)) (DaA.dp ha (by simpa [PyData.canLay0] using c))
  | .tuple ds, _, h, c => by cases h with | tup hs ha => exact .tup hs.sq (DaA.dp ha (by simpa [PyData.canLay0] using c))
  | .dict _, _, _, c => by simp [PyData.canLay0] at c
theorem DaA.dp : ∀ {ds : List PyData} {vs : List V}, DaA K H vs ds → PyData.canLayAll0 ds = true → DpAll K H vs ds
  | [], _, h, _ => by cases h; exact .nil
  | d :: ds, _, h, c => by
    cases h with
    | cons h1 h2 =>
      simp only [PyData.canLayAll0, Bool.and_eq_true] at c
      exact .cons (Da.dp h1 c.1) (DaA.dp h2 c.2)
end
end
/-! ### dicts whose keys are tuples -/
mutual
/-- a datum as a key -/
def keyD : PyData → Option NestedKey
  | .none => some .none
  | .bool b => some (.num (if b = true then 1 else 0))
  | .int i => some (.num i)
  | .str x => some (.text x)
  | .tuple ds => match keyDs ds with
    | some ks => some (.tup ks)
    | none => none
  | .list _ => none
  | .dict _ => none
def keyDs : List PyData → Option (List NestedKey)
  | [] => some []
  | d :: ds => match keyD d, keyDs ds with
    | some k, some ks => some (k :: ks)
    | _, _ => none
end
variable [FT]
/-- what stands at p is a dict with these keys (that stand there) and values -/
def DicP (ww : World) (p : Addr) (xs : List (NestedKey × Addr × V)) : Heap → Prop := fun h => (p == sysModules) = false ∧ ∃ ys : List (NestedKey × Addr × Value), Paired (fun x y => x.1 = y.1 ∧ x.2.1 = y.2.1 ∧ RelV x.2.2 y.2.2) xs ys ∧
  ∃ o es ep, h.get? p = some o ∧ o.ExactDict ∧ o.data = .dict es ep ∧ es.toList = ys.map (fun y => (⟨NestedKey.hash ww y.1, .ref y.2.1, y.2.2⟩ : DictEntry)) ∧ (ys.map (·.1)).Nodup
theorem DicP.stays {ww : World} {p : Addr} {xs : List (NestedKey × Addr × V)} : ∀ h1 h2 : Heap, DicP ww p xs h1 → (∀ o, h1.get? p = some o → h2.get? p = some o) → DicP ww p xs h2 := by
  rintro h1 h2 ⟨a, ys, r, o, es, ep, e, b⟩ k
  exact ⟨a, ys, r, o, es, ep, k o e, b⟩
theorem DicP.there {ww : World} {p : Addr} {xs : List (NestedKey × Addr × V)} {h : Heap} (x : DicP ww p xs h) : ∃ o, h.get? p = some o := by
  obtain ⟨_, _, _, o, _, _, e, _⟩ := x
  exact ⟨o, e⟩
def DicA (K : PySem.W.Frag) (G : Hp) : List (NestedKey × Addr × V) → List (NestedKey × PyData) → Prop := Paired fun x y => x.1 = y.1 ∧ (∃ d, keyD d = some x.1 ∧ Da K G (.ref x.2.1) d) ∧ NestedKey.depth x.1 ≤ 8 ∧ Da K G x.2.2 y.2
theorem DicA.same {K : PySem.W.Frag} {G G' : Hp} {xs : List (NestedKey × Addr × V)} {kvs : List (NestedKey × PyData)} (h : DicA K G xs kvs) (s : Same G G') : DicA K G' xs kvs :=
  Paired.mapP h fun _ _ ⟨a, ⟨d, b, c⟩, e, f⟩ => ⟨a, ⟨d, b, c.same s⟩, e, f.same s⟩
end DL
/-! ### a box: a list of states and a list of lists of lines -/
namespace BX
open PySem PySem.Spec PyProof.Rows L2 GX DL
def ov : Option Str → V
  | none => .non
  | some s => .str s
structure Bx (H : Hp) (b p q : Addr) (rs : List Addr) (ss : List Int) (ls : List (List (Option Str))) : Prop where
  hb : H b = some (.lst [.ref p, .ref q])
  hp : H p = some (.lst (ss.map V.int))
  hq : H q = some (.lst (rs.map V.ref))
  hr : ∀ (k : Nat) (r : Addr) (l : List (Option Str)), rs[k]? = some r → ls[k]? = some l → H r = some (.lst (l.map ov))
  l1 : rs.length = ls.length
  l2 : ss.length = ls.length
  nd : (b :: p :: q :: rs).Nodup
theorem Bx.lists {H : Hp} {b p q : Addr} {rs : List Addr} {ss : List Int} {ls : List (List (Option Str))} (B : Bx H b p q rs ss ls) {c : Addr} (h : c ∈ b :: p :: q :: rs) : ∃ xs, H c = some (.lst xs) := by
  simp only [List.mem_cons] at h
  rcases h with rfl | rfl | rfl | h
  · exact ⟨_, B.hb⟩
  · exact ⟨_, B.hp⟩
  · exact ⟨_, B.hq⟩
  · obtain ⟨k, hk, rfl⟩ := List.getElem_of_mem h
    have hk2 : k < ls.length := by rw [← B.l1]; exact hk
    exact ⟨_, B.hr k _ _ (List.getElem?_eq_getElem hk) (List.getElem?_eq_getElem hk2)⟩
theorem Bx.as {H H' : Hp} {b p q : Addr} {rs : List Addr} {ss : List Int} {ls : List (List (Option Str))} (B : Bx H b p q rs ss ls) (e : ∀ c ∈ b :: p :: q :: rs, H' c = H c) : Bx H' b p q rs ss ls :=
  ⟨(e b (by simp)).trans B.hb, (e p (by simp)).trans B.hp, (e q (by simp)).trans B.hq, fun k r l h1 h2 => (e r (by simp [List.mem_of_getElem? h1])).trans (B.hr k r l h1 h2), B.l1, B.l2, B.nd⟩
end BX
namespace DL
open PySem PySem.Spec PyProof.Rows L2 GX
variable [FT]
/-! ### slots -/
/-- a slot: not known; a datum that stays; a list that this def alone may change (true: it is a parameter's); the script -/
inductive Cn where
  | l (ds : List PyData) | k (kvs : List (NestedKey × PyData)) | d (kvs : List (Key × PyData)) | b (p q : Addr) (rs : List Addr) (ss : List Int) (ls : List (List (Option Str)))
instance : Coe (List PyData) Cn := ⟨Cn.l⟩
inductive Sl where
  | un | dat (d : PyData) | own (par : Bool) (c : Cn) | scr (ns : List Int)
abbrev Rho := List Sl
def ScrL (K : PySem.W.Frag) (H : Hp) (a : Addr) (ns : List Int) : Prop :=
  (∃ o, H a = some (.frz o (.lst (ns.map V.int)))) ∨
    ∃ (o : Obj) (its : Array Value) (n : Nat), K.lookup a = some o ∧ o.cls = .type "list" ∧ o.dict = none ∧ o.data = .seq its n ∧ its.size ≤ sizeLine ∧ Vals (ns.map V.int) its.toList
theorem ScrL.sq {K : PySem.W.Frag} {H : Hp} {a : Addr} {ns : List Int} (h : ScrL K H a ns) : SqL K H a (ns.map V.int) := by
  rcases h with ⟨o, h⟩ | h
  · exact .inl (.inr ⟨o, h⟩)
  · exact .inr h
/-- the addresses of a content -/
def reg (r : Addr) : Cn → List Addr
  | .l _ => [r]
  | .k _ => [r]
  | .d _ => [r]
  | .b p q rs _ _ => r :: p :: q :: rs
theorem root (r : Addr) (c : Cn) : r ∈ reg r c := by cases c <;> simp [reg]
def Ow (σ : L2.St) (ρ : Rho) (b : Addr) : Prop := ∃ (i : Nat) (c : Bool) (ds : Cn) (r : Addr), ρ[i]? = some (.own c ds) ∧ σ[i]? = some (some (.ref r)) ∧ b ∈ reg r ds
/-- a dict whose keys are ints and texts -/
def DdK (K : PySem.W.Frag) (G : Hp) : List (Key × V) → List (Key × PyData) → Prop := Paired fun x y => x.1 = y.1 ∧ Da K G x.2 y.2
theorem DdK.same {K : PySem.W.Frag} {G G' : Hp} {xs : List (Key × V)} {kvs : List (Key × PyData)} (h : DdK K G xs kvs) (s : Same G G') : DdK K G' xs kvs := Paired.mapP h fun _ _ ⟨a, b⟩ => ⟨a, b.same s⟩
def Cr (ww : World) (K : PySem.W.Frag) (G H : Hp) (r : Addr) : Cn → Prop
  | .l ds => ∃ xs, H r = some (.lst xs) ∧ DaA K G xs ds
  | .k kvs => ∃ xs, H r = some (.ext (DicP ww r xs)) ∧ DicA K G xs kvs
  | .d kvs => ∃ xs, H r = some (.dK xs) ∧ DdK K G xs kvs
  | .b p q rs ss ls => BX.Bx H r p q rs ss ls
section
variable {ww : World} {K : PySem.W.Frag} {G G' H H' : Hp} {p : Addr} {c : Cn}
theorem Cr.ne (h : Cr ww K G H p c) {a : Addr} (ha : a ∈ reg p c) : H a ≠ none := by
  cases c with
  | l ds => obtain ⟨xs, e, _⟩ := h; simp only [reg, List.mem_singleton] at ha; rw [ha, e]; simp
  | k kvs => obtain ⟨xs, e, _⟩ := h; simp only [reg, List.mem_singleton] at ha; rw [ha, e]; simp
  | d kvs => obtain ⟨xs, e, _⟩ := h; simp only [reg, List.mem_singleton] at ha; rw [ha, e]; simp
  | b p' q rs ss ls =>
    obtain ⟨xs, e⟩ := BX.Bx.lists h ha
    rw [e]; simp
theorem Cr.nf (h : Cr ww K G H p c) {a : Addr} (ha : a ∈ reg p c) (o : Obj) (u : HO) : H a ≠ some (.frz o u) := by
  cases c with
  | l ds => obtain ⟨xs, e, _⟩ := h; simp only [reg, List.mem_singleton] at ha; rw [ha, e]; simp
  | k kvs => obtain ⟨xs, e, _⟩ := h; simp only [reg, List.mem_singleton] at ha; rw [ha, e]; simp
  | d kvs => obtain ⟨xs, e, _⟩ := h; simp only [reg, List.mem_singleton] at ha; rw [ha, e]; simp
  | b p' q rs ss ls =>
    obtain ⟨xs, e⟩ := BX.Bx.lists h ha
    rw [e]; simp
theorem Cr.noT (h : Cr ww K G H p c) {a : Addr} (ha : a ∈ reg p c) {o : HO} (e : H a = some o) : NoT o := by
  have z : ∀ ps, H a ≠ some (.tbl ps) := fun ps => by
    cases c with
    | l ds => obtain ⟨xs, e, _⟩ := h; simp only [reg, List.mem_singleton] at ha; rw [ha, e]; simp
    | k kvs => obtain ⟨xs, e, _⟩ := h; simp only [reg, List.mem_singleton] at ha; rw [ha, e]; simp
    | d kvs => obtain ⟨xs, e, _⟩ := h; simp only [reg, List.mem_singleton] at ha; rw [ha, e]; simp
    | b p' q rs ss ls =>
      obtain ⟨xs, e⟩ := BX.Bx.lists h ha
      rw [e]; simp
  exact fun ps q => z ps (q ▸ e)
theorem Cr.step (h : Cr ww K G H p c) (s : Same G G') (e : ∀ a ∈ reg p c, H' a = H a) : Cr ww K G' H' p c := by
  cases c with
  | l ds => obtain ⟨xs, e1, a⟩ := h; exact ⟨xs, (e p (root p _)).trans e1, a.same s⟩
  | k kvs => obtain ⟨xs, e1, a⟩ := h; exact ⟨xs, (e p (root p _)).trans e1, a.same s⟩
  | d kvs => obtain ⟨xs, e1, a⟩ := h; exact ⟨xs, (e p (root p _)).trans e1, a.same s⟩
  | b p' q rs ss ls => exact BX.Bx.as h e
end
structure Rl (ww : World) (K : PySem.W.Frag) (G : Hp) (σ : L2.St) (ρ : Rho) (H : Hp) : Prop where
  len : σ.length = ρ.length
  sub : Same G H
  dat : ∀ {i : Nat} {d : PyData}, ρ[i]? = some (.dat d) → ∃ v, σ[i]? = some (some v) ∧ Da K G v d
  own : ∀ {i : Nat} {b : Bool} {c : Cn}, ρ[i]? = some (.own b c) → ∃ p, σ[i]? = some (some (.ref p)) ∧ (∀ a ∈ reg p c, G a = none) ∧ Cr ww K G H p c
  dis : ∀ {i j : Nat} {b c : Bool} {ds es : Cn} {p q a : Addr}, ρ[i]? = some (.own b ds) → ρ[j]? = some (.own c es) → σ[i]? = some (some (.ref p)) → σ[j]? = some (some (.ref q)) → a ∈ reg p ds → a ∈ reg q es → i = j
  scr : ∀ {i : Nat} {ns : List Int}, ρ[i]? = some (.scr ns) → ∃ p, σ[i]? = some (some (.ref p)) ∧ ScrL K H p ns
  tb : TbG G H
structure Sx (G : Hp) (σ : L2.St) (ρ : Rho) (H : Hp) (G' : Hp) (σ' : L2.St) (ρ' : Rho) (H' : Hp) : Prop where
  gr : Same G G'
  new : ∀ b, G' b ≠ none → G b ≠ none ∨ H b = none ∨ Ow σ ρ b
  fr : ∀ b o, H b = some o → NoT o → ¬ Ow σ ρ b → H' b = some o
  ow : ∀ b, Ow σ' ρ' b → Ow σ ρ b ∨ H b = none
  al : ∀ b, H b ≠ none → H' b ≠ none
  par : ∀ (i : Nat) (ds : Cn), ρ'[i]? = some (.own true ds) → (∃ es, ρ[i]? = some (.own true es) ∧ ∀ r, reg r ds = reg r es) ∧ σ'[i]? = σ[i]?
/-- only new things -/
structure Xt [FT] (G H G' H' : Hp) : Prop where
  hh : ∀ b o, H b = some o → NoT o → H' b = some o
  al : ∀ b, H b ≠ none → H' b ≠ none
  tt : TbG G H → TbG G' H'
  gh : Same G' H'
  gg : Same G G'
  nw : ∀ b, G' b ≠ none → G b ≠ none ∨ H b = none
section
variable {ww : World} {K : PySem.W.Frag} {G G' G2 H H' H2 : Hp} {σ σ' σ2 : L2.St} {ρ ρ' ρ2 : Rho}
theorem Sx.refl (G : Hp) (σ : L2.St) (ρ : Rho) (H : Hp) : Sx G σ ρ H G σ ρ H := ⟨Same.refl _, fun _ h => .inl h, fun _ _ e _ _ => e, fun _ h => .inl h, fun _ h => h, fun _ _ h => ⟨⟨_, h, fun _ => rfl⟩, rfl⟩⟩
theorem Sx.trans (a : Sx G σ ρ H G' σ' ρ' H') (b : Sx G' σ' ρ' H' G2 σ2 ρ2 H2) : Sx G σ ρ H G2 σ2 ρ2 H2 := by
  have back : ∀ c, H' c = none → H c = none ∨ Ow σ ρ c := fun c h => by
    cases e : H c with
    | none => exact .inl rfl
    | some o =>
      by_cases q : Ow σ ρ c
      · exact .inr q
      · exact (a.al c (by rw [e]; simp) h).elim
  refine ⟨a.gr.trans b.gr, fun c h => ?_, fun c o e t n => ?_, fun c h => ?_, fun c h => b.al c (a.al c h), fun i ds h => ?_⟩
  · rcases b.new c h with z | z | z
    · exact a.new c z
    · exact .inr (back c z)
    · exact .inr ((a.ow c z).symm)
  · refine b.fr c o (a.fr c o e t n) t fun z => ?_
    rcases a.ow c z with y | y
    · exact n y
    · rw [e] at y; cases y
  · rcases b.ow c h with z | z
    · exact a.ow c z
    · exact (back c z).symm
  · obtain ⟨⟨es, h1, q1⟩, e1⟩ := b.par i ds h
    obtain ⟨⟨fs, h2, q2⟩, e2⟩ := a.par i es h1
    exact ⟨⟨fs, h2, fun r => (q1 r).trans (q2 r)⟩, e1.trans e2⟩
theorem Xt.refl (R : Same G H) : Xt G H G H := ⟨fun _ _ e _ => e, fun _ h => h, id, R, Same.refl _, fun _ h => .inl h⟩
theorem Xt.free (x : Xt G H G' H') {b : Addr} (h : H' b = none) : H b = none := by
  cases e : H b with
  | none => rfl
  | some o => exact (x.al b (by rw [e]; simp) h).elim
theorem Xt.trans (a : Xt G H G' H') (b : Xt G' H' G2 H2) : Xt G H G2 H2 := ⟨fun c o e t => b.hh c o (a.hh c o e t) t, fun c h => b.al c (a.al c h), fun t => b.tt (a.tt t), b.gh, a.gg.trans b.gg, fun c h => by
  rcases b.nw c h with z | z
  · exact a.nw c z
  · exact .inr (a.free z)⟩
theorem Rl.inj (R : Rl ww K G σ ρ H) {i j : Nat} {b c : Bool} {ds es : Cn} {p : Addr} (h1 : ρ[i]? = some (.own b ds)) (h2 : ρ[j]? = some (.own c es)) (h3 : σ[i]? = some (some (.ref p))) (h4 : σ[j]? = some (some (.ref p))) : i = j := R.dis h1 h2 h3 h4 (root p ds) (root p es)
theorem Rl.ownL (R : Rl ww K G σ ρ H) {i : Nat} {b : Bool} {ds : List PyData} (h : ρ[i]? = some (.own b (.l ds))) : ∃ p xs, σ[i]? = some (some (.ref p)) ∧ H p = some (.lst xs) ∧ G p = none ∧ DaA K G xs ds := by
  obtain ⟨p, e, g, xs, a, b⟩ := R.own h
  exact ⟨p, xs, e, a, g p (root p _), b⟩
theorem Rl.ext (R : Rl ww K G σ ρ H) (x : Xt G H G' H') : Rl ww K G' σ ρ H' where
  len := R.len
  sub := x.gh
  dat := fun h => let ⟨v, e, d⟩ := R.dat h; ⟨v, e, d.same x.gg⟩
  own := fun h => by
    obtain ⟨p, e, eg, d⟩ := R.own h
    refine ⟨p, e, fun a ha => ?_, d.step x.gg fun a ha => ?_⟩
    · cases q : G' a with
      | none => rfl
      | some o =>
        rcases x.nw a (by rw [q]; simp) with z | z
        · exact (z (eg a ha)).elim
        · exact (d.ne ha z).elim
    · cases q : H a with
      | none => exact (d.ne ha q).elim
      | some o => exact x.hh _ _ q (d.noT ha q)
  dis := R.dis
  scr := fun h => by
    obtain ⟨p, e, s⟩ := R.scr h
    refine ⟨p, e, ?_⟩
    rcases s with ⟨o, s⟩ | s
    · exact .inl ⟨o, x.hh _ _ s (fun _ z => nomatch z)⟩
    · exact .inr s
  tb := x.tt R.tb
theorem Sx.ext (x : Xt G H G' H') : Sx G σ ρ H G' σ ρ H' := ⟨x.gg, fun b h => (x.nw b h).elim .inl (fun z => .inr (.inl z)), fun b o e t _ => x.hh b o e t, fun _ h => .inl h, fun b h => x.al b h, fun _ _ h => ⟨⟨_, h, fun _ => rfl⟩, rfl⟩⟩
/-- a new thing at p -/
theorem Xt.new {p : Addr} {o : HO} (sub : Same G H) (n : H p = none) : Xt G H (upd G p o) (upd H p o) := by
  have up : ∀ {A : Hp}, A p = none → Same A (upd A p o) := fun {A} na b u e => by
    by_cases h : b = p
    · rw [h, na] at e; cases e
    · rw [upd_ne h]; exact e
  refine ⟨fun b u e _ => up n b u e, fun b h z => h (Same.free (up n) z), fun t => t.step (up (Same.free sub n)) fun P ps h1 h2 => ?_, fun b u e => ?_, up (Same.free sub n), fun b h => ?_⟩
  · have ne : P ≠ p := fun z => by rw [z, n] at h1; cases h1
    rw [upd_ne ne, upd_ne ne]
    exact ⟨h2, h1⟩
  · by_cases hb : b = p
    · rw [hb, upd_same] at e ⊢; exact e
    · rw [upd_ne hb] at e ⊢; exact sub b u e
  · by_cases hb : b = p
    · rw [hb]; exact .inr n
    · rw [upd_ne hb] at h; exact .inl h
/-- a new thing at p that is not looked at -/
theorem Xt.more {p : Addr} {o : HO} (sub : Same G H) (n : H p = none) : Xt G H G (upd H p o) := by
  have up : Same H (upd H p o) := fun b u e => by
    by_cases h : b = p
    · rw [h, n] at e; cases e
    · rw [upd_ne h]; exact e
  exact ⟨fun b u e _ => up b u e, fun b h z => h (Same.free up z), fun t => t.step (Same.refl _) fun P ps h1 h2 => ⟨h2, up _ _ h1⟩, sub.trans up, Same.refl _, fun b h => .inl h⟩
end
end DL

set_option Elab.async false
set_option linter.all false
set_option maxRecDepth 100000
set_option maxHeartbeats 4000000
/-! The judgements over data; names, constants, operators, tests. -/
namespace DL
open PySem PySem.Spec PyProof.Rows L2 GX
variable [DL.FT]
abbrev EF := Rho → Option (PyData × Rho)
abbrev LF := Rho → Option (List PyData × Rho)
abbrev TF := Rho → Option (Bool × Rho)
/-- a datum comes -/
def rE (ww : World) (K : PySem.W.Frag) (f : EF) : TE := fun σ H Q => ∃ G ρ ρ' d, Rl ww K G σ ρ H ∧ f ρ = some (d, ρ') ∧ ∀ v G' H', Rl ww K G' σ ρ' H' → Sx G σ ρ H G' σ ρ' H' → Da K G' v d → Q v H'
/-- several -/
def rL (ww : World) (K : PySem.W.Frag) (f : LF) : TA := fun σ H Q => ∃ G ρ ρ' ds, Rl ww K G σ ρ H ∧ f ρ = some (ds, ρ') ∧ ∀ vs G' H', Rl ww K G' σ ρ' H' → Sx G σ ρ H G' σ ρ' H' → DaA K G' vs ds → Q vs H'
/-- a new list -/
def rF (ww : World) (K : PySem.W.Frag) (f : LF) : TE := fun σ H Q => ∃ G ρ ρ' ds, Rl ww K G σ ρ H ∧ f ρ = some (ds, ρ') ∧
  ∀ p xs G' H', Rl ww K G' σ ρ' H' → Sx G σ ρ H G' σ ρ' H' → H' p = some (.lst xs) → G' p = none → ¬ Ow σ ρ' p → H p = none → DaA K G' xs ds → Q (.ref p) H'
def rT (ww : World) (K : PySem.W.Frag) (f : TF) : TT := fun σ H Q => ∃ G ρ ρ' b, Rl ww K G σ ρ H ∧ f ρ = some (b, ρ') ∧ ∀ G' H', Rl ww K G' σ ρ' H' → Sx G σ ρ H G' σ ρ' H' → Q b H'
def DE (X : Cx) (e : Expr) (f : EF) : Prop := PE X e (rE X.w X.K f)
def DLs (X : Cx) (es : List Expr) (f : LF) : Prop := PA X es (rL X.w X.K f)
def DF (X : Cx) (e : Expr) (f : LF) : Prop := PE X e (rF X.w X.K f)
def DT (X : Cx) (e : Expr) (f : TF) : Prop := PT X e (rT X.w X.K f)
def DW (X : Cx) (e : Expr) (f : TF) : Prop := PW X e (rT X.w X.K f)
theorem pe_imp {X : Cx} {e : Expr} {t t' : TE} (h : PE X e t) (i : ∀ σ H Q, t' σ H Q → t σ H Q) : PE X e t' := ⟨fun pins s σ H Q I w => h.run pins s σ H Q I (i _ _ _ w)⟩
theorem pt_imp {X : Cx} {e : Expr} {t t' : TT} (h : PT X e t) (i : ∀ σ H Q, t' σ H Q → t σ H Q) : PT X e t' := ⟨fun pins s σ H Q I w => h.run pins s σ H Q I (i _ _ _ w)⟩
theorem pw_imp {X : Cx} {e : Expr} {t t' : TT} (h : PW X e t) (i : ∀ σ H Q, t' σ H Q → t σ H Q) : PW X e t' := ⟨fun wh pins s σ H Q I w => h.run wh pins s σ H Q I (i _ _ _ w)⟩
theorem pa_imp {X : Cx} {es : List Expr} {t t' : TA} (h : PA X es t) (i : ∀ σ H Q, t' σ H Q → t σ H Q) : PA X es t' := ⟨fun pos pins s σ H Q I w => h.run pos pins s σ H Q I (i _ _ _ w)⟩
theorem ps_imp {X : Cx} {st : Stmt} {t t' : TS} (h : PS X st t) (i : ∀ D σ H, t' D σ H → t D σ H) : PS X st t' := ⟨fun pins s σ H D I w => h.run pins s σ H D I (i _ _ _ w)⟩
theorem pss_imp {X : Cx} {st : List Stmt} {t t' : TS} (h : PSs X st t) (i : ∀ D σ H, t' D σ H → t D σ H) : PSs X st t' := ⟨fun pins s σ H D I w => h.run pins s σ H D I (i _ _ _ w)⟩
theorem OpR.imp {X : Cx} {f : Value → Value → Sem Value} {r r' : R2} (h : OpR X f r) (i : ∀ x y H Q, r' x y H Q → r x y H Q) : OpR X f r' := fun pins s σ H x y v u Q I rx ry w => h pins s σ H x y v u Q I rx ry (i _ _ _ _ w)
theorem IxR.imp {X : Cx} {r r' : R2} (h : IxR X r) (i : ∀ x y H Q, r' x y H Q → r x y H Q) : IxR X r' := fun value slice pins s σ H x y v u Q I rx ry w hs => h value slice pins s σ H x y v u Q I rx ry (i _ _ _ _ w) hs
/-! ### states that change -/
section
variable {ww : World} {K : PySem.W.Frag} {G G' H H' : Hp} {σ σ' : L2.St} {ρ ρ' : Rho}
theorem Rl.at (R : Rl ww K G σ ρ H) {b : Addr} (o : Ow σ ρ b) : G b = none ∧ H b ≠ none ∧ ∀ o u, H b ≠ some (.frz o u) := by
  obtain ⟨i, c, ds, r, h1, h2, h3⟩ := o
  obtain ⟨p, e, g, h⟩ := R.own h1
  rw [h2] at e
  cases e
  exact ⟨g b h3, h.ne h3, h.nf h3⟩
theorem Rl.lt (R : Rl ww K G σ ρ H) {i : Nat} {s : Sl} (h : ρ[i]? = some s) : i < σ.length := by rw [R.len]; exact (List.getElem?_eq_some_iff.mp h).1
theorem not_un {s : Sl} {i : Nat} {n : Nat} : (List.replicate n Sl.un)[i]? = some s → s = .un := fun h => (List.mem_replicate.mp (List.mem_of_getElem? h)).2
theorem set_get {α : Type} {l : List α} {i j : Nat} {a b : α} (h : (l.set i a)[j]? = some b) : (j = i ∧ b = a ∧ i < l.length) ∨ (j ≠ i ∧ l[j]? = some b) := by
  by_cases e : i = j
  · subst e
    have hl : i < l.length := by
      have := (List.getElem?_eq_some_iff.mp h).1
      simpa using this
    rw [List.getElem?_set_self hl] at h
    exact .inl ⟨rfl, (Option.some.inj h).symm, hl⟩
  · rw [List.getElem?_set_ne e] at h
    exact .inr ⟨fun z => e z.symm, h⟩
/-- a slot is forgotten -/
theorem Rl.drop (R : Rl ww K G σ ρ H) (i : Nat) (s : Sl) (hs : s = .un) : Rl ww K G σ (ρ.set i s) H := by
  subst hs
  refine ⟨by rw [List.length_set]; exact R.len, R.sub, fun {j d} h => ?_, fun {j b ds} h => ?_, fun {j k b c ds es p q a} h1 h2 h3 h4 h5 h6 => ?_, fun {j ns} h => ?_, R.tb⟩
  · rcases set_get h with ⟨_, z, _⟩ | ⟨_, h⟩
    · cases z
    · exact R.dat h
  · rcases set_get h with ⟨_, z, _⟩ | ⟨_, h⟩
    · cases z
    · exact R.own h
  · rcases set_get h1 with ⟨_, z, _⟩ | ⟨_, h1⟩
    · cases z
    · rcases set_get h2 with ⟨_, z, _⟩ | ⟨_, h2⟩
      · cases z
      · exact R.dis h1 h2 h3 h4 h5 h6
  · rcases set_get h with ⟨_, z, _⟩ | ⟨_, h⟩
    · cases z
    · exact R.scr h
/-- a datum is stored -/
theorem Rl.put (R : Rl ww K G σ ρ H) {i : Nat} {v : V} {d : PyData} (h : Da K G v d) : Rl ww K G (σ.set i (some v)) (ρ.set i (.dat d)) H := by
  have go : ∀ {j : Nat} {s : Sl}, (ρ.set i (.dat d))[j]? = some s → (j = i ∧ s = .dat d ∧ (σ.set i (some v))[j]? = some (some v)) ∨ (j ≠ i ∧ ρ[j]? = some s ∧ (σ.set i (some v))[j]? = σ[j]?) := fun {j s} e => by
    rcases set_get e with ⟨z1, z2, z3⟩ | ⟨z, e⟩
    · refine .inl ⟨z1, z2, ?_⟩
      rw [z1, List.getElem?_set_self (by rw [R.len]; exact z3)]
    · exact .inr ⟨z, e, List.getElem?_set_ne (Ne.symm z)⟩
  refine ⟨by rw [List.length_set, List.length_set]; exact R.len, R.sub, fun {j e} q => ?_, fun {j b ds} q => ?_, fun {j k b c ds es p q a} h1 h2 h3 h4 h5 h6 => ?_, fun {j ns} q => ?_, R.tb⟩
  · rcases go q with ⟨z1, z2, z3⟩ | ⟨z, q, z3⟩
    · cases z2
      exact ⟨v, z3, h⟩
    · obtain ⟨w, e, hw⟩ := R.dat q
      exact ⟨w, z3.trans e, hw⟩
  · rcases go q with ⟨z1, z2, z3⟩ | ⟨z, q, z3⟩
    · cases z2
    · obtain ⟨p, e, r⟩ := R.own q
      exact ⟨p, z3.trans e, r⟩
  · rcases go h1 with ⟨_, z2, _⟩ | ⟨_, h1, e1⟩
    · cases z2
    · rcases go h2 with ⟨_, z2, _⟩ | ⟨_, h2, e2⟩
      · cases z2
      · exact R.dis h1 h2 (e1 ▸ h3) (e2 ▸ h4) h5 h6
  · rcases go q with ⟨z1, z2, z3⟩ | ⟨z, q, z3⟩
    · cases z2
    · obtain ⟨p, e, r⟩ := R.scr q
      exact ⟨p, z3.trans e, r⟩
theorem Sx.put {i : Nat} {v : V} {d : PyData} (R : Rl ww K G σ ρ H) : Sx G σ ρ H G (σ.set i (some v)) (ρ.set i (.dat d)) H := by
  refine ⟨Same.refl _, fun _ h => .inl h, fun _ _ e _ _ => e, fun b ⟨j, c, ds, r, h1, h2, h3⟩ => ?_, fun _ h => h, fun j ds h => ?_⟩
  · rcases set_get h1 with ⟨_, z, _⟩ | ⟨z, h1⟩
    · cases z
    · rw [List.getElem?_set_ne (Ne.symm z)] at h2
      exact .inl ⟨j, c, ds, r, h1, h2, h3⟩
  · rcases set_get h with ⟨_, z, _⟩ | ⟨z, h⟩
    · cases z
    · exact ⟨⟨_, h, fun _ => rfl⟩, List.getElem?_set_ne (Ne.symm z)⟩
/-- a new list is stored, to be changed here -/
theorem Rl.holdC (R : Rl ww K G σ ρ H) {i : Nat} {p : Addr} {ds : Cn} (gp : ∀ a ∈ reg p ds, G a = none) (no : ∀ a ∈ reg p ds, ¬ Ow σ ρ a) (hd : Cr ww K G H p ds) : Rl ww K G (σ.set i (some (.ref p))) (ρ.set i (.own false ds)) H := by
  have go : ∀ {j : Nat} {s : Sl}, (ρ.set i (.own false ds))[j]? = some s → (j = i ∧ s = .own false ds ∧ (σ.set i (some (.ref p)))[j]? = some (some (.ref p))) ∨ (j ≠ i ∧ ρ[j]? = some s ∧ (σ.set i (some (.ref p)))[j]? = σ[j]?) := fun {j s} e => by
    rcases set_get e with ⟨z1, z2, z3⟩ | ⟨z, e⟩
    · refine .inl ⟨z1, z2, ?_⟩
      rw [z1, List.getElem?_set_self (by rw [R.len]; exact z3)]
    · exact .inr ⟨z, e, List.getElem?_set_ne (Ne.symm z)⟩
  refine ⟨by rw [List.length_set, List.length_set]; exact R.len, R.sub, fun {j e} q => ?_, fun {j b ds} q => ?_, fun {j k b c ds1 es p1 q1 a} h1 h2 h3 h4 h5 h6 => ?_, fun {j ns} q => ?_, R.tb⟩
  · rcases go q with ⟨z1, z2, z3⟩ | ⟨z, q, z3⟩
    · cases z2
    · obtain ⟨w, e, hw⟩ := R.dat q
      exact ⟨w, z3.trans e, hw⟩
  · rcases go q with ⟨z1, z2, z3⟩ | ⟨z, q, z3⟩
    · cases z2
      exact ⟨p, z3, gp, hd⟩
    · obtain ⟨p, e, r⟩ := R.own q
      exact ⟨p, z3.trans e, r⟩
  · rcases go h1 with ⟨z1, z2, e1⟩ | ⟨n1, h1, e1⟩
    · rcases go h2 with ⟨y1, _, _⟩ | ⟨n2, h2, e2⟩
      · rw [z1, y1]
      · cases z2
        rw [e1] at h3
        cases h3
        exact (no a h5 ⟨k, _, _, _, h2, e2 ▸ h4, h6⟩).elim
    · rcases go h2 with ⟨y1, y2, e2⟩ | ⟨n2, h2, e2⟩
      · cases y2
        rw [e2] at h4
        cases h4
        exact (no a h6 ⟨j, _, _, _, h1, e1 ▸ h3, h5⟩).elim
      · exact R.dis h1 h2 (e1 ▸ h3) (e2 ▸ h4) h5 h6
  · rcases go q with ⟨z1, z2, z3⟩ | ⟨z, q, z3⟩
    · cases z2
    · obtain ⟨p, e, r⟩ := R.scr q
      exact ⟨p, z3.trans e, r⟩
theorem Rl.hold (R : Rl ww K G σ ρ H) {i : Nat} {p : Addr} {xs : List V} {ds : List PyData} (hp : H p = some (.lst xs)) (gp : G p = none) (no : ¬ Ow σ ρ p) (hd : DaA K G xs ds) : Rl ww K G (σ.set i (some (.ref p))) (ρ.set i (.own false ds)) H :=
  R.holdC (ds := .l ds) (fun a ha => by simp only [reg, List.mem_singleton] at ha; rw [ha]; exact gp) (fun a ha => by simp only [reg, List.mem_singleton] at ha; rw [ha]; exact no) ⟨xs, hp, hd⟩
theorem Sx.holdC {i : Nat} {p : Addr} {ds : Cn} {G0 H0 : Hp} {ρ0 : Rho} (s : Sx G0 σ ρ0 H0 G σ ρ H) (n : ∀ a ∈ reg p ds, H0 a = none) : Sx G0 σ ρ0 H0 G (σ.set i (some (.ref p))) (ρ.set i (.own false ds)) H := by
  refine ⟨s.gr, s.new, s.fr, fun b ⟨j, c, es, r, h1, h2, h3⟩ => ?_, s.al, fun j es h => ?_⟩
  · rcases set_get h1 with ⟨z1, z, z3⟩ | ⟨z, h1⟩
    · subst z1
      by_cases hl : j < σ.length
      · rw [List.getElem?_set_self hl] at h2
        cases h2
        cases z
        exact .inr (n b h3)
      · rw [List.getElem?_eq_none (by rw [List.length_set]; omega)] at h2
        cases h2
    · rw [List.getElem?_set_ne (Ne.symm z)] at h2
      exact s.ow b ⟨j, c, es, r, h1, h2, h3⟩
  · rcases set_get h with ⟨_, z, _⟩ | ⟨z, h⟩
    · cases z
    · rw [List.getElem?_set_ne (Ne.symm z)]
      exact s.par j es h
theorem Sx.hold {i : Nat} {p : Addr} {ds : List PyData} {G0 H0 : Hp} {ρ0 : Rho} (s : Sx G0 σ ρ0 H0 G σ ρ H) (n : H0 p = none) : Sx G0 σ ρ0 H0 G (σ.set i (some (.ref p))) (ρ.set i (.own false ds)) H :=
  s.holdC (ds := .l ds) fun a ha => by simp only [reg, List.mem_singleton] at ha; rw [ha]; exact n
/-- a list that was changed here stays from now on -/
theorem Rl.freeze (R : Rl ww K G σ ρ H) {i : Nat} {b : Bool} {ds : List PyData} (h : ρ[i]? = some (.own b (.l ds))) :
    ∃ p G', σ[i]? = some (some (.ref p)) ∧ Rl ww K G' σ (ρ.set i (.dat (.list ds))) H ∧ Sx G σ ρ H G' σ (ρ.set i (.dat (.list ds))) H ∧ Da K G' (.ref p) (.list ds) := by
  obtain ⟨p, xs, e, hp, gp, hd⟩ := R.ownL h
  have sm : Same G (upd G p (.lst xs)) := fun c o q => by
    by_cases z : c = p
    · rw [z, gp] at q; cases q
    · rw [upd_ne z]; exact q
  have hd' : Da K (upd G p (.lst xs)) (.ref p) (.list ds) := .lst upd_same (hd.same sm)
  refine ⟨p, upd G p (.lst xs), e, ?_, ?_, hd'⟩
  · refine ⟨by rw [List.length_set]; exact R.len, fun c o q => ?_, fun {j d} q => ?_, fun {j c es} q => ?_, fun {j k c c' es fs p1 q1 a} h1 h2 h3 h4 h5 h6 => ?_, fun {j ns} q => ?_, R.tb.step sm fun P ps h1 h2 => ⟨by rw [upd_ne (fun z => by rw [z, hp] at h1; cases h1)]; exact h2, h1⟩⟩
    · by_cases z : c = p
      · rw [z, upd_same] at q
        rw [z, hp]; exact q
      · rw [upd_ne z] at q
        exact R.sub c o q
    · rcases set_get q with ⟨z1, z2, _⟩ | ⟨_, q⟩
      · cases z2
        rw [z1]
        exact ⟨_, e, hd'⟩
      · obtain ⟨w, e', hw⟩ := R.dat q
        exact ⟨w, e', hw.same sm⟩
    · rcases set_get q with ⟨_, z, _⟩ | ⟨n, q⟩
      · cases z
      · obtain ⟨p', e', g', d'⟩ := R.own q
        have np : ∀ a ∈ reg p' es, a ≠ p := fun a ha z => n (R.dis q h e' e ha (by rw [z]; exact root p _))
        exact ⟨p', e', fun a ha => by rw [upd_ne (np a ha)]; exact g' a ha, d'.step sm fun _ _ => rfl⟩
    · rcases set_get h1 with ⟨_, z, _⟩ | ⟨_, h1⟩
      · cases z
      · rcases set_get h2 with ⟨_, z, _⟩ | ⟨_, h2⟩
        · cases z
        · exact R.dis h1 h2 h3 h4 h5 h6
    · rcases set_get q with ⟨_, z, _⟩ | ⟨_, q⟩
      · cases z
      · exact R.scr q
  · refine ⟨sm, fun c q => ?_, fun _ _ q _ _ => q, fun c ⟨j, c', es, r, h1, h2, h3⟩ => ?_, fun _ q => q, fun j es q => ?_⟩
    · by_cases z : c = p
      · exact .inr (.inr ⟨i, b, .l ds, p, h, e, by rw [z]; exact root p _⟩)
      · rw [upd_ne z] at q
        exact .inl q
    · rcases set_get h1 with ⟨_, z, _⟩ | ⟨_, h1⟩
      · cases z
      · exact .inl ⟨j, c', es, r, h1, h2, h3⟩
    · rcases set_get q with ⟨_, z, _⟩ | ⟨_, q⟩
      · cases z
      · exact ⟨⟨_, q, fun _ => rfl⟩, rfl⟩
/-- the list in a slot is changed -/
theorem Rl.mutateC (R : Rl ww K G σ ρ H) {i : Nat} {b : Bool} {ds es : Cn} {p : Addr} {o' : HO} (h : ρ[i]? = some (.own b ds)) (e : σ[i]? = some (some (.ref p))) (eg : ∀ r, reg r es = reg r ds) (hy : Cr ww K G (upd H p o') p es) :
    Rl ww K G σ (ρ.set i (.own b es)) (upd H p o') ∧ Sx G σ ρ H G σ (ρ.set i (.own b es)) (upd H p o') := by
  obtain ⟨p', e', gp, hd⟩ := R.own h
  rw [e] at e'
  cases e'
  have hi : i < ρ.length := (List.getElem?_eq_some_iff.mp h).1
  have sub : Same G (upd H p o') := fun c o q => by
    have z : c ≠ p := fun z => by rw [z, gp p (root p _)] at q; cases q
    rw [upd_ne z]
    exact R.sub c o q
  have back : ∀ {j : Nat} {c : Bool} {fs : Cn}, (ρ.set i (.own b es))[j]? = some (.own c fs) → ∃ gs, ρ[j]? = some (.own c gs) ∧ ∀ r, reg r fs = reg r gs := fun {j c fs} q => by
    rcases set_get q with ⟨z1, z2, _⟩ | ⟨_, q⟩
    · cases z2
      rw [z1]
      exact ⟨_, h, eg⟩
    · exact ⟨_, q, fun _ => rfl⟩
  refine ⟨⟨by rw [List.length_set]; exact R.len, sub, fun {j d} q => ?_, fun {j c fs} q => ?_, fun {j k c c' fs gs p1 q1 a} h1 h2 h3 h4 h5 h6 => ?_, fun {j ns} q => ?_, R.tb.step (Same.refl _) fun P ps h1 h2 => ⟨h2, (upd_ne (fun z : P = p => hd.noT (root p _) (show H p = some (HO.tbl ps) by rw [← z]; exact h1) ps rfl)).trans h1⟩⟩, ⟨Same.refl _, fun _ q => .inl q, fun c o q _ n => ?_, fun c ⟨j, c', fs, r, h1, h2, h3⟩ => ?_, fun c q => ?_, fun j fs q => ?_⟩⟩
  · rcases set_get q with ⟨_, z, _⟩ | ⟨_, q⟩
    · cases z
    · exact R.dat q
  · rcases set_get q with ⟨z1, z2, _⟩ | ⟨n, q⟩
    · cases z2
      rw [z1]
      exact ⟨p, e, fun a ha => gp a (eg p ▸ ha), hy⟩
    · obtain ⟨p', e', g', d'⟩ := R.own q
      have np : ∀ a ∈ reg p' fs, a ≠ p := fun a ha z => n (R.dis q h e' e ha (by rw [z]; exact root p _))
      exact ⟨p', e', g', d'.step (Same.refl _) fun a ha => upd_ne (np a ha)⟩
  · obtain ⟨_, h1, r1⟩ := back h1
    obtain ⟨_, h2, r2⟩ := back h2
    exact R.dis h1 h2 h3 h4 (r1 p1 ▸ h5) (r2 q1 ▸ h6)
  · rcases set_get q with ⟨_, z, _⟩ | ⟨_, q⟩
    · cases z
    · obtain ⟨p', e', s⟩ := R.scr q
      refine ⟨p', e', ?_⟩
      rcases s with ⟨o, s⟩ | s
      · have np : p' ≠ p := fun z => by rw [z] at s; exact hd.nf (root p _) _ _ s
        exact .inl ⟨o, by rw [upd_ne np]; exact s⟩
      · exact .inr s
  · have np : c ≠ p := fun z => n ⟨i, b, ds, p, h, e, by rw [z]; exact root p _⟩
    rw [upd_ne np]
    exact q
  · obtain ⟨gs, h1, r1⟩ := back h1
    exact .inl ⟨j, c', gs, r, h1, h2, r1 r ▸ h3⟩
  · by_cases z : c = p
    · rw [z, upd_same]; simp
    · rw [upd_ne z]; exact q
  · obtain ⟨gs, q, hr⟩ := back q
    exact ⟨⟨gs, q, hr⟩, rfl⟩
theorem Rl.mutate (R : Rl ww K G σ ρ H) {i : Nat} {b : Bool} {ds es : List PyData} {p : Addr} {ys : List V} (h : ρ[i]? = some (.own b (.l ds))) (e : σ[i]? = some (some (.ref p))) (hy : DaA K G ys es) :
    Rl ww K G σ (ρ.set i (.own b es)) (upd H p (.lst ys)) ∧ Sx G σ ρ H G σ (ρ.set i (.own b es)) (upd H p (.lst ys)) :=
  R.mutateC h e (fun _ => rfl) ⟨ys, upd_same, hy⟩
end
/-! ### names, constants -/
section
variable {X : Cx}
def fVar (i : Nat) : EF := fun ρ => match ρ[i]? with
  | some (.dat d) => some (d, ρ)
  | some (.own _ (.l ds)) => some (.list ds, ρ.set i (.dat (.list ds)))
  | _ => none
theorem de_var {i : Nat} {x : Str} {pos : Pos} (hN : X.N[i]? = some x) (hv : Vis X.env.scope x) (hd : (x == ("__debug__" : Str)) = false := by decide) (hcd : (x == ("__classdict__" : Str)) = false := by decide) : DE X (.Name x pos) (fVar i) := by
  refine pe_imp (pe_var hN hv hd hcd) ?_
  rintro σ H Q ⟨G, ρ, ρ', d, R, hf, k⟩
  unfold fVar at hf
  split at hf
  · rename_i d' h
    cases hf
    obtain ⟨v, e, hd⟩ := R.dat h
    exact ⟨v, e, k v G H R (Sx.refl _ _ _ _) hd⟩
  · rename_i b ds h
    cases hf
    obtain ⟨p, G', e, R', s, hd⟩ := R.freeze h
    exact ⟨_, e, k _ G' H R' s hd⟩
  · cases hf
def fC (d : PyData) : EF := fun ρ => some (d, ρ)
theorem de_c {e : Expr} {v : V} {d : PyData} (h : PE X e (tC v)) (hd : ∀ K H, Da K H v d) : DE X e (fC d) := by
  refine pe_imp h ?_
  rintro σ H Q ⟨G, ρ, ρ', d', R, hf, k⟩
  cases hf
  exact k v G H R (Sx.refl _ _ _ _) (hd _ _)
theorem de_int {i j pos} : DE X (.Constant (.int i) j pos) (fC (.int i)) := de_c pe_int fun _ _ => .int i
theorem de_bl {b j pos} : DE X (.Constant (.bool b) j pos) (fC (.bool b)) := de_c pe_bl fun _ _ => .bl b
theorem de_non {j pos} : DE X (.Constant .none j pos) (fC .none) := de_c pe_non fun _ _ => .non
theorem de_str {x j pos} : DE X (.Constant (.str x) j pos) (fC (.str x)) := de_c pe_str fun _ _ => .str x
/-! ### two in a row -/
theorem two {ww : World} {K : PySem.W.Frag} {f1 f2 : EF} {σ : L2.St} {H : Hp} {R2 : V → V → Hp → Prop} {G : Hp} {ρ ρ1 ρ2 : Rho} {d1 d2 : PyData} (R : Rl ww K G σ ρ H) (h1 : f1 ρ = some (d1, ρ1)) (h2 : f2 ρ1 = some (d2, ρ2))
    (k : ∀ v1 v2 G' H', Rl ww K G' σ ρ2 H' → Sx G σ ρ H G' σ ρ2 H' → Da K G' v1 d1 → Da K G' v2 d2 → R2 v1 v2 H') : rE ww K f1 σ H fun v1 H1 => rE ww K f2 σ H1 fun v2 H2 => R2 v1 v2 H2 :=
  ⟨G, ρ, ρ1, d1, R, h1, fun v1 G1 H1 R1 s1 q1 => ⟨G1, ρ1, ρ2, d2, R1, h2, fun v2 G2 H2 R2 s2 q2 => k v1 v2 G2 H2 R2 (s1.trans s2) (q1.same s2.gr) q2⟩⟩
/-! ### tests -/
def fTst (f : EF) : TF := fun ρ => match f ρ with
  | some (.bool b, ρ') => some (b, ρ')
  | _ => none
theorem fTst_of {f : EF} {ρ ρ' : Rho} {b : Bool} (h : fTst f ρ = some (b, ρ')) : f ρ = some (.bool b, ρ') := by
  unfold fTst at h
  split at h
  · rename_i b' ρ2 e
    cases h
    exact e
  · cases h
theorem dt_of {ww : World} {K : PySem.W.Frag} {f : EF} : ∀ σ H (Q : Bool → Hp → Prop), rT ww K (fTst f) σ H Q → rE ww K f σ H fun x H1 => ∃ c, x = .bl c ∧ Q c H1 := by
  rintro σ H Q ⟨G, ρ, ρ', b, R, hf, k⟩
  refine ⟨G, ρ, ρ', .bool b, R, fTst_of hf, fun v G' H' R' s q => ?_⟩
  cases q
  exact ⟨b, rfl, k G' H' R' s⟩
theorem dt_val {e : Expr} {f : EF} (h : DE X e f) (he : ∀ whole, isTrue e X.env whole = (do let v ← whole; standAt e.pos; holding [v] (truthy v)) := by intro _; rfl) : DT X e (fTst f) :=
  pt_imp (pt_val h he) dt_of
def fNot (f : TF) : TF := fun ρ => match f ρ with
  | some (b, ρ') => some (!b, ρ')
  | none => none
def fAnd (f g : TF) : TF := fun ρ => match f ρ with
  | some (true, ρ') => g ρ'
  | some (false, ρ') => some (false, ρ')
  | none => none
def fOr (f g : TF) : TF := fun ρ => match f ρ with
  | some (false, ρ') => g ρ'
  | some (true, ρ') => some (true, ρ')
  | none => none
theorem dt_not {a : Expr} {f : TF} {pos : Pos} (h : DT X a f) : DT X (.UnaryOp .Not a pos) (fNot f) := by
  refine pt_imp (pt_not h) ?_
  rintro σ H Q ⟨G, ρ, ρ', b, R, hf, k⟩
  unfold fNot at hf
  split at hf
  · rename_i c ρ2 e
    cases hf
    exact ⟨G, ρ, _, c, R, e, fun G' H' R' s => k G' H' R' s⟩
  · cases hf
theorem rT_and {ww : World} {K : PySem.W.Frag} {f g : TF} : ∀ σ H Q, rT ww K (fAnd f g) σ H Q → tAnd (rT ww K f) (rT ww K g) σ H Q := by
  rintro σ H Q ⟨G, ρ, ρ', b, R, hf, k⟩
  unfold fAnd at hf
  split at hf
  · rename_i ρ2 e
    exact ⟨G, ρ, ρ2, true, R, e, fun G1 H1 R1 s1 => by dsimp only; rw [if_pos rfl]; exact ⟨G1, ρ2, ρ', b, R1, hf, fun G' H' R' s => k G' H' R' (s1.trans s)⟩⟩
  · rename_i ρ2 e
    cases hf
    exact ⟨G, ρ, _, false, R, e, fun G1 H1 R1 s1 => by dsimp only; rw [if_neg Bool.false_ne_true]; exact k G1 H1 R1 s1⟩
  · cases hf
theorem rT_or {ww : World} {K : PySem.W.Frag} {f g : TF} : ∀ σ H Q, rT ww K (fOr f g) σ H Q → tOr (rT ww K f) (rT ww K g) σ H Q := by
  rintro σ H Q ⟨G, ρ, ρ', b, R, hf, k⟩
  unfold fOr at hf
  split at hf
  · rename_i ρ2 e
    exact ⟨G, ρ, ρ2, false, R, e, fun G1 H1 R1 s1 => by dsimp only; rw [if_neg Bool.false_ne_true]; exact ⟨G1, ρ2, ρ', b, R1, hf, fun G' H' R' s => k G' H' R' (s1.trans s)⟩⟩
  · rename_i ρ2 e
    cases hf
    exact ⟨G, ρ, _, true, R, e, fun G1 H1 R1 s1 => by dsimp only; rw [if_pos rfl]; exact k G1 H1 R1 s1⟩
  · cases hf
theorem dw_and1 {a : Expr} {f : TF} {pos : Pos} (h : DT X a f) : DW X (.BoolOp .And [a] pos) f := pw_and1 h
theorem dw_or1 {a : Expr} {f : TF} {pos : Pos} (h : DT X a f) : DW X (.BoolOp .Or [a] pos) f := pw_or1 h
theorem dw_and {a b : Expr} {rest : List Expr} {f g : TF} {pos : Pos} (ha : DT X a f) (hb : DW X (.BoolOp .And (b :: rest) pos) g) : DW X (.BoolOp .And (a :: b :: rest) pos) (fAnd f g) := pw_imp (pw_and ha hb) rT_and
theorem dw_or {a b : Expr} {rest : List Expr} {f g : TF} {pos : Pos} (ha : DT X a f) (hb : DW X (.BoolOp .Or (b :: rest) pos) g) : DW X (.BoolOp .Or (a :: b :: rest) pos) (fOr f g) := pw_imp (pw_or ha hb) rT_or
theorem dt_w {e : Expr} {f : TF} (h : DW X e f) : DT X e f := PW.pt h
/-! ### and, or, not, if as values -/
def fAndV (f g : EF) : EF := fun ρ => match f ρ with
  | some (.bool true, ρ') => g ρ'
  | some (.bool false, ρ') => some (.bool false, ρ')
  | _ => none
def fOrV (f g : EF) : EF := fun ρ => match f ρ with
  | some (.bool false, ρ') => g ρ'
  | some (.bool true, ρ') => some (.bool true, ρ')
  | _ => none
def fNotV (f : EF) : EF := fun ρ => match f ρ with
  | some (.bool b, ρ') => some (.bool (!b), ρ')
  | _ => none
def fIf (c : TF) (f g : EF) : EF := fun ρ => match c ρ with
  | some (true, ρ') => f ρ'
  | some (false, ρ') => g ρ'
  | none => none
theorem de_one {a : Expr} {op : BoolOp} {f : EF} {pos : Pos} (h : DE X a f) : DE X (.BoolOp op [a] pos) f := pe_one h
theorem de_and {a b : Expr} {rest : List Expr} {f g : EF} {pos : Pos} (ha : DE X a f) (hb : DE X (.BoolOp .And (b :: rest) pos) g) : DE X (.BoolOp .And (a :: b :: rest) pos) (fAndV f g) := by
  refine pe_imp (pe_and ha hb) ?_
  rintro σ H Q ⟨G, ρ, ρ', d, R, hf, k⟩
  unfold fAndV at hf
  split at hf
  · rename_i ρ2 e
    refine ⟨G, ρ, ρ2, .bool true, R, e, fun v G1 H1 R1 s1 q => ?_⟩
    cases q
    refine ⟨true, rfl, ?_⟩
    rw [if_pos rfl]
    exact ⟨G1, ρ2, ρ', d, R1, hf, fun v G' H' R' s q => k v G' H' R' (s1.trans s) q⟩
  · rename_i ρ2 e
    cases hf
    refine ⟨G, ρ, _, .bool false, R, e, fun v G1 H1 R1 s1 q => ?_⟩
    cases q
    refine ⟨false, rfl, ?_⟩
    rw [if_neg Bool.false_ne_true]
    exact k _ G1 H1 R1 s1 (.bl _)
  · cases hf
theorem de_or {a b : Expr} {rest : List Expr} {f g : EF} {pos : Pos} (ha : DE X a f) (hb : DE X (.BoolOp .Or (b :: rest) pos) g) : DE X (.BoolOp .Or (a :: b :: rest) pos) (fOrV f g) := by
  refine pe_imp (pe_or ha hb) ?_
  rintro σ H Q ⟨G, ρ, ρ', d, R, hf, k⟩
  unfold fOrV at hf
  split at hf
  · rename_i ρ2 e
    refine ⟨G, ρ, ρ2, .bool false, R, e, fun v G1 H1 R1 s1 q => ?_⟩
    cases q
    refine ⟨false, rfl, ?_⟩
    rw [if_neg Bool.false_ne_true]
    exact ⟨G1, ρ2, ρ', d, R1, hf, fun v G' H' R' s q => k v G' H' R' (s1.trans s) q⟩
  · rename_i ρ2 e
    cases hf
    refine ⟨G, ρ, _, .bool true, R, e, fun v G1 H1 R1 s1 q => ?_⟩
    cases q
    refine ⟨true, rfl, ?_⟩
    rw [if_pos rfl]
    exact k _ G1 H1 R1 s1 (.bl _)
  · cases hf
theorem de_not {a : Expr} {f : EF} {pos : Pos} (h : DE X a f) : DE X (.UnaryOp .Not a pos) (fNotV f) := by
  refine pe_imp (pe_not h) ?_
  rintro σ H Q ⟨G, ρ, ρ', d, R, hf, k⟩
  unfold fNotV at hf
  split at hf
  · rename_i c ρ2 e
    cases hf
    refine ⟨G, ρ, _, .bool c, R, e, fun v G1 H1 R1 s1 q => ?_⟩
    cases q
    exact ⟨c, rfl, k _ G1 H1 R1 s1 (.bl _)⟩
  · cases hf
theorem de_if {c a b : Expr} {t : TF} {f g : EF} {pos : Pos} (hc : DT X c t) (ha : DE X a f) (hb : DE X b g) : DE X (.IfExp c a b pos) (fIf t f g) := by
  refine pe_imp (pe_ifExp hc ha hb) ?_
  rintro σ H Q ⟨G, ρ, ρ', d, R, hf, k⟩
  unfold fIf at hf
  split at hf
  · rename_i ρ2 e
    exact ⟨G, ρ, ρ2, true, R, e, fun G1 H1 R1 s1 => by dsimp only; rw [if_pos rfl]; exact ⟨G1, ρ2, ρ', d, R1, hf, fun v G' H' R' s q => k v G' H' R' (s1.trans s) q⟩⟩
  · rename_i ρ2 e
    exact ⟨G, ρ, ρ2, false, R, e, fun G1 H1 R1 s1 => by dsimp only; rw [if_neg Bool.false_ne_true]; exact ⟨G1, ρ2, ρ', d, R1, hf, fun v G' H' R' s q => k v G' H' R' (s1.trans s) q⟩⟩
  · cases hf
end
end DL

set_option Elab.async false
set_option linter.all false
set_option maxRecDepth 100000
set_option maxHeartbeats 4000000
/-! Dicts whose keys are tuples: what is done with them. -/
namespace DL
open PySem PySem.Spec PyProof.Rows L2 GX StX
variable [DL.FT]
def kGet (kvs : List (NestedKey × PyData)) (k : NestedKey) : Option PyData := (kvs.find? fun kv => decide (kv.1 = k)).map (·.2)
def kPut (kvs : List (NestedKey × PyData)) (k : NestedKey) (d : PyData) : List (NestedKey × PyData) := if (kGet kvs k).isSome = true then kvs.map (fun kv => if kv.1 = k then (kv.1, d) else kv) else kvs ++ [(k, d)]
abbrev KX : Type := List (NestedKey × Addr × V)
def xPut (xs : KX) (k : NestedKey) (a : Addr) (v : V) : KX := if (xs.find? fun x => decide (x.1 = k)).isSome = true then xs.map (fun x => if x.1 = k then (x.1, x.2.1, v) else x) else xs ++ [(k, a, v)]
abbrev KQ : KX → List (NestedKey × Addr × Value) → Prop := Paired fun x y => x.1 = y.1 ∧ x.2.1 = y.2.1 ∧ RelV x.2.2 y.2.2
/-! ### a key's tuple -/
mutual
theorem nis {K : PySem.W.Frag} {G : Hp} {h : Heap} (tp : ∀ a xs, TpN K G a xs → ∃ its : List Value, Vals xs its ∧ IsTup h a its.toArray) : ∀ (d : PyData) {v : V} {k : NestedKey} {u : Value}, Da K G v d → keyD d = some k → RelV v u → NestedIs h k u
  | .none, _, _, _, hd, hk, r => by cases hd; cases hk; cases r; exact .none
  | .bool b, _, _, _, hd, hk, r => by cases hd; cases hk; cases r; exact .bool rfl
  | .int i, _, _, _, hd, hk, r => by cases hd; cases hk; obtain ⟨t, rfl⟩ := r; exact .int _ _
  | .str x, _, _, _, hd, hk, r => by cases hd; cases hk; obtain ⟨t, rfl⟩ := r; exact .text _ _
  | .tuple ds, _, k, u, hd, hk, r => by
    cases hd with
    | @tup _ a xs _ hs ha =>
      unfold keyD at hk
      split at hk
      · rename_i ks e
        cases hk
        obtain rfl : u = Value.ref a := r
        obtain ⟨its, rv, o, ho, hc, n, hdat⟩ := tp a xs hs
        exact .tup ho hc hdat (by simpa using nisA tp ds ha e rv)
      · cases hk
  | .list _, _, _, _, hd, hk, r => by cases hk
  | .dict _, _, _, _, hd, hk, r => by cases hk
theorem nisA {K : PySem.W.Frag} {G : Hp} {h : Heap} (tp : ∀ a xs, TpN K G a xs → ∃ its : List Value, Vals xs its ∧ IsTup h a its.toArray) : ∀ (ds : List PyData) {vs : List V} {ks : List NestedKey} {us : List Value}, DaA K G vs ds → keyDs ds = some ks → Vals vs us → NestedAll h ks us
  | [], _, _, _, hd, hk, r => by cases hd; cases hk; cases r; exact .nil
  | d :: ds, _, _, _, hd, hk, r => by
    cases hd with
    | cons h1 h2 =>
      unfold keyDs at hk
      split at hk
      · rename_i k ks e1 e2
        cases hk
        cases r with
        | cons r1 r2 => exact .cons (nis tp d h1 e1 r1) (nisA tp ds h2 e2 r2)
      · cases hk
end
/-- a key that stands -/
def KeyAt (K : PySem.W.Frag) (G : Hp) (a : Addr) (k : NestedKey) : Prop := (∃ d, keyD d = some k ∧ Da K G (.ref a) d) ∧ NestedKey.depth k ≤ 8
section
variable {X : Cx} {pins : List (Addr × Obj)} {σ : L2.St} {G H : Hp} {s : Shared} {a p : Addr} {k : NestedKey} {xs : KX} {kvs : List (NestedKey × PyData)} {A : Around} {E : Value → Shared → Prop}
theorem keyAt_is (I : Inv X pins σ H s) (sm : Same G H) (h : KeyAt X.K G a k) : (nestedKind X.prog X.w).is s.heap k a := by
  obtain ⟨⟨d, e, hd⟩, dp⟩ := h
  refine ⟨nis (h := s.heap) (fun b ys ht => ?_) d hd e rfl, dp⟩
  obtain ⟨its, r, t, _⟩ := I.tuple (ht.same sm).sq
  exact ⟨its, r, t⟩
theorem dic_at (I : Inv X pins σ H s) (sm : Same G H) (hp : H p = some (.ext (DicP X.w p xs))) (hx : DicA X.K G xs kvs) :
    (p == sysModules) = false ∧ ∃ ys, KQ xs ys ∧ s.heap.DictOfH (nestedKind X.prog X.w) p ys := by
  obtain ⟨⟨hd, ys, r, o, es, ep, e, c, dt, l, nd⟩, _, _⟩ := I.hok p _ hp
  refine ⟨hd, ys, r, o, es, ep, e, c, dt, l, ?_, nd⟩
  have all : ∀ {l : KX} {m : List (NestedKey × Addr × Value)} {kvs : List (NestedKey × PyData)}, KQ l m → DicA X.K G l kvs → ∀ x ∈ m, (nestedKind X.prog X.w).is s.heap x.1 x.2.1 := by
    intro l m kvs q
    induction q generalizing kvs with
    | nil => intro _ x hx; exact nomatch hx
    | @cons x y xs' ys' hq t ih =>
      intro hz z hm
      cases hz with
      | cons h1 h2 =>
        rcases List.mem_cons.mp hm with e | hm
        · subst e
          rw [← hq.1, ← hq.2.1]
          exact keyAt_is I sm ⟨h1.2.1, h1.2.2.1⟩
        · exact ih h2 z hm
  exact all r hx
theorem kGet_at : ∀ {xs : KX} {kvs : List (NestedKey × PyData)} {ys : List (NestedKey × Addr × Value)}, KQ xs ys → DicA X.K G xs kvs →
    (kGet kvs k = none ∧ atKey ys k = none) ∨ ∃ d v c u, kGet kvs k = some d ∧ atKey ys k = some (c, u) ∧ RelV v u ∧ Da X.K G v d := by
  intro xs kvs ys q
  induction q generalizing kvs with
  | nil => intro h; cases h; exact .inl ⟨rfl, rfl⟩
  | @cons x y xs' ys' hq t ih =>
    intro hz
    cases hz with
    | @cons _ kv _ kvs' h1 h2 =>
      by_cases e : kv.1 = k
      · have ey : y.1 = k := hq.1.symm.trans (h1.1.trans e)
        refine .inr ⟨kv.2, x.2.2, y.2.1, y.2.2, ?_, ?_, hq.2.2, h1.2.2.2⟩
        · simp [kGet, List.find?_cons, e]
        · simp [atKey, List.find?_cons, ey]
      · have ey : ¬ y.1 = k := fun z => e (h1.1.symm.trans (hq.1.trans z))
        have e1 : kGet (kv :: kvs') k = kGet kvs' k := by simp [kGet, List.find?_cons, e]
        have e2 : atKey (y :: ys') k = atKey ys' k := by simp [atKey, List.find?_cons, ey]
        rw [e1, e2]
        exact ih h2
theorem kGet_isSome {ys : List (NestedKey × Addr × Value)} (q : KQ xs ys) (hx : DicA X.K G xs kvs) : (kGet kvs k).isSome = (atKey ys k).isSome := by
  rcases kGet_at (k := k) q hx with ⟨e1, e2⟩ | ⟨d, v, c, u, e1, e2, _⟩
  · rw [e1, e2]; rfl
  · rw [e1, e2]; rfl
/-! ### in, not in, len, get -/
def rInK (ww : World) (K : PySem.W.Frag) (neg : Bool) : R2 := fun x y H Q => ∃ G a p k xs kvs, x = .ref a ∧ y = .ref p ∧ Same G H ∧ KeyAt K G a k ∧ H p = some (.ext (DicP ww p xs)) ∧ DicA K G xs kvs ∧ Q (.bl (neg ^^ (kGet kvs k).isSome)) H
theorem op_inK (hu : X.A.units + 64 < cLine) : OpR X (compareOp .In) (rInK X.w X.K false) := by
  intro pins s σ H x y v u Q I rx ry h
  obtain ⟨G, a, p, k, xs, kvs, rfl, rfl, sm, hk, hp, hx, q⟩ := h
  cases rx; cases ry
  obtain ⟨hd, ys, r, dd⟩ := dic_at I sm hp hx
  refine wpAny_in_heap (by show X.A.units + 1 + 8 < cLine; omega) (keyAt_is I sm hk) hd dd ?_
  rw [Bool.false_xor, kGet_isSome r hx] at q
  exact ⟨.bl _, H, I.tok _, rfl, q⟩
theorem op_notInK (hu : X.A.units + 64 < cLine) : OpR X (compareOp .NotIn) (rInK X.w X.K true) := by
  intro pins s σ H x y v u Q I rx ry h
  obtain ⟨G, a, p, k, xs, kvs, rfl, rfl, sm, hk, hp, hx, q⟩ := h
  cases rx; cases ry
  obtain ⟨hd, ys, r, dd⟩ := dic_at I sm hp hx
  refine wpAny_notIn_heap (by show X.A.units + 1 + 8 < cLine; omega) (keyAt_is I sm hk) hd dd ?_
  rw [Bool.true_xor, kGet_isSome r hx] at q
  exact ⟨.bl _, H, I.tok _, rfl, q⟩
def rIxK (ww : World) (K : PySem.W.Frag) : R2 := fun x y H Q => ∃ G a p k xs kvs d, x = .ref p ∧ y = .ref a ∧ Same G H ∧ KeyAt K G a k ∧ H p = some (.ext (DicP ww p xs)) ∧ DicA K G xs kvs ∧ kGet kvs k = some d ∧ ∀ v, Da K G v d → Q v H
def rLenK (ww : World) (K : PySem.W.Frag) : List V → Hp → VK → Prop := fun vs H Q => ∃ G p xs kvs, vs = [.ref p] ∧ Same G H ∧ H p = some (.ext (DicP ww p xs)) ∧ DicA K G xs kvs ∧ kvs.length ≤ 1000000 ∧ Q (.int kvs.length) H
theorem paired_length {α β : Type} {F : α → β → Prop} : ∀ {as : List α} {bs : List β}, Paired F as bs → as.length = bs.length
  | _, _, .nil => rfl
  | _, _, .cons _ t => congrArg Nat.succ (paired_length t)
theorem call_lenK : CallR X (.builtin "len") (rLenK X.w X.K) := by
  intro pins s σ H vs us Q I r h
  obtain ⟨G, p, xs, kvs, rfl, sm, hp, hx, hz, q⟩ := h
  obtain ⟨u, rfl, ru⟩ := r.one
  obtain rfl : u = Value.ref p := ru
  obtain ⟨hd, ys, r, dd⟩ := dic_at I sm hp hx
  have l1 := paired_length r
  have l2 := paired_length hx
  refine PyProof.Rows.call_len_slot (n := ys.length) dd.typeIs PySem.F.slot_dict_len (fun Q' hq => len_keyed hd ⟨ys, dd, rfl⟩ (by rw [pairsH_length]; exact hq)) (by omega) (by omega) ?_
  rw [← l1, l2]
  exact ⟨.int kvs.length, H, I.tok _, ⟨_, rfl⟩, q⟩
def rGetK (ww : World) (K : PySem.W.Frag) : V → List V → Hp → VK → Prop := fun x vs H Q => ∃ G a p k xs kvs, x = .ref p ∧ vs = [.ref a] ∧ Same G H ∧ KeyAt K G a k ∧ H p = some (.ext (DicP ww p xs)) ∧ DicA K G xs kvs ∧ ∀ v, Da K G v ((kGet kvs k).getD .none) → Q v H
theorem mt_getK (hu : X.A.units + 64 < cLine) : MtR X "dict.get" (rGetK X.w X.K) := by
  intro pins s σ H x vs v us Q I rx rv h
  obtain ⟨G, a, p, k, xs, kvs, rfl, rfl, sm, hk, hp, hx, q⟩ := h
  cases rx
  obtain ⟨u, rfl, ru⟩ := rv.one
  obtain rfl : u = Value.ref a := ru
  obtain ⟨hd, ys, r, dd⟩ := dic_at I sm hp hx
  refine call_meetsIn PySem.F.slot_dict_get dd.typeIs PySem.F.entry_dict_get (PySem.F.args_dict_get_2 _ _) (meetsH_dict_get (nestedKind X.prog X.w) p a hd) ⟨by show X.A.units + 1 + 8 < cLine; omega, k, ys, keyAt_is I sm hk, dd, ?_⟩
  rcases kGet_at (k := k) r hx with ⟨e1, e2⟩ | ⟨d, v, c, u, e1, e2, rvu, hd⟩
  · rw [e1] at q
    rw [e2]
    exact ⟨.non, H, I.tok _, rfl, q _ .non⟩
  · rw [e1] at q
    rw [e2]
    exact ⟨v, H, I.tok _, rvu, q _ hd⟩
theorem ix_K (hu : X.A.units + 64 < cLine) : IxR X (rIxK X.w X.K) := by
  intro value slice pins s σ H x y v u Q I rx ry h hs
  obtain ⟨G, a, p, k, xs, kvs, d, rfl, rfl, sm, hk, hp, hx, e, q⟩ := h
  cases rx; cases ry
  obtain ⟨hd, ys, r, dd⟩ := dic_at I sm hp hx
  rcases kGet_at (k := k) r hx with ⟨e1, e2⟩ | ⟨d', v, c, u, e1, e2, rvu, hd'⟩
  · rw [e] at e1; cases e1
  · rw [e] at e1; cases e1
    have hT := dd.typeIs
    unfold subscriptTail
    refine wpAny_bind ?_
    rw [getitemInPython_of_ne hT.not_modules]
    refine wpAny_bind (wpAny_specialOf hT PySem.F.slot_dict_getitem.lookup ?_)
    have h2 : wpAny (model X.prog X.w) X.A (getItem (.ref p) (.ref a)) (EP X pins σ Q) X.xe s := by
      refine wpAny_getItem_heap (by show X.A.units + 1 + 8 < cLine; omega) (keyAt_is I sm hk) dd e2 ?_
      exact ⟨v, H, I.tok _, rvu, q v hd'⟩
    have fin : wpAny (model X.prog X.w) X.A (subscripted slice false (.ref p) (.ref a)) (fun r s₃ => wpAny (model X.prog X.w) X.A (letTemporaryGo value (.ref p) r >>= fun _ => pure r) (EP X pins σ Q) X.xe s₃) X.xe s := by
      rw [hs]
      exact wpAny_operating (wpAny_mono h2 (fun r s₃ h₃ => wpAny_bind (wpAny_letTemporaryGo (wpAny_pure h₃))) fun _ _ x => x)
    first
      | exact wpAny_pure (wpAny_bind fin)
      | exact wpAny_bind (wpAny_pure (wpAny_bind fin))
      | exact wpAny_bind fin
/-! ### d[k] = v -/
theorem storedQ {ys : List (NestedKey × Addr × Value)} {v : V} {u : Value} (r : KQ xs ys) (rv : RelV v u) : KQ (xPut xs k a v) (storedH ys k a u) := by
  have e : ∀ {xs : KX} {ys : List (NestedKey × Addr × Value)}, KQ xs ys → (xs.find? fun x => decide (x.1 = k)).isSome = (atKey ys k).isSome := by
    intro xs ys q
    induction q with
    | nil => rfl
    | @cons x y xs' ys' hq t ih =>
      by_cases c : y.1 = k
      · have cx : x.1 = k := hq.1.trans c
        simp [atKey, List.find?_cons, c, cx]
      · have cx : ¬ x.1 = k := fun z => c (hq.1.symm.trans z)
        have e2 : atKey (y :: ys') k = atKey ys' k := by simp [atKey, List.find?_cons, c]
        rw [e2, ← ih]
        simp [List.find?_cons, cx]
  have m : ∀ {xs : KX} {ys : List (NestedKey × Addr × Value)}, KQ xs ys → KQ (xs.map fun x => if x.1 = k then (x.1, x.2.1, v) else x) (ys.map (putAt k u)) := by
    intro xs ys q
    induction q with
    | nil => exact .nil
    | @cons x y xs' ys' hq t ih =>
      rw [List.map_cons, List.map_cons]
      refine .cons ?_ ih
      unfold putAt
      by_cases c : y.1 = k
      · rw [if_pos c, if_pos (hq.1.trans c)]; exact ⟨hq.1, hq.2.1, rv⟩
      · rw [if_neg c, if_neg (fun z => c (hq.1.symm.trans z))]; exact hq
  unfold xPut storedH
  rw [e r]
  by_cases q : (atKey ys k).isSome = true
  · rw [if_pos q, if_pos q]; exact m r
  · rw [if_neg q, if_neg q]; exact Paired.snoc r ⟨rfl, rfl, rv⟩
theorem storedA {K : PySem.W.Frag} {v : V} {d : PyData} (hx : DicA K G xs kvs) (hk : KeyAt K G a k) (hd : Da K G v d) : DicA K G (xPut xs k a v) (kPut kvs k d) := by
  have e : ∀ {xs : KX} {kvs : List (NestedKey × PyData)}, DicA K G xs kvs → (xs.find? fun x => decide (x.1 = k)).isSome = (kGet kvs k).isSome := by
    intro xs kvs q
    unfold DicA at q
    induction q with
    | nil => rfl
    | @cons x y xs' ys' hq t ih =>
      by_cases c : y.1 = k
      · have cx : x.1 = k := hq.1.trans c
        simp [kGet, List.find?_cons, c, cx]
      · have cx : ¬ x.1 = k := fun z => c (hq.1.symm.trans z)
        have e2 : kGet (y :: ys') k = kGet ys' k := by simp [kGet, List.find?_cons, c]
        rw [e2, ← ih]
        simp [List.find?_cons, cx]
  have m : ∀ {xs : KX} {kvs : List (NestedKey × PyData)}, DicA K G xs kvs → DicA K G (xs.map fun x => if x.1 = k then (x.1, x.2.1, v) else x) (kvs.map fun kv => if kv.1 = k then (kv.1, d) else kv) := by
    intro xs kvs q
    unfold DicA at q
    induction q with
    | nil => exact .nil
    | @cons x y xs' ys' hq t ih =>
      rw [List.map_cons, List.map_cons]
      refine .cons ?_ ih
      by_cases c : y.1 = k
      · rw [if_pos c, if_pos (hq.1.trans c)]; exact ⟨hq.1, hq.2.1, hq.2.2.1, hd⟩
      · rw [if_neg c, if_neg (fun z => c (hq.1.symm.trans z))]; exact hq
  unfold xPut kPut
  rw [e hx]
  by_cases q : (kGet kvs k).isSome = true
  · rw [if_pos q, if_pos q]; exact m hx
  · rw [if_neg q, if_neg q]; exact Paired.snoc hx ⟨rfl, hk.1, hk.2, hd⟩
theorem dicP_of {P : Program} {w : World} {h : Heap} {ys : List (NestedKey × Addr × Value)} (hd : (p == sysModules) = false) (r : KQ xs ys) (dd : h.DictOfH (nestedKind P w) p ys) : DicP w p xs h := by
  obtain ⟨o, es, ep, e, c, dt, l, _, nd⟩ := dd
  exact ⟨hd, ys, r, o, es, ep, e, c, dt, l, nd⟩
theorem ext_ok {P : Program} {w : World} {H' : Hp} {h : Heap} {xs : KX} (x : DicP w p xs h) : ObjOk P w H' h p (.ext (DicP w p xs)) := ⟨x, x.there, DicP.stays⟩
theorem dic_write {h' : Heap} {t' : Nat} {xs' : KX} (I : Inv X pins σ H s) (hp : H p = some (.ext (DicP X.w p xs))) (hs : Heap.SameBut p s.heap h') (x : DicP X.w p xs' h') :
    Inv X pins σ (upd H p (.ext (DicP X.w p xs'))) { s with heap := h', toks := t' } :=
  d_write I (by rw [hp]; exact True.intro) hs x.there (ext_ok x)
def rSetK (ww : World) (K : PySem.W.Frag) : TSet := fun o i v H Q => ∃ G p a k xs kvs, o = .ref p ∧ i = .ref a ∧ Same G H ∧ KeyAt K G a k ∧ H p = some (.ext (DicP ww p xs)) ∧ DicA K G xs kvs ∧ kvs.length ≤ 1000000 ∧ Q (upd H p (.ext (DicP ww p (xPut xs k a v))))
theorem set_K (hu : X.A.units + 64 < cLine) : PSet X (rSetK X.w X.K) := by
  intro pins s σ H o i v ov iv u Q I ro ri rv h
  obtain ⟨G, p, a, k, xs, kvs, rfl, rfl, sm, hk, hp, hx, hz, q⟩ := h
  cases ro; cases ri
  obtain ⟨hd, ys, r, dd⟩ := dic_at I sm hp hx
  have l1 := paired_length r
  have l2 := paired_length hx
  have hz : ys.length ≤ sizeLine := by rw [sizeLine_eq]; omega
  refine wpAny_setItem_heap (hsz := hz) (by show X.A.units + 1 + 8 < cLine; omega) (keyAt_is I sm hk) dd fun h' dd' hs => ?_
  exact ⟨_, dic_write I hp hs (dicP_of hd (storedQ r rv) dd'), q⟩
/-! ### {} -/
def tNewK (ww : World) : TE := fun _ H Q => ∀ p, H p = none → Q (.ref p) (upd H p (.ext (DicP ww p [])))
theorem pe_newK {pos : Pos} : PE X (.Dict [] [] pos) (tNewK X.w) := ⟨fun pins s σ H Q I h =>
  wpAny_Dict_empty ⟨.ref s.heap.objs.size, _, I.laid (a := s.heap.objs.size) (o := .ext (DicP X.w s.heap.objs.size [])) (t' := s.toks) (fun _ _ q => Heap.get?_push_of_some _ q) (Nat.le_refl _)
    (ext_ok (dicP_of (P := X.prog) (beq_eq_false_iff_ne.mpr (Ne.symm (Nat.ne_of_lt I.big))) .nil (Heap.DictOfH.new s.heap))), rfl, h _ (I.hok.fresh (Nat.le_refl _))⟩⟩
/-! ### d.setdefault(k, v) -/
def rDefK (ww : World) (K : PySem.W.Frag) : V → List V → Hp → VK → Prop := fun x vs H Q => ∃ G p a v k xs kvs, x = .ref p ∧ vs = [.ref a, v] ∧ Same G H ∧ KeyAt K G a k ∧ H p = some (.ext (DicP ww p xs)) ∧ DicA K G xs kvs ∧ kvs.length ≤ 1000000 ∧
  (∀ d z, kGet kvs k = some d → Da K G z d → Q z H) ∧ (kGet kvs k = none → Q v (upd H p (.ext (DicP ww p (xPut xs k a v)))))
theorem mt_defK (hu : X.A.units + 64 < cLine) : MtM X "dict.setdefault" (rDefK X.w X.K) := by
  intro pins s σ H x vs v us Q I rx rv h
  obtain ⟨G, p, a, y, k, xs, kvs, rfl, rfl, sm, hk, hp, hx, hz, q1, q2⟩ := h
  cases rx
  obtain ⟨u1, u2, rfl, ru, ru2⟩ := rv.two
  obtain rfl : u1 = Value.ref a := ru
  obtain ⟨hd, ys, r, dd⟩ := dic_at I sm hp hx
  have l1 := paired_length r
  have l2 := paired_length hx
  have hz : ys.length ≤ sizeLine := by rw [sizeLine_eq]; omega
  refine call_setdefault_heap (hsz := hz) (by show X.A.units + 1 + 8 < cLine; omega) (keyAt_is I sm hk) hd dd (fun pr hpr => ?_) (fun hn h' dd' hs => ?_)
  · rcases kGet_at (k := k) r hx with ⟨e1, e2⟩ | ⟨d, z, c, u, e1, e2, rvu, hd⟩
    · rw [e2] at hpr; cases hpr
    · rw [e2] at hpr; cases hpr
      exact ⟨z, H, I.tok _, rvu, q1 d z e1 hd⟩
  · rcases kGet_at (k := k) r hx with ⟨e1, e2⟩ | ⟨d, z, c, u, e1, e2, rvu, hd⟩
    · exact ⟨y, _, dic_write I hp hs (dicP_of hd (storedQ r ru2) dd'), ru2, q2 e1⟩
    · rw [e2] at hn; cases hn
end
end DL

set_option Elab.async false
set_option linter.all false
set_option maxRecDepth 100000
set_option maxHeartbeats 4000000
/-! Operands, operators over data. -/
namespace DL
open PySem PySem.Spec PyProof.Rows L2 GX
variable [DL.FT]
mutual
theorem keyD_data : ∀ k : NestedKey, keyD (NestedKey.data k) = some k
  | .none => rfl
  | .num _ => rfl
  | .text _ => rfl
  | .tup ks => by
    unfold NestedKey.data keyD
    rw [keyDs_data ks]
theorem keyDs_data : ∀ ks : List NestedKey, keyDs (NestedKey.datas ks) = some ks
  | [] => rfl
  | k :: ks => by
    unfold NestedKey.datas keyDs
    rw [keyD_data k, keyDs_data ks]
end
/-- a dict under change, as a datum -/
def dicD (kvs : List (NestedKey × PyData)) : PyData := .dict ((.none, .none) :: kvs.map fun kv => (NestedKey.data kv.1, kv.2))
def undict : List (PyData × PyData) → List (NestedKey × PyData)
  | [] => []
  | (d, v) :: r => match keyD d with
    | some k => (k, v) :: undict r
    | none => undict r
theorem undict_map : ∀ kvs : List (NestedKey × PyData), undict (kvs.map fun kv => (NestedKey.data kv.1, kv.2)) = kvs
  | [] => rfl
  | kv :: kvs => by
    rw [List.map_cons]
    unfold undict
    rw [keyD_data]
    dsimp only
    rw [undict_map kvs]
/-- an operand: a datum, or what a slot holds -/
inductive Ag where
  | d (x : PyData) | v (i : Nat)
def look (ρ : Rho) : Ag → Option PyData
  | .d x => some x
  | .v i => match ρ[i]? with
    | some (.dat d) => some d
    | some (.own _ (.l ds)) => some (.list ds)
    | some (.own _ (.k kvs)) => some (dicD kvs)
    | _ => none
def AgR (K : PySem.W.Frag) (G : Hp) (σ : L2.St) : Ag → V → Prop
  | .d x, v => Da K G v x
  | .v i, v => σ[i]? = some (some v)
theorem AgR.same {K : PySem.W.Frag} {G G' : Hp} {σ : L2.St} {a : Ag} {v : V} (h : AgR K G σ a v) (s : Same G G') : AgR K G' σ a v := by
  cases a with
  | d x => exact Da.same h s
  | v i => exact h
/-- what is read: a datum, or a list that is under change -/
def Bo (ww : World) (K : PySem.W.Frag) (G H : Hp) (v : V) (d : PyData) : Prop := Da K G v d ∨ (∃ p xs ds, v = .ref p ∧ d = .list ds ∧ H p = some (.lst xs) ∧ DaA K G xs ds) ∨
  ∃ p kvs, v = .ref p ∧ d = dicD kvs ∧ Cr ww K G H p (.k kvs)
abbrev GF := Rho → Option (Ag × Rho)
def rG (ww : World) (K : PySem.W.Frag) (f : GF) : TE := fun σ H Q => ∃ G ρ ρ' a, Rl ww K G σ ρ H ∧ f ρ = some (a, ρ') ∧ ∀ v G' H', Rl ww K G' σ ρ' H' → Sx G σ ρ H G' σ ρ' H' → AgR K G' σ a v → Q v H'
def DG (X : Cx) (e : Expr) (f : GF) : Prop := PE X e (rG X.w X.K f)
section
variable {ww : World} {K : PySem.W.Frag} {G H : Hp} {σ : L2.St} {ρ : Rho} {v : V} {d : PyData}
theorem look_bo {a : Ag} (R : Rl ww K G σ ρ H) (h : AgR K G σ a v) (l : look ρ a = some d) : Bo ww K G H v d := by
  cases a with
  | d x =>
    cases l
    exact .inl h
  | v i =>
    unfold look at l
    dsimp only at l
    split at l
    · rename_i d' e
      cases l
      obtain ⟨w, e', hw⟩ := R.dat e
      have h' : σ[i]? = some (some v) := h
      rw [h'] at e'
      cases e'
      exact .inl hw
    · rename_i b ds e
      cases l
      obtain ⟨p, xs, e', hp, _, hd⟩ := R.ownL e
      have h' : σ[i]? = some (some v) := h
      rw [h'] at e'
      cases e'
      exact .inr (.inl ⟨p, xs, ds, rfl, rfl, hp, hd⟩)
    · rename_i b kvs e
      cases l
      obtain ⟨p, e', _, hd⟩ := R.own e
      have h' : σ[i]? = some (some v) := h
      rw [h'] at e'
      cases e'
      exact .inr (.inr ⟨p, kvs, rfl, rfl, hd⟩)
    · cases l
theorem bo_int {i : Int} (h : Bo ww K G H v (.int i)) : v = .int i := by
  rcases h with h | ⟨_, _, _, _, e, _⟩ | ⟨_, _, _, e, _⟩
  · cases h; rfl
  · cases e
  · cases e
theorem bo_bool {i : Bool} (h : Bo ww K G H v (.bool i)) : v = .bl i := by
  rcases h with h | ⟨_, _, _, _, e, _⟩ | ⟨_, _, _, e, _⟩
  · cases h; rfl
  · cases e
  · cases e
theorem bo_str {i : Str} (h : Bo ww K G H v (.str i)) : v = .str i := by
  rcases h with h | ⟨_, _, _, _, e, _⟩ | ⟨_, _, _, e, _⟩
  · cases h; rfl
  · cases e
  · cases e
theorem bo_non (h : Bo ww K G H v .none) : v = .non := by
  rcases h with h | ⟨_, _, _, _, e, _⟩ | ⟨_, _, _, e, _⟩
  · cases h; rfl
  · cases e
  · cases e
theorem bo_tup {ds : List PyData} (h : Bo ww K G H v (.tuple ds)) : ∃ a xs, v = .ref a ∧ TpN K G a xs ∧ DaA K G xs ds := by
  rcases h with h | ⟨_, _, _, _, e, _⟩ | ⟨_, _, _, e, _⟩
  · cases h with | tup hs ha => exact ⟨_, _, rfl, hs, ha⟩
  · cases e
  · cases e
theorem bo_list {ds : List PyData} (h : Bo ww K G H v (.list ds)) (s : Same G H) : ∃ a xs, v = .ref a ∧ H a = some (.lst xs) ∧ DaA K G xs ds := by
  rcases h with h | ⟨p, xs, es, rfl, e, hp, hd⟩ | ⟨_, _, _, e, _⟩
  · cases h with | lst hs ha => exact ⟨_, _, rfl, s _ _ hs, ha⟩
  · cases e
    exact ⟨_, _, rfl, hp, hd⟩
  · cases e
theorem bo_dp (h : Bo ww K G H v d) (s : Same G H) (c : d.canLay0 = true) : Dp K H v d := by
  rcases h with h | ⟨p, xs, es, rfl, e, hp, hd⟩ | ⟨_, _, _, e, _⟩
  · exact Da.dp (h.same s) c
  · subst e
    exact .lst (.inl (.inl hp)) (DaA.dp (hd.same s) (by simpa [PyData.canLay0] using c))
  · subst e
    simp [dicD, PyData.canLay0] at c
theorem bo_dic {ps : List (PyData × PyData)} {q : PyData} (h : Bo ww K G H v (.dict ((.none, q) :: ps))) : ∃ p xs kvs, v = .ref p ∧ ps = kvs.map (fun kv => (NestedKey.data kv.1, kv.2)) ∧ H p = some (.ext (DicP ww p xs)) ∧ DicA K G xs kvs := by
  rcases h with h | ⟨_, _, _, _, e, _⟩ | ⟨p, kvs, rfl, e, xs, hp, hx⟩
  · cases h
  · cases e
  · cases e
    exact ⟨p, xs, kvs, rfl, rfl, hp, hx⟩
theorem bo_key {ds : List PyData} {k : NestedKey} (h : Bo ww K G H v (.tuple ds)) (e : keyD (.tuple ds) = some k) (dp : NestedKey.depth k ≤ 8) : ∃ a, v = .ref a ∧ KeyAt K G a k := by
  obtain ⟨a, xs, rfl, ht, ha⟩ := bo_tup h
  exact ⟨a, rfl, ⟨⟨_, e, .tup ht ha⟩, dp⟩⟩
theorem newT {p : Addr} {o : Obj} {xs : List V} {ds : List PyData} (n : G p = none) (od : o.dict = none) (h : DaA K G xs ds) : Da K (upd G p (.frz o (.tup xs))) (.ref p) (.tuple ds) := by
  have sm : Same G (upd G p (.frz o (.tup xs))) := fun c o q => by
    by_cases z : c = p
    · rw [z, n] at q; cases q
    · rw [upd_ne z]; exact q
  exact .tup (.inl ⟨o, upd_same, od⟩) (h.same sm)
theorem newL {p : Addr} {xs : List V} {ds : List PyData} (n : G p = none) (h : DaA K G xs ds) : Da K (upd G p (.lst xs)) (.ref p) (.list ds) := by
  have sm : Same G (upd G p (.lst xs)) := fun c o q => by
    by_cases z : c = p
    · rw [z, n] at q; cases q
    · rw [upd_ne z]; exact q
  exact .lst upd_same (h.same sm)
end
section
variable {X : Cx}
def gVar (i : Nat) : GF := fun ρ => match look ρ (.v i) with
  | some _ => some (.v i, ρ)
  | none => none
theorem dg_var {i : Nat} {x : Str} {pos : Pos} (hN : X.N[i]? = some x) (hv : Vis X.env.scope x) (hd : (x == ("__debug__" : Str)) = false := by decide) (hcd : (x == ("__classdict__" : Str)) = false := by decide) : DG X (.Name x pos) (gVar i) := by
  refine pe_imp (pe_var hN hv hd hcd) ?_
  rintro σ H Q ⟨G, ρ, ρ', a, R, hf, k⟩
  unfold gVar at hf
  split at hf
  · rename_i d l
    cases hf
    unfold look at l
    dsimp only at l
    split at l
    · rename_i d' e
      obtain ⟨v, e', hd⟩ := R.dat e
      exact ⟨v, e', k v G H R (Sx.refl _ _ _ _) e'⟩
    · rename_i b ds e
      obtain ⟨p, xs, e', _⟩ := R.ownL e
      exact ⟨_, e', k _ G H R (Sx.refl _ _ _ _) e'⟩
    · rename_i b ds e
      obtain ⟨p, e', _⟩ := R.own e
      exact ⟨_, e', k _ G H R (Sx.refl _ _ _ _) e'⟩
    · cases l
  · cases hf
def gVal (f : EF) : GF := fun ρ => match f ρ with
  | some (d, ρ') => some (.d d, ρ')
  | none => none
theorem dg_val {e : Expr} {f : EF} (h : DE X e f) : DG X e (gVal f) := by
  refine pe_imp h ?_
  rintro σ H Q ⟨G, ρ, ρ', a, R, hf, k⟩
  unfold gVal at hf
  split at hf
  · rename_i d ρ2 e
    cases hf
    exact ⟨G, ρ, _, d, R, e, fun v G' H' R' s q => k v G' H' R' s q⟩
  · cases hf
/-! ### binary -/
abbrev Op2 := PyData → PyData → Option PyData
def rOp (ww : World) (K : PySem.W.Frag) (op : Op2) : R2 := fun x y H Q => ∃ G d e r, Same G H ∧ Bo ww K G H x d ∧ Bo ww K G H y e ∧ op d e = some r ∧ ∀ v G' H', Xt G H G' H' → Da K G' v r → Q v H'
def fOp (op : Op2) (f g : GF) : EF := fun ρ => match f ρ with
  | none => none
  | some (a, ρ1) => match g ρ1 with
    | none => none
    | some (b, ρ2) => match look ρ2 a, look ρ2 b with
      | some d, some e => match op d e with
        | none => none
        | some r => some (r, ρ2)
      | _, _ => none
theorem fOp_of {op : Op2} {f g : GF} {ρ ρ2 : Rho} {r : PyData} (h : fOp op f g ρ = some (r, ρ2)) : ∃ a ρ1 b d e, f ρ = some (a, ρ1) ∧ g ρ1 = some (b, ρ2) ∧ look ρ2 a = some d ∧ look ρ2 b = some e ∧ op d e = some r := by
  unfold fOp at h
  split at h
  · cases h
  · rename_i a ρ1 h1
    split at h
    · cases h
    · rename_i b ρ2' h2
      split at h
      · rename_i d e h3 h4
        split at h
        · cases h
        · rename_i r' h5
          cases h
          exact ⟨a, ρ1, b, d, e, h1, h2, h3, h4, h5⟩
      · cases h
theorem tOp_of {ww : World} {K : PySem.W.Frag} {op : Op2} {f g : GF} {r : R2} (hr : ∀ x y H Q, rOp ww K op x y H Q → r x y H Q) : ∀ σ H Q, rE ww K (fOp op f g) σ H Q → tOp r (rG ww K f) (rG ww K g) σ H Q := by
  rintro σ H Q ⟨G, ρ, ρ', d, R, hf, k⟩
  obtain ⟨a, ρ1, b, da, db, h1, h2, h3, h4, h5⟩ := fOp_of hf
  exact ⟨G, ρ, ρ1, a, R, h1, fun v1 G1 H1 R1 s1 q1 => ⟨G1, ρ1, ρ', b, R1, h2, fun v2 G2 H2 R2 s2 q2 => hr _ _ _ _ ⟨G2, da, db, d, R2.sub, look_bo R2 (q1.same s2.gr) h3, look_bo R2 q2 h4, h5,
    fun v G3 H3 x q => k v G3 H3 (R2.ext x) ((s1.trans s2).trans (.ext x)) q⟩⟩⟩
theorem de_op {a b : Expr} {op : Operator} {g : Op2} {f1 f2 : GF} {pos : Pos} (ho : OpR X (binaryOp op) (rOp X.w X.K g)) (ha : DG X a f1) (hb : DG X b f2) : DE X (.BinOp a op b pos) (fOp g f1 f2) :=
  pe_imp (pe_op ho ha hb) (tOp_of fun _ _ _ _ h => h)
theorem de_cmp {a b : Expr} {op : CmpOp} {g : Op2} {f1 f2 : GF} {pos : Pos} (ho : OpR X (compareOp op) (rOp X.w X.K g)) (ha : DG X a f1) (hb : DG X b f2) (hm : behindInMarks op b = false) : DE X (.Compare a [op] [b] pos) (fOp g f1 f2) :=
  pe_imp (pe_cmpR ho ha hb hm) (tOp_of fun _ _ _ _ h => h)
theorem dt_cmp {a b : Expr} {op : CmpOp} {g : Op2} {f1 f2 : GF} {pos : Pos} (ho : OpR X (compareOp op) (rOp X.w X.K g)) (ha : DG X a f1) (hb : DG X b f2) (hm : behindInMarks op b = false) : DT X (.Compare a [op] [b] pos) (fTst (fOp g f1 f2)) := by
  refine pt_imp (pt_cmpR ho ha hb hm) ?_
  intro σ H Q h
  exact tOp_of (fun _ _ _ _ h => h) _ _ _ (dt_of _ _ _ h)
theorem de_ix {a b : Expr} {g : Op2} {f1 f2 : GF} {pos : Pos} (ho : IxR X (rOp X.w X.K g)) (ha : DG X a f1) (hb : DG X b f2) (hs : PlainIx b := by exact fun _ _ => rfl) : DE X (.Subscript a b pos) (fOp g f1 f2) :=
  pe_imp (pe_ix ho ha hb hs) (tOp_of fun _ _ _ _ h => h)
/-! ### the operators -/
def fits (n : Nat) : Bool := decide (n ≤ 1000000)
theorem fits_le {n : Nat} (h : fits n = true) : n ≤ sizeLine := by
  have := of_decide_eq_true h
  rw [sizeLine_eq]; omega
def addD : Op2
  | .int i, .int j => some (.int (i + j))
  | .tuple a, .tuple b => if fits (a.length + b.length) = true then some (.tuple (a ++ b)) else none
  | .list a, .list b => if fits (a.length + b.length) = true then some (.list (a ++ b)) else none
  | .str a, .str b => if fits (a.length + b.length) = true then some (.str (a ++ b)) else none
  | _, _ => none
theorem op_addD : OpR X (binaryOp .Add) (rOp X.w X.K addD) := by
  refine OpR.imp (op_add.or (op_catN.or (op_cat.or op_add_str))) ?_
  rintro x y H Q ⟨G, d, e, r, sub, hd, he, h, k⟩
  unfold addD at h
  split at h
  · cases h
    rw [bo_int hd, bo_int he]
    exact .inl ⟨_, _, rfl, rfl, k _ G H (Xt.refl sub) (.int _)⟩
  · split at h
    · rename_i hz
      cases h
      obtain ⟨p, xs, rfl, hp, ha⟩ := bo_tup hd
      obtain ⟨q, ys, rfl, hq, hb⟩ := bo_tup he
      refine .inr (.inl ⟨p, q, xs, ys, rfl, rfl, (hp.same sub).sq, (hq.same sub).sq, ?_, fun e => ?_, fun _ e => ?_, fun _ _ t o n od => ?_⟩)
      · rw [ha.len, hb.len]; exact fits_le hz
      · subst e
        cases ha
        exact k _ G H (Xt.refl sub) (.tup hq hb)
      · subst e
        cases hb
        rw [List.append_nil] at k
        exact k _ G H (Xt.refl sub) (.tup hp ha)
      · exact k _ _ _ (Xt.new sub n) (newT (Same.free sub n) od (ha.app hb))
    · cases h
  · split at h
    · rename_i hz
      cases h
      obtain ⟨p, xs, rfl, hp, ha⟩ := bo_list hd sub
      obtain ⟨q, ys, rfl, hq, hb⟩ := bo_list he sub
      refine .inr (.inr (.inl ⟨p, q, xs, ys, rfl, rfl, hp, hq, ?_, fun t n => ?_⟩))
      · rw [ha.len, hb.len]; exact fits_le hz
      · exact k _ _ _ (Xt.new sub n) (newL (Same.free sub n) (ha.app hb))
    · cases h
  · split at h
    · rename_i hz
      cases h
      rw [bo_str hd, bo_str he]
      exact .inr (.inr (.inr ⟨_, _, rfl, rfl, fits_le hz, k _ G H (Xt.refl sub) (.str _)⟩))
    · cases h
  · cases h
def subD : Op2
  | .int i, .int j => some (.int (i - j))
  | _, _ => none
theorem op_subD : OpR X (binaryOp .Sub) (rOp X.w X.K subD) := by
  refine OpR.imp op_sub ?_
  rintro x y H Q ⟨G, d, e, r, sub, hd, he, h, k⟩
  unfold subD at h
  split at h
  · cases h
    rw [bo_int hd, bo_int he]
    exact ⟨_, _, rfl, rfl, k _ G H (Xt.refl sub) (.int _)⟩
  · cases h
def smallI (i : Int) : Bool := decide (-(2 ^ 64) < i) && decide (i < 2 ^ 64)
theorem smallI_of {i : Int} (h : smallI i = true) : -(2 ^ 64) < i ∧ i < 2 ^ 64 := by
  unfold smallI at h
  rw [Bool.and_eq_true] at h
  exact ⟨of_decide_eq_true h.1, of_decide_eq_true h.2⟩
theorem once_w (l : Addr) (xs : Array Value) (k : Nat) (du : Option Addr) (so : Array (Option Value)) (u : Tok) :
    Meets (Builtin.«tuple.__mul__» ⟨[.ref l, .int 1 u], []⟩) (fun _ R s => s.heap.get? l = some { cls := .type "tuple", dict := du, data := .seq xs k, slots := so } ∧ R (.ok (.ret (.ref l))) s) := by
  refine .of_wp fun prog w A R s h => ?_
  obtain ⟨hp, g, d, tk, os⟩ := s
  obtain ⟨hl, h⟩ := h
  have f1 := AutoSeq1.idx_int
  have e1 : (xs.isEmpty || (1 : Int) == 1) = true := by simp
  wp_walk using wpAny_loadPart' hl
  all_goals first
    | exact ⟨_, rfl, h⟩
    | skip
def rOnce (ww : World) (K : PySem.W.Frag) : R2 := fun x y H Q => ∃ l xs, x = .ref l ∧ y = .int 1 ∧ SqT K H l xs ∧ Q (.ref l) H
theorem op_once : OpR X (binaryOp .Mult) (rOnce X.w X.K) := by
  intro pins s σ H x y v u Q I rx ry h
  obtain ⟨l, xs, rfl, rfl, hT, q⟩ := h
  cases rx
  obtain ⟨t, rfl⟩ := ry
  obtain ⟨its, r, ⟨⟨cls, du, data, so⟩, ho, hc, n, hd⟩, hs⟩ := I.tuple hT
  simp only at hc hd
  subst hc hd
  refine wpAny_binaryOp_repeat_ref (T := "tuple") (U := "int") (by decide) ⟨_, ho, rfl⟩ (fun s' => typeIs_int s' 1 t)
    noFill_tuple_mul F.fills_int_mul F.slot_int_rmul repeat_tuple F.slot_int_index.lookup ?_
  refine call_meets F.slot_int_rmul (typeIs_int s 1 t) F.entry_int_rmul (F.args_int_rmul_2 _ _)
    (int_rmul_tuple 1 t l its.toArray n du so) ⟨ho, rfl, ⟨_, ho, rfl⟩, ?_⟩
  refine call_meets F.slot_tuple_mul ⟨_, ho, rfl⟩ F.entry_tuple_mul (F.args_tuple_mul_2 _ _)
    (once_w l its.toArray n du so t) ⟨ho, ?_⟩
  exact ⟨.ref l, H, I, rfl, q⟩
def timesL (ds : List PyData) (k : Nat) : List PyData := (List.replicate k ds).flatten
theorem DaA.times {K : PySem.W.Frag} {H : Hp} {ds : List PyData} {xs : List V} (h : DaA K H xs ds) : ∀ k : Nat, DaA K H (List.replicate k xs).flatten (timesL ds k)
  | 0 => .nil
  | k + 1 => by
    show DaA K H (List.replicate (k + 1) xs).flatten (List.replicate (k + 1) ds).flatten
    rw [List.replicate_succ, List.replicate_succ, List.flatten_cons, List.flatten_cons]
    exact h.app (DaA.times h k)
theorem same_w (l : Addr) (xs : Array Value) (k : Nat) (du : Option Addr) (so : Array (Option Value)) (x : Int) (u : Tok) (c0 : (decide (x < -(2 ^ 63)) || decide (x ≥ 2 ^ 63)) = false) (c1 : (xs.isEmpty || x == 1) = true) :
    Meets (Builtin.«tuple.__mul__» ⟨[.ref l, .int x u], []⟩) (fun _ R s => s.heap.get? l = some { cls := .type "tuple", dict := du, data := .seq xs k, slots := so } ∧ R (.ok (.ret (.ref l))) s) := by
  refine .of_wp fun prog w A R s h => ?_
  obtain ⟨hp, g, d, tk, os⟩ := s
  obtain ⟨hl, h⟩ := h
  have f1 := AutoSeq1.idx_int
  wp_walk using wpAny_loadPart' hl
  repeat (first
      | (refine wpAny_ite_false (decide_eq_false (by rw [c0]; exact Bool.false_ne_true)) ?_; wp_walk using wpAny_loadPart' hl)
      | (refine wpAny_ite_true (decide_eq_true c1) ?_; wp_walk using wpAny_loadPart' hl))
  all_goals first
    | exact ⟨_, rfl, h⟩
    | skip
theorem zero_w (l : Addr) (xs : Array Value) (k : Nat) (du : Option Addr) (so : Array (Option Value)) (u : Tok) (c1 : (xs.isEmpty || (0 : Int) == 1) = false) :
    Meets (Builtin.«tuple.__mul__» ⟨[.ref l, .int 0 u], []⟩) (fun _ R s => s.heap.get? l = some { cls := .type "tuple", dict := du, data := .seq xs k, slots := so } ∧ R (.ok (.ret (Value.ref s.heap.objs.size))) { s with heap := s.heap.push { cls := Value.type "tuple", data := Data.seq #[] }, toks := s.toks }) := by
  refine .of_wp fun prog w A R s h => ?_
  obtain ⟨hp, g, d, tk, os⟩ := s
  obtain ⟨hl, h⟩ := h
  have f1 := AutoSeq1.idx_int
  have c2 : (decide ((0 : Int) ≤ 0) || xs.isEmpty) = true := by simp
  wp_walk using wpAny_loadPart' hl
  repeat (first
      | (refine wpAny_ite_false (decide_eq_false (by rw [c1]; exact Bool.false_ne_true)) ?_; wp_walk using wpAny_loadPart' hl)
      | (refine wpAny_ite_true (decide_eq_true c2) ?_; wp_walk using wpAny_loadPart' hl))
  all_goals first
    | exact ⟨_, rfl, h⟩
    | skip
def rRepS (K : PySem.W.Frag) : R2 := fun x y H Q => ∃ l k xs, x = .ref l ∧ y = .int k ∧ SqT K H l xs ∧ (0 ≤ k ∧ k ≤ 2000) ∧ (xs = [] ∨ k = 1) ∧ Q (.ref l) H
theorem op_repS : OpR X (binaryOp .Mult) (rRepS X.K) := by
  intro pins s σ H x y v u Q I rx ry h
  obtain ⟨l, k, xs, rfl, rfl, hT, ⟨k0, k1⟩, e, q⟩ := h
  cases rx
  obtain ⟨t, rfl⟩ := ry
  obtain ⟨its, r, ⟨⟨cls, du, data, so⟩, ho, hc, n, hd⟩, hs⟩ := I.tuple hT
  simp only at hc hd
  subst hc hd
  have g0 : (decide (k < -(2 ^ 63)) || decide (k ≥ 2 ^ 63)) = false := by
    rw [decide_eq_false (by omega : ¬ k < -(2 ^ 63)), decide_eq_false (by omega : ¬ k ≥ 2 ^ 63)]
    rfl
  have g1 : (its.toArray.isEmpty || k == 1) = true := by
    rcases e with e | e
    · have z : its = [] := r.nil_iff.mpr e
      rw [z]; rfl
    · subst e; simp
  refine wpAny_binaryOp_repeat_ref (T := "tuple") (U := "int") (by decide) ⟨_, ho, rfl⟩ (fun s' => typeIs_int s' k t)
    noFill_tuple_mul F.fills_int_mul F.slot_int_rmul repeat_tuple F.slot_int_index.lookup ?_
  refine call_meets F.slot_int_rmul (typeIs_int s k t) F.entry_int_rmul (F.args_int_rmul_2 _ _)
    (int_rmul_tuple k t l its.toArray n du so) ⟨ho, rfl, ⟨_, ho, rfl⟩, ?_⟩
  refine call_meets F.slot_tuple_mul ⟨_, ho, rfl⟩ F.entry_tuple_mul (F.args_tuple_mul_2 _ _)
    (same_w l its.toArray n du so k t g0 g1) ⟨ho, ?_⟩
  exact ⟨.ref l, H, I, rfl, q⟩
def rRepZ (K : PySem.W.Frag) : R2 := fun x y H Q => ∃ l xs, x = .ref l ∧ y = .int 0 ∧ SqT K H l xs ∧ xs ≠ [] ∧ NewT H [] Q
theorem op_repZ : OpR X (binaryOp .Mult) (rRepZ X.K) := by
  intro pins s σ H x y v u Q I rx ry h
  obtain ⟨l, xs, rfl, rfl, hT, hne, q⟩ := h
  cases rx
  obtain ⟨t, rfl⟩ := ry
  obtain ⟨its, r, ⟨⟨cls, du, data, so⟩, ho, hc, n, hd⟩, hs⟩ := I.tuple hT
  simp only at hc hd
  subst hc hd
  have g1 : (its.toArray.isEmpty || (0 : Int) == 1) = false := by
    cases its with
    | nil => exact (hne (r.nil_iff.mp rfl)).elim
    | cons _ _ => rfl
  refine wpAny_binaryOp_repeat_ref (T := "tuple") (U := "int") (by decide) ⟨_, ho, rfl⟩ (fun s' => typeIs_int s' 0 t)
    noFill_tuple_mul F.fills_int_mul F.slot_int_rmul repeat_tuple F.slot_int_index.lookup ?_
  refine call_meets F.slot_int_rmul (typeIs_int s 0 t) F.entry_int_rmul (F.args_int_rmul_2 _ _)
    (int_rmul_tuple 0 t l its.toArray n du so) ⟨ho, rfl, ⟨_, ho, rfl⟩, ?_⟩
  refine call_meets F.slot_tuple_mul ⟨_, ho, rfl⟩ F.entry_tuple_mul (F.args_tuple_mul_2 _ _)
    (zero_w l its.toArray n du so t g1) ⟨ho, ?_⟩
  exact laidT (xs := []) (us := []) I .nil (by rw [sizeLine_eq]; simp) q
def mulD : Op2
  | .int i, .int j => if (smallI i || smallI j) = true then some (.int (i * j)) else none
  | .tuple ds, .int k => if 0 ≤ k ∧ k ≤ 2000 ∧ ds.length ≤ 500 then some (.tuple (timesL ds k.toNat)) else none
  | .list ds, .int k => if 0 ≤ k ∧ k ≤ 2000 ∧ ds.length ≤ 500 then some (.list (timesL ds k.toNat)) else none
  | _, _ => none
theorem times_one (ds : List PyData) : timesL ds 1 = ds := by simp [timesL]
theorem times_nil : ∀ k : Nat, timesL [] k = []
  | 0 => rfl
  | k + 1 => by simp [timesL]
theorem rep_le {n : Nat} {k : Int} (h0 : 0 ≤ k) (h1 : k ≤ 2000) (h2 : n ≤ 500) : n * k.toNat ≤ sizeLine := by
  rw [sizeLine_eq]
  have h3 : k.toNat ≤ 2000 := by omega
  exact Nat.le_trans (Nat.mul_le_mul h2 h3) (by decide)
theorem op_mulD : OpR X (binaryOp .Mult) (rOp X.w X.K mulD) := by
  refine OpR.imp (op_mul.or ((op_repS.or op_repZ).or (op_repN.or op_rep))) ?_
  rintro x y H Q ⟨G, d, e, r, sub, hd, he, h, k⟩
  unfold mulD at h
  split at h
  · split at h
    · rename_i hz
      cases h
      rw [bo_int hd, bo_int he]
      rw [Bool.or_eq_true] at hz
      exact .inl ⟨_, _, rfl, rfl, hz.elim (fun z => .inl (smallI_of z)) (fun z => .inr (smallI_of z)), k _ G H (Xt.refl sub) (.int _)⟩
    · cases h
  · rename_i ds n
    obtain ⟨p, xs, rfl, hp, ha⟩ := bo_tup hd
    rw [bo_int he]
    split at h
    · rename_i hz
      cases h
      obtain ⟨z1, z2, z3⟩ := hz
      by_cases e1 : xs = [] ∨ n = 1
      · have e2 : timesL ds n.toNat = ds := by
          rcases e1 with e1 | e1
          · subst e1
            cases ha
            exact times_nil _
          · subst e1; exact times_one ds
        rw [e2] at k
        exact .inr (.inl (.inl ⟨p, n, xs, rfl, rfl, (hp.same sub).sq, ⟨z1, z2⟩, e1, k _ G H (Xt.refl sub) (.tup hp ha)⟩))
      · by_cases e3 : n = 0
        · subst e3
          exact .inr (.inl (.inr ⟨p, xs, rfl, rfl, (hp.same sub).sq, fun z => e1 (.inl z), fun t o nt od => k _ _ _ (Xt.new sub nt) (newT (Same.free sub nt) od .nil)⟩))
        · exact .inr (.inr (.inl ⟨p, n, xs, rfl, rfl, (hp.same sub).sq, fun z => e1 (.inl z), ⟨by omega, z2⟩, by rw [ha.len]; exact z3, fun t o nt od => k _ _ _ (Xt.new sub nt) (newT (Same.free sub nt) od (ha.times _))⟩))
    · cases h
  · rename_i ds n
    obtain ⟨p, xs, rfl, hp, ha⟩ := bo_list hd sub
    rw [bo_int he]
    split at h
    · rename_i hz
      cases h
      obtain ⟨z1, z2, z3⟩ := hz
      refine .inr (.inr (.inr ⟨p, n, xs, rfl, rfl, hp, by omega, by omega, rep_le z1 z2 (by rw [ha.len]; exact z3), fun t nt => ?_⟩))
      exact k _ _ _ (Xt.new sub nt) (newL (Same.free sub nt) (ha.times _))
    · cases h
  · cases h
def modD : Op2
  | .int i, .int j => if 0 < j then some (.int (i % j)) else none
  | _, _ => none
theorem op_modD : OpR X (binaryOp .Mod) (rOp X.w X.K modD) := by
  refine OpR.imp op_mod ?_
  rintro x y H Q ⟨G, d, e, r, sub, hd, he, h, k⟩
  unfold modD at h
  split at h
  · split at h
    · rename_i hz
      cases h
      rw [bo_int hd, bo_int he]
      exact ⟨_, _, rfl, rfl, hz, k _ G H (Xt.refl sub) (.int _)⟩
    · cases h
  · cases h
def divD : Op2
  | .int i, .int j => if 0 < j ∧ j < 1073741824 then some (.int (i / j)) else none
  | _, _ => none
theorem op_divD : OpR X (binaryOp .FloorDiv) (rOp X.w X.K divD) := by
  refine OpR.imp op_fdiv ?_
  rintro x y H Q ⟨G, d, e, r, sub, hd, he, h, k⟩
  unfold divD at h
  split at h
  · split at h
    · rename_i hz
      cases h
      rw [bo_int hd, bo_int he]
      exact ⟨_, _, rfl, rfl, hz, k _ G H (Xt.refl sub) (.int _)⟩
    · cases h
  · cases h
def powD : Op2
  | .int i, .int j => if 0 ≤ j ∧ j ≤ 1000000 ∧ i.natAbs < 2 ^ 64 then some (.int (i ^ j.toNat)) else none
  | _, _ => none
theorem op_powD : OpR X (binaryOp .Pow) (rOp X.w X.K powD) := by
  refine OpR.imp op_pow ?_
  rintro x y H Q ⟨G, d, e, r, sub, hd, he, h, k⟩
  unfold powD at h
  split at h
  · split at h
    · rename_i hz
      cases h
      rw [bo_int hd, bo_int he]
      exact ⟨_, _, rfl, rfl, hz, k _ G H (Xt.refl sub) (.int _)⟩
    · cases h
  · cases h
/-! ### comparisons -/
def ltD : Op2
  | .int i, .int j => some (.bool (decide (i < j)))
  | _, _ => none
def leD : Op2
  | .int i, .int j => some (.bool (decide (i ≤ j)))
  | _, _ => none
def gtD : Op2
  | .int i, .int j => some (.bool (decide (j < i)))
  | _, _ => none
def geD : Op2
  | .int i, .int j => some (.bool (decide (j ≤ i)))
  | _, _ => none
theorem op_ltD : OpR X (compareOp .Lt) (rOp X.w X.K ltD) := by
  refine OpR.imp op_lt ?_
  rintro x y H Q ⟨G, d, e, r, sub, hd, he, h, k⟩
  unfold ltD at h
  split at h
  · cases h
    rw [bo_int hd, bo_int he]
    exact ⟨_, _, rfl, rfl, k _ G H (Xt.refl sub) (.bl _)⟩
  · cases h
theorem op_leD : OpR X (compareOp .LtE) (rOp X.w X.K leD) := by
  refine OpR.imp op_le ?_
  rintro x y H Q ⟨G, d, e, r, sub, hd, he, h, k⟩
  unfold leD at h
  split at h
  · cases h
    rw [bo_int hd, bo_int he]
    exact ⟨_, _, rfl, rfl, k _ G H (Xt.refl sub) (.bl _)⟩
  · cases h
theorem op_gtD : OpR X (compareOp .Gt) (rOp X.w X.K gtD) := by
  refine OpR.imp op_gt ?_
  rintro x y H Q ⟨G, d, e, r, sub, hd, he, h, k⟩
  unfold gtD at h
  split at h
  · cases h
    rw [bo_int hd, bo_int he]
    exact ⟨_, _, rfl, rfl, k _ G H (Xt.refl sub) (.bl _)⟩
  · cases h
theorem op_geD : OpR X (compareOp .GtE) (rOp X.w X.K geD) := by
  refine OpR.imp op_ge ?_
  rintro x y H Q ⟨G, d, e, r, sub, hd, he, h, k⟩
  unfold geD at h
  split at h
  · cases h
    rw [bo_int hd, bo_int he]
    exact ⟨_, _, rfl, rfl, k _ G H (Xt.refl sub) (.bl _)⟩
  · cases h
/-- == : texts as they are; else data -/
def eqD : Op2
  | .str x, .str y => some (.bool (decide (x = y)))
  | d, e => if (SeqAt.shaped d && SeqAt.shaped e) = true then some (.bool (PyData.eqv d e)) else none
def neD : Op2
  | .str x, .str y => some (.bool (!decide (x = y)))
  | d, e => if (SeqAt.shaped d && SeqAt.shaped e) = true then some (.bool (!PyData.eqv d e)) else none
theorem lay_of {d : PyData} (h : SeqAt.shaped d = true) : d.canLay0 = true := by
  unfold SeqAt.shaped at h
  rw [Bool.and_eq_true] at h
  exact h.1
theorem op_eqDD (hu : X.A.units + 64 < cLine) : OpR X (compareOp .Eq) (rOp X.w X.K eqD) := by
  refine OpR.imp (op_eq.or (op_eqD hu)) ?_
  rintro x y H Q ⟨G, d, e, r, sub, hd, he, h, k⟩
  unfold eqD at h
  split at h
  · cases h
    rw [bo_str hd, bo_str he]
    refine .inl ⟨rfl, ?_⟩
    have z := k _ G H (Xt.refl sub) (.bl _)
    rename_i a b
    have ee : decide (V.str a = V.str b) = decide (a = b) := by
      by_cases q : a = b
      · subst q; simp
      · rw [decide_eq_false q]; exact decide_eq_false fun w => q (V.str.inj w)
    rw [ee]
    exact z
  · split at h
    · rename_i hz
      cases h
      rw [Bool.and_eq_true] at hz
      exact .inr ⟨_, _, bo_dp hd sub (lay_of hz.1), bo_dp he sub (lay_of hz.2), hz.1, hz.2, k _ G H (Xt.refl sub) (.bl _)⟩
    · cases h
theorem op_neDD (hu : X.A.units + 64 < cLine) : OpR X (compareOp .NotEq) (rOp X.w X.K neD) := by
  refine OpR.imp (op_ne.or (op_neD hu)) ?_
  rintro x y H Q ⟨G, d, e, r, sub, hd, he, h, k⟩
  unfold neD at h
  split at h
  · cases h
    rw [bo_str hd, bo_str he]
    refine .inl ⟨rfl, ?_⟩
    have z := k _ G H (Xt.refl sub) (.bl _)
    rename_i a b
    have ee : decide (V.str a = V.str b) = decide (a = b) := by
      by_cases q : a = b
      · subst q; simp
      · rw [decide_eq_false q]; exact decide_eq_false fun w => q (V.str.inj w)
    rw [ee]
    exact z
  · split at h
    · rename_i hz
      cases h
      rw [Bool.and_eq_true] at hz
      exact .inr ⟨_, _, bo_dp hd sub (lay_of hz.1), bo_dp he sub (lay_of hz.2), hz.1, hz.2, k _ G H (Xt.refl sub) (.bl _)⟩
    · cases h
def isNon : PyData → Bool
  | .none => true | _ => false
def isNoneD : Op2
  | d, .none => some (.bool (isNon d))
  | _, _ => none
def isNotD : Op2
  | d, .none => some (.bool (!isNon d))
  | _, _ => none
theorem da_non {ww : World} {K : PySem.W.Frag} {G H : Hp} {v : V} {d : PyData} (h : Bo ww K G H v d) : decide (v = V.non) = isNon d := by
  rcases h with h | ⟨p, xs, ds, rfl, rfl, _⟩
  · cases h <;> simp [isNon]
  · simp [isNon]
  · rename_i h
    obtain ⟨p, kvs, rfl, rfl, _⟩ := h
    simp [isNon, dicD]
theorem op_isD : OpR X (compareOp .Is) (rOp X.w X.K isNoneD) := by
  refine OpR.imp op_isN ?_
  rintro x y H Q ⟨G, d, e, r, sub, hd, he, h, k⟩
  unfold isNoneD at h
  split at h
  · cases h
    refine ⟨bo_non he, ?_⟩
    rw [da_non hd]
    exact k _ G H (Xt.refl sub) (.bl _)
  · cases h
theorem op_isNotD : OpR X (compareOp .IsNot) (rOp X.w X.K isNotD) := by
  refine OpR.imp op_notN ?_
  rintro x y H Q ⟨G, d, e, r, sub, hd, he, h, k⟩
  unfold isNotD at h
  split at h
  · cases h
    refine ⟨bo_non he, ?_⟩
    rw [da_non hd]
    exact k _ G H (Xt.refl sub) (.bl _)
  · cases h
/-! ### in -/
def flatD : PyData → Bool
  | .none => true | .bool _ => true | .int _ => true | .str _ => true | _ => false
theorem flat_of {K : PySem.W.Frag} {G : Hp} {v : V} {d : PyData} (h : Da K G v d) (f : flatD d = true) : flatV v = true := by
  cases h <;> first | rfl | cases f
theorem flats_of {K : PySem.W.Frag} {G : Hp} : ∀ {ds : List PyData} {vs : List V}, DaA K G vs ds → ds.all flatD = true → vs.all flatV = true
  | [], _, h, _ => by cases h; rfl
  | d :: ds, _, h, f => by
    cases h with
    | cons h1 h2 =>
      rw [List.all_cons, Bool.and_eq_true] at f ⊢
      exact ⟨flat_of h1 f.1, flats_of h2 f.2⟩
theorem eqV_of {K : PySem.W.Frag} {G : Hp} {v u : V} {d e : PyData} (h : Da K G v d) (g : Da K G u e) (f : flatD d = true) (f' : flatD e = true) : eqV v u = PyData.eqv d e := by
  cases h with
  | non => cases g <;> first | rfl | cases f' | simp [eqV, PyData.eqv]
  | bl b => cases g <;> first | rfl | cases f' | simp [eqV, PyData.eqv]
  | int b => cases g <;> first | rfl | cases f' | simp [eqV, PyData.eqv]
  | str b => cases g <;> first | rfl | cases f' | simp [eqV, PyData.eqv]
  | lst => cases f
  | tup => cases f
  | dic => cases f
  | fn => cases f
  | glo => cases f
theorem inV_of {K : PySem.W.Frag} {G : Hp} {v : V} {d : PyData} (h : Da K G v d) (f : flatD d = true) : ∀ {ds : List PyData} {vs : List V}, DaA K G vs ds → ds.all flatD = true → inV v vs = ds.any fun z => PyData.eqv z d
  | [], _, h, _ => by cases h; rfl
  | e :: ds, _, h', f' => by
    cases h' with
    | cons h1 h2 =>
      rw [List.all_cons, Bool.and_eq_true] at f'
      show (eqV _ v || inV v _) = (PyData.eqv e d || ds.any fun z => PyData.eqv z d)
      rw [eqV_of h1 h f'.1 f, inV_of h f h2 f'.2]
def memD (d : PyData) (ds : List PyData) : Bool := ds.any fun z => PyData.eqv z d
def inD : Op2
  | d, .list ds => if (flatD d && ds.all flatD) = true then some (.bool (memD d ds)) else if (SeqAt.shaped d && SeqAt.shaped (.list ds)) = true then some (.bool (memD d ds)) else none
  | d, .tuple ds => if (flatD d && ds.all flatD) = true then some (.bool (memD d ds)) else none
  | .str x, .str y => some (.bool (!(Builtin.Str.occurrences y x 0 y.length 1).isEmpty))
  | .tuple ks, .dict ((.none, _) :: ps) => match keyD (.tuple ks) with
    | some k => if decide (NestedKey.depth k ≤ 8) = true then some (.bool (kGet (undict ps) k).isSome) else none
    | none => none
  | _, _ => none
def notInD : Op2
  | d, .list ds => if (flatD d && ds.all flatD) = true then some (.bool (!memD d ds)) else if (SeqAt.shaped d && SeqAt.shaped (.list ds)) = true then some (.bool (!memD d ds)) else none
  | d, .tuple ds => if (flatD d && ds.all flatD) = true then some (.bool (!memD d ds)) else none
  | .str x, .str y => some (.bool (!(!(Builtin.Str.occurrences y x 0 y.length 1).isEmpty)))
  | .tuple ks, .dict ((.none, _) :: ps) => match keyD (.tuple ks) with
    | some k => if decide (NestedKey.depth k ≤ 8) = true then some (.bool (!(kGet (undict ps) k).isSome)) else none
    | none => none
  | _, _ => none
theorem bo_flat {ww : World} {K : PySem.W.Frag} {G H : Hp} {v : V} {d : PyData} (h : Bo ww K G H v d) (f : flatD d = true) : Da K G v d := by
  rcases h with h | ⟨p, xs, ds, rfl, rfl, _⟩ | ⟨p, kvs, rfl, rfl, _⟩
  · exact h
  · cases f
  · cases f
theorem op_inDD (hu : X.A.units + 65 < cLine) : OpR X (compareOp .In) (rOp X.w X.K inD) := by
  refine OpR.imp (op_in_seq.or ((op_inD hu).or (op_in_str.or (op_inK (by omega))))) ?_
  rintro x y H Q ⟨G, d, e, r, sub, hd, he, h, k⟩
  unfold inD at h
  split at h
  · rename_i ds
    split at h
    · rename_i hz
      cases h
      rw [Bool.and_eq_true] at hz
      obtain ⟨p, xs, rfl, hp, ha⟩ := bo_list he sub
      have dd := bo_flat hd hz.1
      refine .inl ⟨p, xs, rfl, .inl (.inl (.inl hp)), flat_of dd hz.1, flats_of ha hz.2, ?_⟩
      have z := k _ G H (Xt.refl sub) (.bl _)
      show Q (.bl (inV x xs)) H
      rw [inV_of dd hz.1 ha hz.2]
      exact z
    · split at h
      · rename_i hz
        cases h
        rw [Bool.and_eq_true] at hz
        exact .inr (.inl ⟨_, _, bo_dp hd sub (lay_of hz.1), bo_dp he sub (lay_of hz.2), hz.1, hz.2, k _ G H (Xt.refl sub) (.bl _)⟩)
      · cases h
  · rename_i ds
    split at h
    · rename_i hz
      cases h
      rw [Bool.and_eq_true] at hz
      obtain ⟨p, xs, rfl, hp, ha⟩ := bo_tup he
      have dd := bo_flat hd hz.1
      refine .inl ⟨p, xs, rfl, .inr ((hp.same sub).sq), flat_of dd hz.1, flats_of ha hz.2, ?_⟩
      have z := k _ G H (Xt.refl sub) (.bl _)
      show Q (.bl (inV x xs)) H
      rw [inV_of dd hz.1 ha hz.2]
      exact z
    · cases h
  · cases h
    rw [bo_str hd, bo_str he]
    exact .inr (.inr (.inl ⟨_, _, rfl, rfl, k _ G H (Xt.refl sub) (.bl _)⟩))
  · split at h
    · rename_i k' ek
      split at h
      · rename_i hz
        cases h
        obtain ⟨a, rfl, ka⟩ := bo_key hd ek (of_decide_eq_true hz)
        obtain ⟨p, xs, kvs, rfl, rfl, hp, hx⟩ := bo_dic he
        refine .inr (.inr (.inr ⟨G, a, p, k', xs, kvs, rfl, rfl, sub, ka, hp, hx, ?_⟩))
        rw [undict_map] at k
        rw [Bool.false_xor]
        exact k _ G H (Xt.refl sub) (.bl _)
      · cases h
    · cases h
  · cases h
theorem op_notInDD (hu : X.A.units + 65 < cLine) : OpR X (compareOp .NotIn) (rOp X.w X.K notInD) := by
  refine OpR.imp (op_notIn_seq.or ((op_notInD hu).or (op_notIn_str.or (op_notInK (by omega))))) ?_
  rintro x y H Q ⟨G, d, e, r, sub, hd, he, h, k⟩
  unfold notInD at h
  split at h
  · rename_i ds
    split at h
    · rename_i hz
      cases h
      rw [Bool.and_eq_true] at hz
      obtain ⟨p, xs, rfl, hp, ha⟩ := bo_list he sub
      have dd := bo_flat hd hz.1
      refine .inl ⟨p, xs, rfl, .inl (.inl (.inl hp)), flat_of dd hz.1, flats_of ha hz.2, ?_⟩
      have z := k _ G H (Xt.refl sub) (.bl _)
      show Q (.bl (!inV x xs)) H
      rw [inV_of dd hz.1 ha hz.2]
      exact z
    · split at h
      · rename_i hz
        cases h
        rw [Bool.and_eq_true] at hz
        exact .inr (.inl ⟨_, _, bo_dp hd sub (lay_of hz.1), bo_dp he sub (lay_of hz.2), hz.1, hz.2, k _ G H (Xt.refl sub) (.bl _)⟩)
      · cases h
  · rename_i ds
    split at h
    · rename_i hz
      cases h
      rw [Bool.and_eq_true] at hz
      obtain ⟨p, xs, rfl, hp, ha⟩ := bo_tup he
      have dd := bo_flat hd hz.1
      refine .inl ⟨p, xs, rfl, .inr ((hp.same sub).sq), flat_of dd hz.1, flats_of ha hz.2, ?_⟩
      have z := k _ G H (Xt.refl sub) (.bl _)
      show Q (.bl (!inV x xs)) H
      rw [inV_of dd hz.1 ha hz.2]
      exact z
    · cases h
  · cases h
    rw [bo_str hd, bo_str he]
    exact .inr (.inr (.inl ⟨_, _, rfl, rfl, k _ G H (Xt.refl sub) (.bl _)⟩))
  · split at h
    · rename_i k' ek
      split at h
      · rename_i hz
        cases h
        obtain ⟨a, rfl, ka⟩ := bo_key hd ek (of_decide_eq_true hz)
        obtain ⟨p, xs, kvs, rfl, rfl, hp, hx⟩ := bo_dic he
        refine .inr (.inr (.inr ⟨G, a, p, k', xs, kvs, rfl, rfl, sub, ka, hp, hx, ?_⟩))
        rw [undict_map] at k
        rw [Bool.true_xor]
        exact k _ G H (Xt.refl sub) (.bl _)
      · cases h
    · cases h
  · cases h
/-! ### an item -/
def ixD : Op2
  | .list ds, .int i => atI ds i
  | .tuple ds, .int i => atI ds i
  | .str z, .int i => if fits z.length = true then (atI z.cps.toList i).map fun c => .str ⟨#[c]⟩ else none
  | _, _ => none
theorem atI_len {α β : Type} {xs : List α} {ds : List β} {i : Int} {d : β} (e : xs.length = ds.length) (h : atI ds i = some d) : ∃ j : Nat, ds[j]? = some d ∧ ∀ v, xs[j]? = some v → atI xs i = some v := by
  unfold atI at h ⊢
  rw [e]
  cases q : ixN ds.length i with
  | none => rw [q] at h; cases h
  | some j => rw [q] at h; exact ⟨j, h, fun v hv => hv⟩
theorem ix_D : IxR X (rOp X.w X.K ixD) := by
  refine IxR.imp ix_seq ?_
  rintro x y H Q ⟨G, d, e, r, sub, hd, he, h, k⟩
  unfold ixD at h
  split at h
  · obtain ⟨p, xs, rfl, hp, ha⟩ := bo_list hd sub
    rw [bo_int he]
    obtain ⟨j, e1, e2⟩ := atI_len ha.len h
    obtain ⟨v, ev, hv⟩ := ha.get e1
    exact .inl ⟨p, xs, _, v, rfl, rfl, .inl (.inl hp), e2 v ev, k v G H (Xt.refl sub) hv⟩
  · obtain ⟨p, xs, rfl, hp, ha⟩ := bo_tup hd
    rw [bo_int he]
    obtain ⟨j, e1, e2⟩ := atI_len ha.len h
    obtain ⟨v, ev, hv⟩ := ha.get e1
    exact .inr (.inl ⟨p, xs, _, v, rfl, rfl, (hp.same sub).sq, e2 v ev, k v G H (Xt.refl sub) hv⟩)
  · split at h
    · rename_i hz
      rw [bo_str hd, bo_int he]
      cases q : atI (_ : Str).cps.toList _ with
      | none => rw [q] at h; cases h
      | some c =>
        rw [q] at h
        cases h
        exact .inr (.inr ⟨_, _, c, rfl, rfl, fits_le hz, q, k _ G H (Xt.refl sub) (.str _)⟩)
    · cases h
  · cases h
/-- d[k], d a dict -/
def ixKD : Op2
  | .dict ((.none, _) :: ps), .tuple ks => match keyD (.tuple ks) with
    | some k => if decide (NestedKey.depth k ≤ 8) = true then kGet (undict ps) k else none
    | none => none
  | _, _ => none
theorem ix_KD (hu : X.A.units + 64 < cLine) : IxR X (rOp X.w X.K ixKD) := by
  refine IxR.imp (ix_K hu) ?_
  rintro x y H Q ⟨G, d, e, r, sub, hd, he, h, k⟩
  unfold ixKD at h
  split at h
  · split at h
    · rename_i k' ek
      split at h
      · rename_i hz
        obtain ⟨a, rfl, ka⟩ := bo_key he ek (of_decide_eq_true hz)
        obtain ⟨p, xs, kvs, rfl, rfl, hp, hx⟩ := bo_dic hd
        rw [undict_map] at h
        exact ⟨G, a, p, k', xs, kvs, r, rfl, rfl, sub, ka, hp, hx, h, fun v hv => k v G H (Xt.refl sub) hv⟩
      · cases h
    · cases h
  · cases h
end
end DL

set_option Elab.async false
set_option linter.all false
set_option maxRecDepth 100000
set_option maxHeartbeats 4000000
/-! Arguments, displays, slices, built-in calls over data. -/
namespace DL
open PySem PySem.Spec PyProof.Rows L2 GX StX
variable [DL.FT]
section
variable {X : Cx}
/-! ### displays -/
def lNil : LF := fun ρ => some ([], ρ)
def lCons (f : EF) (g : LF) : LF := fun ρ => match f ρ with
  | none => none
  | some (d, ρ1) => match g ρ1 with
    | none => none
    | some (ds, ρ2) => some (d :: ds, ρ2)
def lStar (f : EF) (g : LF) : LF := fun ρ => match f ρ with
  | some (.tuple es, ρ1) => match g ρ1 with
    | none => none
    | some (ds, ρ2) => some (es ++ ds, ρ2)
  | some (.list es, ρ1) => match g ρ1 with
    | none => none
    | some (ds, ρ2) => some (es ++ ds, ρ2)
  | _ => none
theorem dls_nil : DLs X [] lNil := by
  refine pa_imp pa_nil ?_
  rintro σ H Q ⟨G, ρ, ρ', ds, R, hf, k⟩
  cases hf
  exact k [] G H R (Sx.refl _ _ _ _) .nil
theorem dls_cons {e : Expr} {es : List Expr} {f : EF} {g : LF} (h : DE X e f) (hs : DLs X es g) (st : starEach (e :: es) X.env = (false, eval e X.env) :: starEach es X.env := by rfl) : DLs X (e :: es) (lCons f g) := by
  refine pa_imp (pa_cons h hs st) ?_
  rintro σ H Q ⟨G, ρ, ρ', ds, R, hf, k⟩
  unfold lCons at hf
  split at hf
  · cases hf
  · rename_i d ρ1 h1
    split at hf
    · cases hf
    · rename_i es' ρ2 h2
      cases hf
      exact ⟨G, ρ, ρ1, d, R, h1, fun v G1 H1 R1 s1 q1 => ⟨G1, ρ1, _, es', R1, h2, fun vs G2 H2 R2 s2 q2 => k _ G2 H2 R2 (s1.trans s2) (.cons (q1.same s2.gr) q2)⟩⟩
theorem dls_star {e : Expr} {es : List Expr} {f : EF} {g : LF} {p : Pos} (h : DE X e f) (hs : DLs X es g) (st : starEach (.Starred e p :: es) X.env = (true, eval e X.env) :: starEach es X.env := by rfl) : DLs X (.Starred e p :: es) (lStar f g) := by
  refine pa_imp (pa_star h hs st) ?_
  rintro σ H Q ⟨G, ρ, ρ', ds, R, hf, k⟩
  unfold lStar at hf
  split at hf
  · rename_i es' ρ1 h1
    split at hf
    · cases hf
    · rename_i ds' ρ2 h2
      cases hf
      refine ⟨G, ρ, ρ1, _, R, h1, fun v G1 H1 R1 s1 q1 => ?_⟩
      cases q1 with
      | tup hs ha => exact ⟨_, _, rfl, .inl (hs.same R1.sub).sq, ⟨G1, ρ1, _, ds', R1, h2, fun vs G2 H2 R2 s2 q2 => k _ G2 H2 R2 (s1.trans s2) ((ha.same s2.gr).app q2)⟩⟩
  · rename_i es' ρ1 h1
    split at hf
    · cases hf
    · rename_i ds' ρ2 h2
      cases hf
      refine ⟨G, ρ, ρ1, _, R, h1, fun v G1 H1 R1 s1 q1 => ?_⟩
      cases q1 with
      | lst hs ha => exact ⟨_, _, rfl, .inr (.inl (.inl (R1.sub _ _ hs))), ⟨G1, ρ1, _, ds', R1, h2, fun vs G2 H2 R2 s2 q2 => k _ G2 H2 R2 (s1.trans s2) ((ha.same s2.gr).app q2)⟩⟩
  · cases hf
def fTup (g : LF) : EF := fun ρ => match g ρ with
  | some (ds, ρ') => if fits ds.length = true then some (.tuple ds, ρ') else none
  | none => none
theorem de_tup {es : List Expr} {g : LF} {k : Nat} {pos : Pos} (h : DLs X es g) : DE X (.Tuple es k pos) (fTup g) := by
  refine pe_imp (pe_tupN h) ?_
  rintro σ H Q ⟨G, ρ, ρ', d, R, hf, k⟩
  unfold fTup at hf
  split at hf
  · rename_i ds ρ1 h1
    split at hf
    · rename_i hz
      cases hf
      exact ⟨G, ρ, _, _, R, h1, fun vs G1 H1 R1 s1 q1 => ⟨by rw [q1.len]; exact fits_le hz, fun p o n od => k _ _ _ (R1.ext (Xt.new R1.sub n)) (s1.trans (.ext (Xt.new R1.sub n))) (newT (Same.free R1.sub n) od q1)⟩⟩
    · cases hf
  · cases hf
def lLst (g : LF) : LF := fun ρ => match g ρ with
  | some (ds, ρ') => if fits ds.length = true then some (ds, ρ') else none
  | none => none
theorem Xt.lone {G H : Hp} {p : Addr} {o : HO} (sub : Same G H) (n : H p = none) : Xt G H G (upd H p o) := Xt.more sub n
theorem noOw {ww : World} {K : PySem.W.Frag} {G H : Hp} {σ : L2.St} {ρ : Rho} {p : Addr} (R : Rl ww K G σ ρ H) (n : H p = none) : ¬ Ow σ ρ p := fun o => by
  obtain ⟨_, e, _⟩ := R.at o
  exact e n
theorem backN {G H G' H' : Hp} {σ σ' : L2.St} {ρ ρ' : Rho} (s : Sx G σ ρ H G' σ' ρ' H') {p : Addr} (n : H' p = none) : H p = none := by
  cases e : H p with
  | none => rfl
  | some o => exact (s.al p (by rw [e]; simp) n).elim
def DN (X : Cx) (e : Expr) (f : LF) : Prop := PE X e (rF X.w X.K f)
def fLst (f : LF) : EF := fun ρ => (f ρ).map fun r => (.list r.1, r.2)
theorem Rl.keepL {ww : World} {K : PySem.W.Frag} {G H : Hp} {σ : L2.St} {ρ : Rho} {p : Addr} {xs : List V} (R : Rl ww K G σ ρ H) (hp : H p = some (.lst xs)) (gp : G p = none) (no : ¬ Ow σ ρ p) : Rl ww K (upd G p (.lst xs)) σ ρ H := by
  have sm : Same G (upd G p (.lst xs)) := fun c o q => by
    by_cases z : c = p
    · rw [z, gp] at q; cases q
    · rw [upd_ne z]; exact q
  refine ⟨R.len, fun c o q => ?_, fun h => ?_, fun {i b ds} h => ?_, R.dis, R.scr, R.tb.step sm fun P ps h1 h2 => ⟨by rw [upd_ne (fun z => by rw [z, hp] at h1; cases h1)]; exact h2, h1⟩⟩
  · by_cases z : c = p
    · rw [z, upd_same] at q
      rw [z, hp]; exact q
    · rw [upd_ne z] at q
      exact R.sub c o q
  · obtain ⟨v, e, d⟩ := R.dat h
    exact ⟨v, e, d.same sm⟩
  · obtain ⟨q, e, eg, d⟩ := R.own h
    have np : ∀ a ∈ reg q ds, a ≠ p := fun a ha z => no ⟨i, b, ds, q, h, e, z ▸ ha⟩
    exact ⟨q, e, fun a ha => by rw [upd_ne (np a ha)]; exact eg a ha, d.step sm fun _ _ => rfl⟩
theorem Sx.keepL {G G' H H' : Hp} {σ σ' : L2.St} {ρ ρ' : Rho} {p : Addr} {o : HO} (s : Sx G σ ρ H G' σ' ρ' H') (n : H p = none) (gp : G' p = none) : Sx G σ ρ H (upd G' p o) σ' ρ' H' := by
  refine ⟨fun c u q => ?_, fun c q => ?_, s.fr, s.ow, s.al, s.par⟩
  · have z := s.gr c u q
    have np : c ≠ p := fun y => by rw [y, gp] at z; cases z
    rw [upd_ne np]
    exact z
  · by_cases z : c = p
    · rw [z]; exact .inr (.inl n)
    · rw [upd_ne z] at q
      exact s.new c q
theorem de_new {e : Expr} {f : LF} (h : DN X e f) : DE X e (fLst f) := by
  refine pe_imp h ?_
  rintro σ H Q ⟨G, ρ, ρ', d, R, hf, k⟩
  unfold fLst at hf
  cases e1 : f ρ with
  | none => rw [e1] at hf; cases hf
  | some r =>
    rw [e1] at hf
    cases hf
    refine ⟨G, ρ, r.2, r.1, R, e1, fun p xs G1 H1 R1 s1 hp gp no n q1 => ?_⟩
    exact k _ _ _ (R1.keepL hp gp no) (s1.keepL n gp) (newL gp q1)
theorem dn_lst {es : List Expr} {g : LF} {pos : Pos} (h : DLs X es g) : DN X (.List es pos) (lLst g) := by
  refine pe_imp (pe_lst h) ?_
  rintro σ H Q ⟨G, ρ, ρ', d, R, hf, k⟩
  unfold lLst at hf
  split at hf
  · rename_i ds ρ1 h1
    split at hf
    · rename_i hz
      cases hf
      refine ⟨G, ρ, _, _, R, h1, fun vs G1 H1 R1 s1 q1 => ⟨by rw [q1.len]; exact fits_le hz, fun p n => ?_⟩⟩
      have x := Xt.more (p := p) (o := .lst vs) R1.sub n
      exact k p vs G1 _ (R1.ext x) (s1.trans (.ext x)) upd_same (Same.free R1.sub n) (noOw R1 n) (backN s1 n) q1
    · cases hf
  · cases hf
/-! ### arguments -/
abbrev AF := Rho → Option (List Ag × Rho)
def rAs (ww : World) (K : PySem.W.Frag) (f : AF) : TA := fun σ H Q => ∃ G ρ ρ' as, Rl ww K G σ ρ H ∧ f ρ = some (as, ρ') ∧ ∀ vs G' H', Rl ww K G' σ ρ' H' → Sx G σ ρ H G' σ ρ' H' → Paired (AgR K G' σ) as vs → Q vs H'
def DAs (X : Cx) (es : List Expr) (f : AF) : Prop := PA X es (rAs X.w X.K f)
def aNil : AF := fun ρ => some ([], ρ)
def aCons (f : GF) (g : AF) : AF := fun ρ => match f ρ with
  | none => none
  | some (a, ρ1) => match g ρ1 with
    | none => none
    | some (as, ρ2) => some (a :: as, ρ2)
theorem das_nil : DAs X [] aNil := by
  refine pa_imp pa_nil ?_
  rintro σ H Q ⟨G, ρ, ρ', ds, R, hf, k⟩
  cases hf
  exact k [] G H R (Sx.refl _ _ _ _) .nil
theorem das_cons {e : Expr} {es : List Expr} {f : GF} {g : AF} (h : DG X e f) (hs : DAs X es g) (st : starEach (e :: es) X.env = (false, eval e X.env) :: starEach es X.env := by rfl) : DAs X (e :: es) (aCons f g) := by
  refine pa_imp (pa_cons h hs st) ?_
  rintro σ H Q ⟨G, ρ, ρ', ds, R, hf, k⟩
  unfold aCons at hf
  split at hf
  · cases hf
  · rename_i d ρ1 h1
    split at hf
    · cases hf
    · rename_i es' ρ2 h2
      cases hf
      exact ⟨G, ρ, ρ1, d, R, h1, fun v G1 H1 R1 s1 q1 => ⟨G1, ρ1, _, es', R1, h2, fun vs G2 H2 R2 s2 q2 => k _ G2 H2 R2 (s1.trans s2) (.cons (q1.same s2.gr) q2)⟩⟩
def looks (ρ : Rho) : List Ag → Option (List PyData)
  | [] => some []
  | a :: as => match look ρ a, looks ρ as with
    | some d, some ds => some (d :: ds)
    | _, _ => none
theorem looks_bo {ww : World} {K : PySem.W.Frag} {G H : Hp} {σ : L2.St} {ρ : Rho} (R : Rl ww K G σ ρ H) : ∀ {as : List Ag} {vs : List V} {ds : List PyData}, Paired (AgR K G σ) as vs → looks ρ as = some ds → Paired (Bo ww K G H) vs ds
  | [], _, _, h, l => by cases h; cases l; exact .nil
  | a :: as, _, _, h, l => by
    cases h with
    | cons h1 h2 =>
      unfold looks at l
      split at l
      · rename_i d ds e1 e2
        cases l
        exact .cons (look_bo R h1 e1) (looks_bo R h2 e2)
      · cases l
/-! ### a built-in function -/
abbrev OpN := List PyData → Option PyData
def rCl (ww : World) (K : PySem.W.Frag) (op : OpN) : List V → Hp → VK → Prop := fun vs H Q => ∃ G ds r, Same G H ∧ Paired (Bo ww K G H) vs ds ∧ op ds = some r ∧ ∀ v G' H', Xt G H G' H' → Da K G' v r → Q v H'
def fCl (op : OpN) (f : AF) : EF := fun ρ => match f ρ with
  | none => none
  | some (as, ρ1) => match looks ρ1 as with
    | none => none
    | some ds => match op ds with
      | none => none
      | some r => some (r, ρ1)
theorem tCB_of {ww : World} {K : PySem.W.Frag} {op : OpN} {f : AF} : ∀ σ H Q, rE ww K (fCl op f) σ H Q → tCB (rCl ww K op) (rAs ww K f) σ H Q := by
  rintro σ H Q ⟨G, ρ, ρ', d, R, hf, k⟩
  unfold fCl at hf
  split at hf
  · cases hf
  · rename_i as ρ1 h1
    split at hf
    · cases hf
    · rename_i ds h2
      split at hf
      · cases hf
      · rename_i r h3
        cases hf
        exact ⟨G, ρ, _, as, R, h1, fun vs G1 H1 R1 s1 q1 => ⟨G1, ds, _, R1.sub, looks_bo R1 q1 h2, h3, fun v G2 H2 x q => k v G2 H2 (R1.ext x) (s1.trans (.ext x)) q⟩⟩
theorem de_callB {e : Expr} {es : List Expr} {x : Str} {id : String} {op : OpN} {f : AF} {p pos : Pos} (hc : CallR X (.builtin id) (rCl X.w X.K op)) (hg : Gl X x) (hm : X.mg x = none) (hv : bootBuiltins x = some (.builtin id)) (ha : DAs X (e :: es) f) (hn : x ≠ "__name__" := by decide)
    (hdb : (x == ("__debug__" : Str)) = false := by decide) (he : starEach (e :: es) X.env = (false, eval e X.env) :: starEach es X.env := by rfl) (hpl : (backTo pos (starEach es X.env)).any (·.1) = false := by rfl) : DE X (.Call (.Name x p) (e :: es) [] pos) (fCl op f) :=
  pe_imp (pe_callB hc hg hm hv ha hn hdb he hpl) tCB_of
theorem de_callTy {e : Expr} {es : List Expr} {x : Str} {T : String} {op : OpN} {f : AF} {p pos : Pos} (hc : CallR X (.type T) (rCl X.w X.K op)) (hg : Gl X x) (hm : X.mg x = none) (hv : bootBuiltins x = some (.type T)) (ha : DAs X (e :: es) f) (hn : x ≠ "__name__" := by decide)
    (hdb : (x == ("__debug__" : Str)) = false := by decide) (he : starEach (e :: es) X.env = (false, eval e X.env) :: starEach es X.env := by rfl) (hpl : (backTo pos (starEach es X.env)).any (·.1) = false := by rfl) : DE X (.Call (.Name x p) (e :: es) [] pos) (fCl op f) :=
  pe_imp (pe_callTy hc hg hm hv ha hn hdb he hpl) tCB_of
theorem CallR.imp {f : Value} {r r' : List V → Hp → VK → Prop} (h : CallR X f r) (i : ∀ xs H Q, r' xs H Q → r xs H Q) : CallR X f r' := fun pins s σ H xs us Q I rx w => h pins s σ H xs us Q I rx (i _ _ _ w)
theorem pair1 {α β : Type} {F : α → β → Prop} {as : List α} {b : β} (h : Paired F as [b]) : ∃ a, as = [a] ∧ F a b := by
  cases h with
  | cons h1 h2 => cases h2; exact ⟨_, rfl, h1⟩
theorem pair2 {α β : Type} {F : α → β → Prop} {as : List α} {b c : β} (h : Paired F as [b, c]) : ∃ a a', as = [a, a'] ∧ F a b ∧ F a' c := by
  cases h with
  | cons h1 h2 =>
    obtain ⟨a', e, h3⟩ := pair1 h2
    subst e
    exact ⟨_, _, rfl, h1, h3⟩
def lenD : OpN
  | [.list ds] => some (.int ds.length)
  | [.tuple ds] => some (.int ds.length)
  | [.str z] => if fits z.length = true then some (.int z.length) else none
  | [.dict ((.none, _) :: ps)] => if fits (undict ps).length = true then some (.int (undict ps).length) else none
  | _ => none
theorem cl_len : CallR X (.builtin "len") (rCl X.w X.K lenD) := by
  refine CallR.imp (L2.CallR.or (L2.CallR.or call_len_seq call_len_str) call_lenK) ?_
  rintro xs H Q ⟨G, ds, r, sub, hd, h, k⟩
  unfold lenD at h
  split at h
  · cases h
    obtain ⟨v, rfl, hv⟩ := pair1 hd
    obtain ⟨p, ys, rfl, hp, ha⟩ := bo_list hv sub
    refine .inl (.inl ⟨p, ys, rfl, .inl (.inl (.inl hp)), ?_⟩)
    rw [ha.len]
    exact k _ G H (Xt.refl sub) (.int _)
  · cases h
    obtain ⟨v, rfl, hv⟩ := pair1 hd
    obtain ⟨p, ys, rfl, hp, ha⟩ := bo_tup hv
    refine .inl (.inl ⟨p, ys, rfl, .inr ((hp.same sub).sq), ?_⟩)
    rw [ha.len]
    exact k _ G H (Xt.refl sub) (.int _)
  · split at h
    · rename_i hz
      cases h
      obtain ⟨v, rfl, hv⟩ := pair1 hd
      rw [bo_str hv]
      exact .inl (.inr ⟨_, rfl, fits_le hz, k _ G H (Xt.refl sub) (.int _)⟩)
    · cases h
  · split at h
    · rename_i hz
      cases h
      obtain ⟨v, rfl, hv⟩ := pair1 hd
      obtain ⟨p, ys, kvs, rfl, rfl, hp, hx⟩ := bo_dic hv
      rw [undict_map] at hz k
      exact .inr ⟨G, p, ys, kvs, rfl, sub, hp, hx, of_decide_eq_true hz, k _ G H (Xt.refl sub) (.int _)⟩
    · cases h
  · cases h
def intD : OpN
  | [.int i] => some (.int i)
  | [.bool b] => some (.int (if b then 1 else 0))
  | _ => none
theorem cl_int : CallR X (.type "int") (rCl X.w X.K intD) := by
  refine CallR.imp call_int1 ?_
  rintro xs H Q ⟨G, ds, r, sub, hd, h, k⟩
  unfold intD at h
  split at h
  · cases h
    obtain ⟨v, rfl, hv⟩ := pair1 hd
    rw [bo_int hv]
    exact .inl ⟨_, rfl, k _ G H (Xt.refl sub) (.int _)⟩
  · cases h
    obtain ⟨v, rfl, hv⟩ := pair1 hd
    rw [bo_bool hv]
    exact .inr ⟨_, rfl, k _ G H (Xt.refl sub) (.int _)⟩
  · cases h
def absD : OpN
  | [.int i] => some (.int (if i < 0 then -i else i))
  | _ => none
theorem cl_abs : CallR X (.builtin "abs") (rCl X.w X.K absD) := by
  refine CallR.imp call_abs ?_
  rintro xs H Q ⟨G, ds, r, sub, hd, h, k⟩
  unfold absD at h
  split at h
  · cases h
    obtain ⟨v, rfl, hv⟩ := pair1 hd
    rw [bo_int hv]
    exact ⟨_, rfl, k _ G H (Xt.refl sub) (.int _)⟩
  · cases h
def divmodD : OpN
  | [.int i, .int j] => if 0 < j ∧ j < 1073741824 then some (.tuple [.int (i / j), .int (i % j)]) else none
  | _ => none
theorem cl_divmod : CallR X (.builtin "divmod") (rCl X.w X.K divmodD) := by
  refine CallR.imp call_dmN ?_
  rintro xs H Q ⟨G, ds, r, sub, hd, h, k⟩
  unfold divmodD at h
  split at h
  · split at h
    · rename_i hz
      cases h
      obtain ⟨v, u, rfl, hv, hu⟩ := pair2 hd
      rw [bo_int hv, bo_int hu]
      exact ⟨_, _, rfl, hz, fun p o n od => k _ _ _ (Xt.new sub n) (newT (Same.free sub n) od (.cons (.int _) (.cons (.int _) .nil)))⟩
    · cases h
  · cases h
def tupleD : OpN
  | [.list ds] => some (.tuple ds)
  | [.tuple ds] => some (.tuple ds)
  | _ => none
theorem cl_tuple : CallR X (.type "tuple") (rCl X.w X.K tupleD) := by
  refine CallR.imp call_tupN ?_
  rintro xs H Q ⟨G, ds, r, sub, hd, h, k⟩
  unfold tupleD at h
  split at h
  · cases h
    obtain ⟨v, rfl, hv⟩ := pair1 hd
    obtain ⟨p, ys, rfl, hp, ha⟩ := bo_list hv sub
    exact ⟨p, ys, rfl, .inl ⟨.inl (.inl hp), fun l o n od => k _ _ _ (Xt.new sub n) (newT (Same.free sub n) od ha)⟩⟩
  · cases h
    obtain ⟨v, rfl, hv⟩ := pair1 hd
    obtain ⟨p, ys, rfl, hp, ha⟩ := bo_tup hv
    exact ⟨p, ys, rfl, .inr ⟨(hp.same sub).sq, k _ G H (Xt.refl sub) (.tup hp ha)⟩⟩
  · cases h
def intsOf : List PyData → Option (List Int)
  | [] => some []
  | .int i :: ds => match intsOf ds with
    | some is => some (i :: is)
    | none => none
  | _ :: _ => none
theorem intsOf_eq : ∀ {ds : List PyData} {ns : List Int}, intsOf ds = some ns → ds = ns.map PyData.int
  | [], _, h => by cases h; rfl
  | d :: ds, ns, h => by
    unfold intsOf at h
    split at h
    · rename_i heq
      cases heq
    · rename_i i ds' heq
      cases heq
      split at h
      · rename_i is e
        cases h
        rw [intsOf_eq e]
        rfl
      · cases h
    · cases h
def boolsOf : List PyData → Option (List Bool)
  | [] => some []
  | .bool i :: ds => match boolsOf ds with
    | some is => some (i :: is)
    | none => none
  | _ :: _ => none
theorem boolsOf_eq : ∀ {ds : List PyData} {ns : List Bool}, boolsOf ds = some ns → ds = ns.map PyData.bool
  | [], _, h => by cases h; rfl
  | d :: ds, ns, h => by
    unfold boolsOf at h
    split at h
    · rename_i heq
      cases heq
    · rename_i i ds' heq
      cases heq
      split at h
      · rename_i is e
        cases h
        rw [boolsOf_eq e]
        rfl
      · cases h
    · cases h
def sumD : OpN
  | [.list ds] => match intsOf ds with
    | some ns => some (.int ns.sum)
    | none => none
  | _ => none
theorem cl_sum (hc : X.calm = true) : CallR X (.builtin "sum") (rCl X.w X.K sumD) := by
  refine CallR.imp (cr_sum hc) ?_
  rintro xs H Q ⟨G, ds, r, sub, hd, h, k⟩
  unfold sumD at h
  split at h
  · split at h
    · rename_i ds' ns e
      cases h
      obtain ⟨v, rfl, hv⟩ := pair1 hd
      obtain ⟨p, ys, rfl, hp, ha⟩ := bo_list hv sub
      rw [intsOf_eq e] at ha
      rw [ha.ints] at hp
      exact ⟨p, ns, rfl, .inl (.inl hp), k _ G H (Xt.refl sub) (.int _)⟩
    · cases h
  · cases h
def allD : OpN
  | [.list ds] => match boolsOf ds with
    | some ns => some (.bool (ns.all id))
    | none => none
  | _ => none
def anyD : OpN
  | [.list ds] => match boolsOf ds with
    | some ns => some (.bool (ns.any id))
    | none => none
  | _ => none
theorem cl_all (hc : X.calm = true) : CallR X (.builtin "all") (rCl X.w X.K allD) := by
  refine CallR.imp (cr_all hc) ?_
  rintro xs H Q ⟨G, ds, r, sub, hd, h, k⟩
  unfold allD at h
  split at h
  · split at h
    · rename_i ds' ns e
      cases h
      obtain ⟨v, rfl, hv⟩ := pair1 hd
      obtain ⟨p, ys, rfl, hp, ha⟩ := bo_list hv sub
      rw [boolsOf_eq e] at ha
      rw [ha.bls] at hp
      exact ⟨p, ns, rfl, .inl (.inl hp), k _ G H (Xt.refl sub) (.bl _)⟩
    · cases h
  · cases h
theorem cl_any (hc : X.calm = true) : CallR X (.builtin "any") (rCl X.w X.K anyD) := by
  refine CallR.imp (cr_any hc) ?_
  rintro xs H Q ⟨G, ds, r, sub, hd, h, k⟩
  unfold anyD at h
  split at h
  · split at h
    · rename_i ds' ns e
      cases h
      obtain ⟨v, rfl, hv⟩ := pair1 hd
      obtain ⟨p, ys, rfl, hp, ha⟩ := bo_list hv sub
      rw [boolsOf_eq e] at ha
      rw [ha.bls] at hp
      exact ⟨p, ns, rfl, .inl (.inl hp), k _ G H (Xt.refl sub) (.bl _)⟩
    · cases h
  · cases h
def max2D : OpN
  | [.int i, .int j] => some (.int (if j > i then j else i))
  | _ => none
def min2D : OpN
  | [.int i, .int j] => some (.int (if j < i then j else i))
  | _ => none
theorem cl_max2 (hc : X.calm = true) : CallR X (.builtin "max") (rCl X.w X.K max2D) := by
  refine CallR.imp (call_max2 hc) ?_
  rintro xs H Q ⟨G, ds, r, sub, hd, h, k⟩
  unfold max2D at h
  split at h
  · cases h
    obtain ⟨v, u, rfl, hv, hu⟩ := pair2 hd
    rw [bo_int hv, bo_int hu]
    exact ⟨_, _, rfl, k _ G H (Xt.refl sub) (.int _)⟩
  · cases h
theorem cl_min2 (hc : X.calm = true) : CallR X (.builtin "min") (rCl X.w X.K min2D) := by
  refine CallR.imp (call_min2 hc) ?_
  rintro xs H Q ⟨G, ds, r, sub, hd, h, k⟩
  unfold min2D at h
  split at h
  · cases h
    obtain ⟨v, u, rfl, hv, hu⟩ := pair2 hd
    rw [bo_int hv, bo_int hu]
    exact ⟨_, _, rfl, k _ G H (Xt.refl sub) (.int _)⟩
  · cases h
/-! ### slices -/
def OF := Rho → Option (Option Int × Rho)
def rO (ww : World) (K : PySem.W.Frag) (f : OF) : TO := fun σ H Q => ∃ G ρ ρ' o, Rl ww K G σ ρ H ∧ f ρ = some (o, ρ') ∧ ∀ G' H', Rl ww K G' σ ρ' H' → Sx G σ ρ H G' σ ρ' H' → Q o H'
def DO (X : Cx) (e : Option Expr) (f : OF) : Prop := PO X e (rO X.w X.K f)
theorem po_imp {e : Option Expr} {t t' : TO} (h : PO X e t) (i : ∀ σ H Q, t' σ H Q → t σ H Q) : PO X e t' := ⟨fun pins s σ H Q I w => h.run pins s σ H Q I (i _ _ _ w)⟩
def oNone : OF := fun ρ => some (none, ρ)
def oSome (f : EF) : OF := fun ρ => match f ρ with
  | some (.int i, ρ') => some (some i, ρ')
  | _ => none
theorem do_none : DO X none oNone := by
  refine po_imp po_none ?_
  rintro σ H Q ⟨G, ρ, ρ', o, R, hf, k⟩
  cases hf
  exact k G H R (Sx.refl _ _ _ _)
theorem do_some {e : Expr} {f : EF} (h : DE X e f) : DO X (some e) (oSome f) := by
  refine po_imp (po_some h) ?_
  rintro σ H Q ⟨G, ρ, ρ', o, R, hf, k⟩
  unfold oSome at hf
  split at hf
  · rename_i i ρ1 h1
    cases hf
    refine ⟨G, ρ, _, .int i, R, h1, fun v G1 H1 R1 s1 q1 => ?_⟩
    cases q1
    exact ⟨i, rfl, k G1 H1 R1 s1⟩
  · cases hf
def cutL (ds : List PyData) (lo hi : Option Int) : List PyData := (ds.drop (HT.sIx ds.length 0 lo)).take (HT.sIx ds.length ds.length hi - HT.sIx ds.length 0 lo)
def sliceD (d : PyData) (lo hi : Option Int) : Option PyData := match d with
  | .list ds => some (.list (cutL ds lo hi))
  | .tuple ds => some (.tuple (cutL ds lo hi))
  | _ => none
def fSl (f : GF) (l h : OF) : EF := fun ρ => match f ρ with
  | none => none
  | some (a, ρ1) => match l ρ1 with
    | none => none
    | some (lo, ρ2) => match h ρ2 with
      | none => none
      | some (hi, ρ3) => match look ρ3 a with
        | none => none
        | some d => match sliceD d lo hi with
          | none => none
          | some r => some (r, ρ3)
theorem SlR.imp {r r' : V → Option Int → Option Int → Hp → VK → Prop} (h : SlR X r) (i : ∀ x lo hi H Q, r' x lo hi H Q → r x lo hi H Q) : SlR X r' := fun pins s σ H x v vl vu lo hi sl Q I rx hs pl pu w => h pins s σ H x v vl vu lo hi sl Q I rx hs pl pu (i _ _ _ _ _ w)
theorem cut_whole {α : Type} {ds : List α} {lo hi : Option Int} (h : HT.sIx ds.length 0 lo = 0 ∧ HT.sIx ds.length ds.length hi = ds.length) : (ds.drop (HT.sIx ds.length 0 lo)).take (HT.sIx ds.length ds.length hi - HT.sIx ds.length 0 lo) = ds := by
  rw [h.1, h.2, Nat.sub_zero, List.drop_zero, List.take_length]
theorem de_slice {e : Expr} {lo hi : Option Expr} {f : GF} {l h : OF} {p2 pos : Pos} (he : DG X e f) (hl : DO X lo l) (hh : DO X hi h) : DE X (.Subscript e (.Slice lo hi none p2) pos) (fSl f l h) := by
  refine pe_imp (pe_slice (L2.SlR.or sl_list sl_N) he hl hh) ?_
  rintro σ H Q ⟨G, ρ, ρ', d, R, hf, k⟩
  unfold fSl at hf
  split at hf
  · cases hf
  · rename_i a ρ1 h1
    split at hf
    · cases hf
    · rename_i lo' ρ2 h2
      split at hf
      · cases hf
      · rename_i hi' ρ3 h3
        split at hf
        · cases hf
        · rename_i da h4
          split at hf
          · cases hf
          · rename_i r h5
            cases hf
            refine ⟨G, ρ, ρ1, a, R, h1, fun v G1 H1 R1 s1 q1 => ⟨G1, ρ1, ρ2, lo', R1, h2, fun G2 H2 R2 s2 => ⟨G2, ρ2, _, hi', R2, h3, fun G3 H3 R3 s3 => ?_⟩⟩⟩
            have bo := look_bo R3 ((q1.same s2.gr).same s3.gr) h4
            have st := (s1.trans s2).trans s3
            unfold sliceD at h5
            split at h5
            · cases h5
              obtain ⟨p, xs, rfl, hp, ha⟩ := bo_list bo R3.sub
              exact .inl ⟨p, xs, rfl, .inl (.inl hp), fun t n => k _ _ _ (R3.ext (Xt.new R3.sub n)) (st.trans (.ext (Xt.new R3.sub n))) (newL (Same.free R3.sub n) (ha.cutV _ _))⟩
            · cases h5
              rename_i ds
              obtain ⟨p, xs, rfl, hp, ha⟩ := bo_tup bo
              refine .inr ⟨p, xs, rfl, (hp.same R3.sub).sq, fun z => ?_, fun _ t o n od => k _ _ _ (R3.ext (Xt.new R3.sub n)) (st.trans (.ext (Xt.new R3.sub n))) (newT (Same.free R3.sub n) od (ha.cutV _ _))⟩
              rw [ha.len] at z
              have e1 : cutL ds lo' hi' = ds := cut_whole z
              rw [e1] at k
              exact k _ _ _ R3 st (.tup hp ha)
            · cases h5
end
end DL

set_option Elab.async false
set_option linter.all false
set_option maxRecDepth 100000
set_option maxHeartbeats 4000000
/-! Methods of lists and tuples over data. -/
namespace DL
open PySem PySem.Spec PyProof.Rows L2 GX StX
variable [DL.FT]
section
variable {X : Cx}
/-- the value is of that type, a tuple too -/
def TyM (K : PySem.W.Frag) (T : String) (x : V) (H : Hp) : Prop := tyV K T x H ∨ (T = "tuple" ∧ ∃ p xs, x = .ref p ∧ TpN K H p xs) ∨ (T = "dict" ∧ ∃ ww p xs, x = .ref p ∧ H p = some (.ext (DicP ww p xs)))
theorem tyM_is {pins : List (Addr × Obj)} {σ : L2.St} {H : Hp} {s : Shared} {T : String} {x : V} {v : Value} (I : Inv X pins σ H s) (r : RelV x v) (ty : TyM X.K T x H) :
    s.TypeIs v T ∧ ∀ a, v = .ref a → ∃ ob, s.heap.get? a = some ob ∧ ob.dict = none := by
  rcases ty with ty | ⟨rfl, p, xs, rfl, ty⟩ | ⟨rfl, ww, p, xs, rfl, ty⟩
  · exact tyV_is I r ty
  · obtain rfl : v = Value.ref p := r
    rcases ty with ⟨o, h, d⟩ | ⟨o, its, m, h1, h2, h3, _⟩
    · obtain ⟨e, _, us, _, o2, e2, c, _⟩ := I.hok p _ h
      rw [e] at e2
      cases e2
      exact ⟨⟨_, e, c⟩, fun a q => by cases q; exact ⟨_, e, d⟩⟩
    · have e := I.kIn p o h1
      exact ⟨⟨_, e, h2⟩, fun a q => by cases q; exact ⟨_, e, h3⟩⟩
  · obtain rfl : v = Value.ref p := r
    obtain ⟨⟨_, ys, _, o, es, ep, e, c, _⟩, _⟩ := I.hok p _ ty
    exact ⟨⟨o, e, c.1⟩, fun a q => by cases q; exact ⟨o, e, c.2.1⟩⟩
def tMe (K : PySem.W.Frag) (T : String) (r : V → List V → Hp → VK → Prop) (to : TE) (t : TA) : TE := fun σ H Q => to σ H fun x H1 => TyM K T x H1 ∧ t σ H1 fun xs H2 => r x xs H2 Q
theorem pe_me {o e : Expr} {es : List Expr} {to : TE} {t : TA} {name : Str} {apos cpos : Pos} {T id : String} {r : V → List V → Hp → VK → Prop} (pa : PlainAttrs T) (slot : Slot T name id) (hty : typeOf (.builtin id) = pure (.type "method_descriptor"))
    (hm : MtR X id r) (ho : PE X o to) (ha : PA X (e :: es) t) (hbase : attributeBase o name X.env (eval o X.env) = eval o X.env := by rfl)
    (hfew : ((backTo cpos (starEach (e :: es) X.env)).all (fun x => !x.1) && (backToKw cpos (keywordEach [] X.env)).all (fun x => x.1.isSome)
      && decide ((e :: es).length + ([] : List Keyword).length + (if ([] : List Keyword).isEmpty then 0 else 1) < 30)) = true := by rfl)
    (hline : (apos.endLine == cpos.line) = true := by rfl) (hs : starEach (e :: es) X.env = (false, eval e X.env) :: starEach es X.env := by rfl) (hplain : (backTo cpos (starEach es X.env)).any (·.1) = false := by rfl) :
    PE X (.Call (.Attribute o name apos) (e :: es) [] cpos) (tMe X.K T r to t) := by
  constructor
  intro pins s σ H Q I h
  refine wpAny_Call_method_late hbase hfew hline rfl (thn (ho.run pins s σ H _ I h) ?_)
  rintro v s1 ⟨x, H1, I1, r1, ty, q1⟩
  obtain ⟨y1, y2⟩ := tyM_is I1 r1 ty
  refine ⟨T, id, pa, slot, hty, y1, y2, ?_⟩
  have hA := ha.run cpos pins s1 σ H1 _ I1 q1
  rw [hs] at hA ⊢
  refine Calls.callWith_builtin (by show (false || (backTo cpos (starEach es X.env)).any (·.1)) = false; rw [hplain]; rfl) (Calls.evalArgs_plain (thn hA ?_))
  rintro us s2 ⟨vs, H2, I2, r2, q2⟩
  exact hm pins s2 σ H2 x vs v us Q I2 r1 r2 q2
abbrev OpM := PyData → List PyData → Option PyData
def rMt (ww : World) (K : PySem.W.Frag) (op : OpM) : V → List V → Hp → VK → Prop := fun x vs H Q => ∃ G d ds r, Same G H ∧ Bo ww K G H x d ∧ Paired (Bo ww K G H) vs ds ∧ op d ds = some r ∧ ∀ v G' H', Xt G H G' H' → Da K G' v r → Q v H'
theorem MtR.imp {id : String} {r r' : V → List V → Hp → VK → Prop} (h : MtR X id r) (i : ∀ x xs H Q, r' x xs H Q → r x xs H Q) : MtR X id r' := fun pins s σ H x xs v us Q I rx rs w => h pins s σ H x xs v us Q I rx rs (i _ _ _ _ w)
def tyD : String → PyData → Bool
  | "list", .list _ => true
  | "tuple", .tuple _ => true
  | "str", .str _ => true
  | "dict", .dict ((.none, _) :: _) => true
  | _, _ => false
theorem tyD_of {ww : World} {K : PySem.W.Frag} {G H : Hp} {T : String} {v : V} {d : PyData} (b : Bo ww K G H v d) (s : Same G H) (h : tyD T d = true) : TyM K T v H := by
  unfold tyD at h
  split at h
  · obtain ⟨p, xs, rfl, hp, _⟩ := bo_list b s
    exact .inl (.inl ⟨rfl, _, .inl (.inl hp)⟩)
  · obtain ⟨p, xs, rfl, hp, _⟩ := bo_tup b
    exact .inr (.inl ⟨rfl, p, xs, rfl, hp.same s⟩)
  · rw [bo_str b]
    exact .inl rfl
  · obtain ⟨p, xs, kvs, rfl, _, hp, _⟩ := bo_dic b
    exact .inr (.inr ⟨rfl, ww, p, xs, rfl, hp⟩)
  · cases h
def fMe (T : String) (op : OpM) (f : GF) (g : AF) : EF := fun ρ => match f ρ with
  | none => none
  | some (a, ρ1) => match look ρ1 a with
    | none => none
    | some d0 => if tyD T d0 = true then match g ρ1 with
        | none => none
        | some (as, ρ2) => match look ρ2 a, looks ρ2 as with
          | some d, some ds => match op d ds with
            | none => none
            | some r => some (r, ρ2)
          | _, _ => none
      else none
theorem de_me {o e : Expr} {es : List Expr} {f : GF} {g : AF} {op : OpM} {name : Str} {apos cpos : Pos} {T id : String} (pa : PlainAttrs T) (slot : Slot T name id) (hty : typeOf (.builtin id) = pure (.type "method_descriptor"))
    (hm : MtR X id (rMt X.w X.K op)) (ho : DG X o f) (ha : DAs X (e :: es) g) (hbase : attributeBase o name X.env (eval o X.env) = eval o X.env := by rfl)
    (hfew : ((backTo cpos (starEach (e :: es) X.env)).all (fun x => !x.1) && (backToKw cpos (keywordEach [] X.env)).all (fun x => x.1.isSome)
      && decide ((e :: es).length + ([] : List Keyword).length + (if ([] : List Keyword).isEmpty then 0 else 1) < 30)) = true := by rfl)
    (hline : (apos.endLine == cpos.line) = true := by rfl) (hs : starEach (e :: es) X.env = (false, eval e X.env) :: starEach es X.env := by rfl) (hplain : (backTo cpos (starEach es X.env)).any (·.1) = false := by rfl) :
    DE X (.Call (.Attribute o name apos) (e :: es) [] cpos) (fMe T op f g) := by
  refine pe_imp (pe_me pa slot hty hm ho ha hbase hfew hline hs hplain) ?_
  rintro σ H Q ⟨G, ρ, ρ', d, R, hf, k⟩
  unfold fMe at hf
  split at hf
  · cases hf
  · rename_i a ρ1 h1
    split at hf
    · cases hf
    · rename_i d0 h0
      split at hf
      · rename_i ht
        split at hf
        · cases hf
        · rename_i as ρ2 h2
          split at hf
          · rename_i dd ds h3 h4
            split at hf
            · cases hf
            · rename_i r h5
              cases hf
              exact ⟨G, ρ, ρ1, a, R, h1, fun v G1 H1 R1 s1 q1 => ⟨tyD_of (look_bo R1 q1 h0) R1.sub ht, ⟨G1, ρ1, _, as, R1, h2, fun vs G2 H2 R2 s2 q2 => ⟨G2, dd, ds, _, R2.sub, look_bo R2 (q1.same s2.gr) h3, looks_bo R2 q2 h4, h5,
                fun w G3 H3 x q => k w G3 H3 (R2.ext x) ((s1.trans s2).trans (.ext x)) q⟩⟩⟩⟩
          · cases hf
      · cases hf
/-! ### the items, seen by == -/
theorem seen_flat {K : PySem.W.Frag} {G : Hp} {A : Around} {s : Shared} {y : V} {u : Value} {d : PyData} {xs : List V} {its : List Value} {ds : List PyData} (ry : RelV y u) (hy : Da K G y d) (fy : flatD d = true) (rv : Vals xs its) (ha : DaA K G xs ds) (fs : ds.all flatD = true) :
    ∃ e : Value → Bool, (∀ z, z ∈ its.toArray → SeqAt.EqAt A s z u (e z)) ∧ its.map e = ds.map fun z => PyData.eqv z d := by
  refine ⟨eqU y, fun z hz => mem_eqAt ry (flat_of hy fy) rv (flats_of ha fs) z (by simpa using hz), ?_⟩
  have go : ∀ {ds : List PyData} {xs : List V} {its : List Value}, Vals xs its → DaA K G xs ds → ds.all flatD = true → its.map (eqU y) = ds.map fun z => PyData.eqv z d := by
    intro ds
    induction ds with
    | nil =>
      intro xs its rv ha _
      cases ha
      cases rv
      rfl
    | cons z zs ih =>
      intro xs its rv ha fs
      cases ha with
      | cons h1 h2 =>
        cases rv with
        | cons r1 r2 =>
          rw [List.all_cons, Bool.and_eq_true] at fs
          rw [List.map_cons, List.map_cons, ih r2 h2 fs.2, eqU_of r1 (flat_of h1 fs.1), eqV_of h1 hy fs.1 fy]
  exact go rv ha fs
theorem seen_deep {pins : List (Addr × Obj)} {σ : L2.St} {H : Hp} {s : Shared} {A : Around} {y : V} {u : Value} {d : PyData} {xs : List V} {its : List Value} {ds : List PyData} (I : Inv X pins σ H s) (hu : A.units + 65 < cLine)
    (ry : RelV y u) (hy : Dp X.K H y d) (sd : SeqAt.shaped d = true) (rv : Vals xs its) (ha : DpAll X.K H xs ds) (sl : SeqAt.shaped (.list ds) = true) :
    ∃ e : Value → Bool, (∀ z, z ∈ its.toArray → SeqAt.EqAt A.in1 s z u (e z)) ∧ its.map e = ds.map fun z => PyData.eqv z d := by
  obtain ⟨bs, r1⟩ := Dp.reads I d y u hy ry
  obtain ⟨as, h4⟩ := Dp.readsAll I ds _ its ha rv
  have hxs : PyData.canLayAll0 ds = true := SeqAt.canLay_of_shaped sl
  refine ⟨fun z => PyData.eqv (SeqAt.readOf s.heap z) d, SeqAt.items_eqAt (vs := its.toArray) (show ReadsAll s.heap its.toArray.toList ds as from h4) r1 hxs (SeqAt.canLay_of_shaped sd) (room_in_shaped sd hu), ?_⟩
  have hmap : its.map (SeqAt.readOf s.heap) = ds := SeqAt.readsAll_map ds its as hxs h4
  rw [← hmap, List.map_map]
  rfl
def idxL (d : PyData) (ds : List PyData) : Option Nat := ds.findIdx? fun z => PyData.eqv z d
theorem idx_facts {d : PyData} {ds : List PyData} {j : Nat} (h : idxL d ds = some j) : j < ds.length ∧ (∀ (hj : j < ds.length), PyData.eqv ds[j] d = true) ∧ ∀ m (hm : m < ds.length), m < j → PyData.eqv ds[m] d = false := by
  unfold idxL at h
  rw [List.findIdx?_eq_some_iff_getElem] at h
  obtain ⟨h1, h2, h3⟩ := h
  refine ⟨h1, fun hj => h2, fun m hm hmj => ?_⟩
  have z := h3 m hmj
  simpa using z
def indexD : OpM
  | .list ds, [x] => if (flatD x && ds.all flatD) = true then (idxL x ds).map fun j => .int (j : Nat) else if (SeqAt.shaped x && SeqAt.shaped (.list ds)) = true then (idxL x ds).map fun j => .int (j : Nat) else none
  | .tuple ds, [x] => if (flatD x && ds.all flatD) = true then (idxL x ds).map fun j => .int (j : Nat) else if (SeqAt.shaped x && SeqAt.shaped (.list ds)) = true then (idxL x ds).map fun j => .int (j : Nat) else none
  | _, _ => none
def countD : OpM
  | .list ds, [x] => if (flatD x && ds.all flatD) = true then some (.int ((ds.countP fun z => PyData.eqv z x : Nat) : Int)) else none
  | .tuple ds, [x] => if (flatD x && ds.all flatD) = true then some (.int ((ds.countP fun z => PyData.eqv z x : Nat) : Int)) else none
  | _, _ => none
theorem map_at {α β γ : Type} {as : List α} {bs : List β} {f : α → γ} {g : β → γ} (h : as.map f = bs.map g) (i : Nat) (ha : i < as.length) (hb : i < bs.length) : f as[i] = g bs[i] := by
  have e : (as.map f)[i]'(by simpa using ha) = (bs.map g)[i]'(by simpa using hb) := by simp only [h]
  simpa using e
theorem countP_map {α β : Type} {as : List α} {bs : List β} {f : α → Bool} {g : β → Bool} (h : as.map f = bs.map g) : as.countP f = bs.countP g := by
  have e1 : as.countP f = (as.map f).countP id := by rw [List.countP_map]; rfl
  have e2 : bs.countP g = (bs.map g).countP id := by rw [List.countP_map]; rfl
  rw [e1, e2, h]
/-- t.index(x) -/
theorem mt_tindex (hu : X.A.units + 65 < cLine) : MtR X "tuple.index" (fun x vs H Q => ∃ G ds d y j, Same G H ∧ Bo X.w X.K G H x (.tuple ds) ∧ vs = [y] ∧ Bo X.w X.K G H y d ∧ ((flatD d && ds.all flatD) = true ∨ (SeqAt.shaped d && SeqAt.shaped (.list ds)) = true) ∧ idxL d ds = some j ∧ Q (.int (j : Nat)) H) := by
  intro pins s σ H x vs v us Q I rx rs h
  obtain ⟨G, ds, d, y, j, sub, hx, rfl, hy, cnd, hj, q⟩ := h
  obtain ⟨p, xs, rfl, hp, ha⟩ := bo_tup hx
  obtain rfl : v = Value.ref p := rx
  obtain ⟨u, rfl, ru⟩ := rs.one
  obtain ⟨its, rv, ⟨⟨cls, dd, data, sl⟩, ho, hc, n, hd⟩, hz⟩ := I.tuple (hp.same sub).sq
  simp only at hc hd
  subst hc hd
  obtain ⟨j1, j2, j3⟩ := idx_facts hj
  have ll : its.length = ds.length := by rw [← rv.length, ha.len]
  have seen : ∃ e : Value → Bool, (∀ z, z ∈ its.toArray → SeqAt.EqAt X.A.in1 s z u (e z)) ∧ its.map e = ds.map fun z => PyData.eqv z d := by
    rcases cnd with c | c
    · rw [Bool.and_eq_true] at c
      exact seen_flat ru (bo_flat hy c.1) c.1 rv ha c.2
    · rw [Bool.and_eq_true] at c
      exact seen_deep I hu ru (bo_dp hy sub (lay_of c.1)) c.1 rv (DaA.dp (ha.same sub) (by simpa [PyData.canLay0] using lay_of c.2)) c.2
  obtain ⟨e, he, em⟩ := seen
  refine call_meets PySem.F.slot_tuple_index ⟨_, ho, rfl⟩ PySem.F.entry_tuple_index (PySem.F.args_tuple_index_2 _ _)
    (TI.tuple_indexAt p its.toArray n dd sl u e j (by simp; omega) ?_ ?_) ⟨ho, he, ?_⟩
  · have z := map_at em j (by omega) j1
    simpa [j2 j1] using z
  · intro m hm hmj
    have hm' : m < its.length := by simpa using hm
    have z := map_at em m hm' (by omega)
    rw [j3 m (by omega) hmj] at z
    simpa using z
  · exact ⟨.int (j : Nat), H, I.tok _, ⟨_, rfl⟩, q⟩
theorem mt_tcount : MtR X "tuple.count" (fun x vs H Q => ∃ G ds d y, Same G H ∧ Bo X.w X.K G H x (.tuple ds) ∧ vs = [y] ∧ Bo X.w X.K G H y d ∧ (flatD d && ds.all flatD) = true ∧ Q (.int ((ds.countP fun z => PyData.eqv z d : Nat) : Int)) H) := by
  intro pins s σ H x vs v us Q I rx rs h
  obtain ⟨G, ds, d, y, sub, hx, rfl, hy, c, q⟩ := h
  obtain ⟨p, xs, rfl, hp, ha⟩ := bo_tup hx
  obtain rfl : v = Value.ref p := rx
  obtain ⟨u, rfl, ru⟩ := rs.one
  obtain ⟨its, rv, ⟨⟨cls, dd, data, sl⟩, ho, hc, n, hd⟩, hz⟩ := I.tuple (hp.same sub).sq
  simp only at hc hd
  subst hc hd
  rw [Bool.and_eq_true] at c
  obtain ⟨e, he, em⟩ := seen_flat (A := X.A.in1) (s := s) ru (bo_flat hy c.1) c.1 rv ha c.2
  refine call_meets PySem.F.slot_tuple_count ⟨_, ho, rfl⟩ PySem.F.entry_tuple_count (PySem.F.args_tuple_count_2 _ _)
    (SeqAt.tuple_countAt p its.toArray n dd sl u e) ⟨ho, he, ?_⟩
  refine ⟨.int ((ds.countP fun z => PyData.eqv z d : Nat) : Int), H, I.tok _, ⟨s.toks, ?_⟩, q⟩
  rw [← countP_map em]
theorem mt_lcountD : MtR X "list.count" (fun x vs H Q => ∃ G ds d y, Same G H ∧ Bo X.w X.K G H x (.list ds) ∧ vs = [y] ∧ Bo X.w X.K G H y d ∧ (flatD d && ds.all flatD) = true ∧ Q (.int ((ds.countP fun z => PyData.eqv z d : Nat) : Int)) H) := by
  intro pins s σ H x vs v us Q I rx rs h
  obtain ⟨G, ds, d, y, sub, hx, rfl, hy, c, q⟩ := h
  obtain ⟨p, xs, rfl, hp, ha⟩ := bo_list hx sub
  obtain rfl : v = Value.ref p := rx
  obtain ⟨u, rfl, ru⟩ := rs.one
  obtain ⟨its, rv, ⟨⟨cls, dd, data, sl⟩, n, ho, hc, hdn, hd⟩, hz⟩ := I.list (SqL.of hp)
  simp only at hc hd
  subst hc hd
  rw [Bool.and_eq_true] at c
  obtain ⟨e, he, em⟩ := seen_flat (A := X.A.in1) (s := s) ru (bo_flat hy c.1) c.1 rv ha c.2
  refine call_meets PySem.F.slot_list_count ⟨_, ho, rfl⟩ PySem.F.entry_list_count (PySem.F.args_list_count_2 _ _)
    (SeqAt.list_countAt p its.toArray n dd sl u e) ⟨ho, he, ?_⟩
  refine ⟨.int ((ds.countP fun z => PyData.eqv z d : Nat) : Int), H, I.tok _, ⟨s.toks, ?_⟩, q⟩
  rw [← countP_map em]
theorem mt_lindex (hu : X.A.units + 65 < cLine) : MtR X "list.index" (fun x vs H Q => ∃ G ds d y j, Same G H ∧ Bo X.w X.K G H x (.list ds) ∧ vs = [y] ∧ Bo X.w X.K G H y d ∧ ((flatD d && ds.all flatD) = true ∨ (SeqAt.shaped d && SeqAt.shaped (.list ds)) = true) ∧ idxL d ds = some j ∧ Q (.int (j : Nat)) H) := by
  intro pins s σ H x vs v us Q I rx rs h
  obtain ⟨G, ds, d, y, j, sub, hx, rfl, hy, cnd, hj, q⟩ := h
  obtain ⟨p, xs, rfl, hp, ha⟩ := bo_list hx sub
  obtain rfl : v = Value.ref p := rx
  obtain ⟨u, rfl, ru⟩ := rs.one
  obtain ⟨its, rv, ⟨⟨cls, dd, data, sl⟩, n, ho, hc, hdn, hd⟩, hz⟩ := I.list (SqL.of hp)
  simp only at hc hd
  subst hc hd
  obtain ⟨j1, j2, j3⟩ := idx_facts hj
  have ll : its.length = ds.length := by rw [← rv.length, ha.len]
  have hsz := sizeLine_eq
  have lz := rv.length
  have seen : ∃ e : Value → Bool, (∀ z, z ∈ its.toArray → SeqAt.EqAt X.A.in1 s z u (e z)) ∧ its.map e = ds.map fun z => PyData.eqv z d := by
    rcases cnd with c | c
    · rw [Bool.and_eq_true] at c
      exact seen_flat ru (bo_flat hy c.1) c.1 rv ha c.2
    · rw [Bool.and_eq_true] at c
      exact seen_deep I hu ru (bo_dp hy sub (lay_of c.1)) c.1 rv (DaA.dp (ha.same sub) (by simpa [PyData.canLay0] using lay_of c.2)) c.2
  obtain ⟨e, he, em⟩ := seen
  refine call_meets PySem.F.slot_list_index ⟨_, ho, rfl⟩ PySem.F.entry_list_index (PySem.F.args_list_index_2 _ _)
    (SeqAt.list_indexAt p its.toArray n dd sl u e j (by simp; omega) (by omega) ?_ ?_) ⟨ho, he, ?_⟩
  · have z := map_at em j (by omega) j1
    simpa [j2 j1] using z
  · intro m hm hmj
    have hm' : m < its.length := by simpa using hm
    have z := map_at em m hm' (by omega)
    rw [j3 m (by omega) hmj] at z
    simpa using z
  · exact ⟨.int (j : Nat), H, I.tok _, ⟨_, rfl⟩, q⟩
theorem idx_case {f s : Bool} {o : Option Nat} {r : PyData} (h : (if f = true then o.map fun j => PyData.int (j : Nat) else if s = true then o.map fun j => PyData.int (j : Nat) else none) = some r) : (f = true ∨ s = true) ∧ ∃ j, o = some j ∧ r = .int (j : Nat) := by
  have go : o.map (fun j => PyData.int (j : Nat)) = some r → ∃ j, o = some j ∧ r = .int (j : Nat) := fun h => by
    cases o with
    | none => cases h
    | some j => exact ⟨j, rfl, (Option.some.inj h).symm⟩
  split at h
  · rename_i hf
    exact ⟨.inl hf, go h⟩
  · split at h
    · rename_i hs
      exact ⟨.inr hs, go h⟩
    · cases h
theorem me_tindex (hu : X.A.units + 65 < cLine) : MtR X "tuple.index" (rMt X.w X.K fun d ds => match d with | .tuple _ => indexD d ds | _ => none) := by
  refine MtR.imp (mt_tindex hu) ?_
  rintro x vs H Q ⟨G, d, ds, r, sub, hd, hv, h, k⟩
  dsimp only at h
  split at h
  · rename_i es
    unfold indexD at h
    split at h
    · rename_i heq
      cases heq
    · rename_i es' y heq
      cases heq
      obtain ⟨v, rfl, hy⟩ := pair1 hv
      obtain ⟨c, j, e1, rfl⟩ := idx_case h
      exact ⟨G, _, y, v, j, sub, hd, rfl, hy, c, e1, k _ G H (Xt.refl sub) (.int _)⟩
    · cases h
  · cases h
theorem me_lindex (hu : X.A.units + 65 < cLine) : MtR X "list.index" (rMt X.w X.K fun d ds => match d with | .list _ => indexD d ds | _ => none) := by
  refine MtR.imp (mt_lindex hu) ?_
  rintro x vs H Q ⟨G, d, ds, r, sub, hd, hv, h, k⟩
  dsimp only at h
  split at h
  · rename_i es
    unfold indexD at h
    split at h
    · rename_i es' y heq
      cases heq
      obtain ⟨v, rfl, hy⟩ := pair1 hv
      obtain ⟨c, j, e1, rfl⟩ := idx_case h
      exact ⟨G, _, y, v, j, sub, hd, rfl, hy, c, e1, k _ G H (Xt.refl sub) (.int _)⟩
    · rename_i heq
      cases heq
    · cases h
  · cases h
theorem me_tcount : MtR X "tuple.count" (rMt X.w X.K fun d ds => match d with | .tuple _ => countD d ds | _ => none) := by
  refine MtR.imp mt_tcount ?_
  rintro x vs H Q ⟨G, d, ds, r, sub, hd, hv, h, k⟩
  dsimp only at h
  split at h
  · rename_i es
    unfold countD at h
    split at h
    · rename_i heq
      cases heq
    · rename_i es' y heq
      cases heq
      split at h
      · rename_i c
        cases h
        obtain ⟨v, rfl, hy⟩ := pair1 hv
        exact ⟨G, _, y, v, sub, hd, rfl, hy, c, k _ G H (Xt.refl sub) (.int _)⟩
      · cases h
    · cases h
  · cases h
theorem me_lcount : MtR X "list.count" (rMt X.w X.K fun d ds => match d with | .list _ => countD d ds | _ => none) := by
  refine MtR.imp mt_lcountD ?_
  rintro x vs H Q ⟨G, d, ds, r, sub, hd, hv, h, k⟩
  dsimp only at h
  split at h
  · rename_i es
    unfold countD at h
    split at h
    · rename_i es' y heq
      cases heq
      split at h
      · rename_i c
        cases h
        obtain ⟨v, rfl, hy⟩ := pair1 hv
        exact ⟨G, _, y, v, sub, hd, rfl, hy, c, k _ G H (Xt.refl sub) (.int _)⟩
      · cases h
    · rename_i heq
      cases heq
    · cases h
  · cases h
def dGetD : OpM
  | .dict ((.none, _) :: ps), [.tuple ks] => match keyD (.tuple ks) with
    | some k => if decide (NestedKey.depth k ≤ 8) = true then some ((kGet (undict ps) k).getD .none) else none
    | none => none
  | _, _ => none
theorem mt_dget (hu : X.A.units + 64 < cLine) : MtR X "dict.get" (rMt X.w X.K dGetD) := by
  refine MtR.imp (mt_getK hu) ?_
  rintro x vs H Q ⟨G, d, ds, r, sub, hd, hv, h, k⟩
  unfold dGetD at h
  split at h
  · split at h
    · rename_i k' ek
      split at h
      · rename_i hz
        cases h
        obtain ⟨v, rfl, hy⟩ := pair1 hv
        obtain ⟨a, rfl, ka⟩ := bo_key hy ek (of_decide_eq_true hz)
        obtain ⟨p, xs, kvs, rfl, rfl, hp, hx⟩ := bo_dic hd
        rw [undict_map] at k
        exact ⟨G, a, p, k', xs, kvs, rfl, rfl, sub, ka, hp, hx, fun v hv => k v G H (Xt.refl sub) hv⟩
      · cases h
    · cases h
  · cases h
end
end DL

set_option Elab.async false
set_option linter.all false
set_option maxRecDepth 100000
set_option maxHeartbeats 4000000
/-! Targets and statements over data. -/
namespace DL
open PySem PySem.Spec PyProof.Rows L2 GX StX
variable [DL.FT]
/-! ### targets -/
abbrev GT := PyData → Rho → Option Rho
def rTg (ww : World) (K : PySem.W.Frag) (t : GT) : TG := fun v σ H Q => ∃ G ρ ρ' d, Rl ww K G σ ρ H ∧ Da K G v d ∧ t d ρ = some ρ' ∧ ∀ σ' G' H', Rl ww K G' σ' ρ' H' → Sx G σ ρ H G' σ' ρ' H' → Q σ' H'
def DTg (X : Cx) (e : Expr) (t : GT) : Prop := PG X e (rTg X.w X.K t)
def goT : List GT → List PyData → Rho → Option Rho
  | [], [], ρ => some ρ
  | t :: ts, d :: ds, ρ => match t d ρ with
    | some ρ1 => goT ts ds ρ1
    | none => none
  | _, _, _ => none
def rTgs (ww : World) (K : PySem.W.Frag) (ts : List GT) : TGs := fun vs σ H Q => ∃ G ρ ρ' ds, Rl ww K G σ ρ H ∧ DaA K G vs ds ∧ goT ts ds ρ = some ρ' ∧ ∀ σ' G' H', Rl ww K G' σ' ρ' H' → Sx G σ ρ H G' σ' ρ' H' → Q σ' H'
def DTgs (X : Cx) (es : List Expr) (ts : List GT) : Prop := PGs X es (rTgs X.w X.K ts)
section
variable {X : Cx}
theorem pg_imp {e : Expr} {t t' : TG} (h : PG X e t) (i : ∀ v σ H Q, t' v σ H Q → t v σ H Q) : PG X e t' := ⟨fun pins s σ H v u Q I r w => h.run pins s σ H v u Q I r (i _ _ _ _ w)⟩
theorem pgs_imp {e : List Expr} {t t' : TGs} (h : PGs X e t) (i : ∀ v σ H Q, t' v σ H Q → t v σ H Q) : PGs X e t' := ⟨fun pins s σ H v u Q I r w => h.run pins s σ H v u Q I r (i _ _ _ _ w)⟩
theorem pg_or {e : Expr} {t t' : TG} (h : PG X e t) (h' : PG X e t') : PG X e (fun v σ H Q => t v σ H Q ∨ t' v σ H Q) := ⟨fun pins s σ H v u Q I r w => w.elim (fun w => h.run pins s σ H v u Q I r w) fun w => h'.run pins s σ H v u Q I r w⟩
def tName (i : Nat) : GT := fun d ρ => some (ρ.set i (.dat d))
theorem dtg_name {i : Nat} {x : Str} {pos : Pos} (hN : X.N.Nodup) (hi : X.N[i]? = some x) (hx : Loc X.env.scope x) (hf : X.fn x = true ∨ X.env.scope.names.lookup x = some .local := by first | exact .inl rfl | exact .inr rfl | assumption) : DTg X (.Name x pos) (tName i) := by
  refine pg_imp (pg_name hN hi hx hf) ?_
  rintro v σ H Q ⟨G, ρ, ρ', d, R, hd, ht, k⟩
  cases ht
  exact k _ G H (R.put hd) (Sx.put R)
theorem dtgs_nil : DTgs X [] [] := by
  refine pgs_imp pgs_nil ?_
  rintro vs σ H Q ⟨G, ρ, ρ', ds, R, hd, ht, k⟩
  cases ds with
  | cons d ds => cases ht
  | nil =>
    cases hd
    cases ht
    exact ⟨rfl, k σ G H R (Sx.refl _ _ _ _)⟩
theorem dtgs_cons {e : Expr} {es : List Expr} {t : GT} {ts : List GT} (h : DTg X e t) (hs : DTgs X es ts) (hm : (assignEach (e :: es) X.env).map (·.2) = assign e X.env :: (assignEach es X.env).map (·.2) := by rfl) : DTgs X (e :: es) (t :: ts) := by
  refine pgs_imp (pgs_cons h hs hm) ?_
  rintro vs σ H Q ⟨G, ρ, ρ', ds, R, hd, ht, k⟩
  cases ds with
  | nil => cases ht
  | cons d ds =>
    cases hd with
    | @cons _ v vs _ _ h1 h2 =>
      unfold goT at ht
      split at ht
      · rename_i ρ1 e1
        exact ⟨v, vs, rfl, ⟨G, ρ, ρ1, d, R, h1, e1, fun σ1 G1 H1 R1 s1 => ⟨G1, ρ1, ρ', ds, R1, h2.same s1.gr, ht, fun σ2 G2 H2 R2 s2 => k σ2 G2 H2 R2 (s1.trans s2)⟩⟩⟩
      · cases ht
def tTupT (n : Nat) (ts : List GT) : GT := fun d ρ => match d with
  | .tuple ds => if ds.length = n then goT ts ds ρ else none
  | .list ds => if ds.length = n then goT ts ds ρ else none
  | _ => none
theorem dtg_tup {es : List Expr} {k : Nat} {ts : List GT} {n : Nat} {pos : Pos} (hc : X.calm = true) (h : DTgs X es ts) (hn : (assignEach es X.env).length = n := by rfl) (hst : (assignEach es X.env).findIdx? (·.1) = none := by rfl) : DTg X (.Tuple es k pos) (tTupT n ts) := by
  refine pg_imp (pg_or (pg_tup hc h hn hst) (pg_unl hc h hn hst)) ?_
  rintro v σ H Q ⟨G, ρ, ρ', d, R, hd, ht, k⟩
  unfold tTupT at ht
  split at ht
  · split at ht
    · rename_i hl
      cases hd with
      | tup hs ha => exact .inl ⟨_, _, rfl, (hs.same R.sub).sq, by rw [ha.len]; exact hl, ⟨G, ρ, ρ', _, R, ha, ht, k⟩⟩
    · cases ht
  · split at ht
    · rename_i hl
      cases hd with
      | lst hs ha => exact .inr ⟨_, _, rfl, .inl (.inl (R.sub _ _ hs)), by rw [ha.len]; exact hl, ⟨G, ρ, ρ', _, R, ha, ht, k⟩⟩
    · cases ht
  · cases ht
/-- xs[i] = .. -/
def tSub (j : Nat) (f : EF) : GT := fun d ρ => match f ρ with
  | some (.int i, ρ1) => match ρ[j]?, ρ1[j]? with
    | some (.own _ (.l _)), some (.own b (.l ds)) => match ixN ds.length i with
      | some k => some (ρ1.set j (.own b (ds.set k d)))
      | none => none
    | _, _ => none
  | _ => none
theorem dtg_sub {j : Nat} {x : Str} {i : Expr} {f : EF} {p pos : Pos} (hN : X.N[j]? = some x) (hv : Vis X.env.scope x) (hi : DE X i f) (hd : (x == ("__debug__" : Str)) = false := by decide) (hcd : (x == ("__classdict__" : Str)) = false := by decide)
    (ha : ∀ v, assign (.Subscript (.Name x p) i pos) X.env v = (do
      let ov ← holding [v] (eval (.Name x p) X.env)
      let iv ← holding [v, ov] (eval i X.env)
      standAt pos
      holding [v, ov, iv] (setItem ov iv v)
      release [v, ov, iv] []) := by intro _; rfl) : DTg X (.Subscript (.Name x p) i pos) (tSub j f) := by
  refine pg_imp (pg_sub (pe_var hN hv hd hcd) hi set_list ha) ?_
  rintro v σ H Q ⟨G, ρ, ρ', d, R, hd, ht, k⟩
  unfold tSub at ht
  split at ht
  · rename_i i' ρ1 h1
    split at ht
    · rename_i c es b ds e0 e1
      split at ht
      · rename_i m e2
        cases ht
        obtain ⟨p, xs, ep, _⟩ := R.ownL e0
        refine ⟨_, ep, ⟨G, ρ, ρ1, .int i', R, h1, fun w G1 H1 R1 s1 q1 => ?_⟩⟩
        cases q1
        obtain ⟨p', xs', ep', hp, gp, ha⟩ := R1.ownL e1
        rw [ep] at ep'
        cases ep'
        obtain ⟨R2, s2⟩ := R1.mutate (es := ds.set m d) e1 ep (ha.set m (hd.same s1.gr))
        exact ⟨p, xs', i', m, rfl, rfl, hp, by rw [ha.len]; exact e2, k _ _ _ R2 (s1.trans s2)⟩
      · cases ht
    · cases ht
  · cases ht
/-! ### statements -/
inductive Out where
  | nx (ρ : Rho) | rt (d : PyData) (ρ : Rho) | bk (ρ : Rho) | ct (ρ : Rho)
abbrev SF := Rho → Option Out
def EndR (ww : World) (K : PySem.W.Frag) (G : Hp) (σ : L2.St) (ρ : Rho) (H : Hp) (D : Ends) : Out → Prop
  | .nx ρ' => ∀ σ' G' H', Rl ww K G' σ' ρ' H' → Sx G σ ρ H G' σ' ρ' H' → D.nx σ' H'
  | .bk ρ' => ∀ σ' G' H', Rl ww K G' σ' ρ' H' → Sx G σ ρ H G' σ' ρ' H' → D.bk σ' H'
  | .ct ρ' => ∀ σ' G' H', Rl ww K G' σ' ρ' H' → Sx G σ ρ H G' σ' ρ' H' → D.ct σ' H'
  | .rt d ρ' => ∀ σ' v G' H', Rl ww K G' σ' ρ' H' → Sx G σ ρ H G' σ' ρ' H' → Da K G' v d → D.rt v H'
def rS (ww : World) (K : PySem.W.Frag) (g : SF) : TS := fun D σ H => ∃ G ρ o, Rl ww K G σ ρ H ∧ g ρ = some o ∧ EndR ww K G σ ρ H D o
def DS (X : Cx) (st : Stmt) (g : SF) : Prop := PS X st (rS X.w X.K g)
def DSs (X : Cx) (st : List Stmt) (g : SF) : Prop := PSs X st (rS X.w X.K g)
theorem EndR.back {ww : World} {K : PySem.W.Frag} {G G1 : Hp} {σ σ1 : L2.St} {ρ ρ1 : Rho} {H H1 : Hp} {D : Ends} {o : Out} (h : EndR ww K G σ ρ H D o) (s : Sx G σ ρ H G1 σ1 ρ1 H1) : EndR ww K G1 σ1 ρ1 H1 D o := by
  cases o with
  | nx ρ' => exact fun σ' G' H' R' s' => h σ' G' H' R' (s.trans s')
  | bk ρ' => exact fun σ' G' H' R' s' => h σ' G' H' R' (s.trans s')
  | ct ρ' => exact fun σ' G' H' R' s' => h σ' G' H' R' (s.trans s')
  | rt d ρ' => exact fun σ' v G' H' R' s' q => h σ' v G' H' R' (s.trans s') q
/-- with another wish behind -/
theorem EndR.ends {ww : World} {K : PySem.W.Frag} {G : Hp} {σ : L2.St} {ρ : Rho} {H : Hp} {D D' : Ends} {o : Out} (h : EndR ww K G σ ρ H D o) (n : ∀ σ H, D.nx σ H → D'.nx σ H) (r : ∀ v H, D.rt v H → D'.rt v H) (b : ∀ σ H, D.bk σ H → D'.bk σ H) (c : ∀ σ H, D.ct σ H → D'.ct σ H) : EndR ww K G σ ρ H D' o := by
  cases o with
  | nx ρ' => exact fun σ' G' H' R' s' => n _ _ (h σ' G' H' R' s')
  | bk ρ' => exact fun σ' G' H' R' s' => b _ _ (h σ' G' H' R' s')
  | ct ρ' => exact fun σ' G' H' R' s' => c _ _ (h σ' G' H' R' s')
  | rt d ρ' => exact fun σ' v G' H' R' s' q => r _ _ (h σ' v G' H' R' s' q)
def fNx : SF := fun ρ => some (.nx ρ)
/-- what is never come to -/
def fNv : SF := fun _ => none
theorem ds_nv {st : Stmt} : DS X st fNv := ps_imp ps_never fun D σ H ⟨_, _, _, _, h, _⟩ => nomatch h
theorem dss_nil : DSs X [] fNx := by
  refine pss_imp pss_nil ?_
  rintro D σ H ⟨G, ρ, o, R, hf, k⟩
  cases hf
  exact k σ G H R (Sx.refl _ _ _ _)
def fSq (g h : SF) : SF := fun ρ => match g ρ with
  | some (.nx ρ1) => h ρ1
  | r => r
theorem dss_cons {st : Stmt} {rest : List Stmt} {g h : SF} (h1 : DS X st g) (h2 : DSs X rest h) : DSs X (st :: rest) (fSq g h) := by
  refine pss_imp (pss_cons h1 h2) ?_
  rintro D σ H ⟨G, ρ, o, R, hf, k⟩
  unfold fSq at hf
  split at hf
  · rename_i ρ1 e1
    exact ⟨G, ρ, .nx ρ1, R, e1, fun σ1 G1 H1 R1 s1 => ⟨G1, ρ1, o, R1, hf, k.back s1⟩⟩
  · rename_i r hn
    refine ⟨G, ρ, o, R, hf, ?_⟩
    cases o with
    | nx ρ' => exact (hn ρ' hf).elim
    | bk ρ' => exact k
    | ct ρ' => exact k
    | rt d ρ' => exact k
theorem dss_one {st : Stmt} {g : SF} (h : DS X st g) : DSs X [st] g := pss_one h
theorem ds_pass {pos : Pos} : DS X (.Pass pos) fNx := by
  refine ps_imp ps_pass ?_
  rintro D σ H ⟨G, ρ, o, R, hf, k⟩
  cases hf
  exact k σ G H R (Sx.refl _ _ _ _)
theorem ds_doc {x j pos pos'} : DS X (.Expr (.Constant (.str x) j pos) pos') fNx := by
  refine ps_imp ps_doc ?_
  rintro D σ H ⟨G, ρ, o, R, hf, k⟩
  cases hf
  exact k σ G H R (Sx.refl _ _ _ _)
def fBk : SF := fun ρ => some (.bk ρ)
def fCt : SF := fun ρ => some (.ct ρ)
theorem ds_break {pos : Pos} : DS X (.Break pos) fBk := by
  refine ps_imp ps_break ?_
  rintro D σ H ⟨G, ρ, o, R, hf, k⟩
  cases hf
  exact k σ G H R (Sx.refl _ _ _ _)
theorem ds_continue {pos : Pos} : DS X (.Continue pos) fCt := by
  refine ps_imp ps_continue ?_
  rintro D σ H ⟨G, ρ, o, R, hf, k⟩
  cases hf
  exact k σ G H R (Sx.refl _ _ _ _)
def fRet (f : EF) : SF := fun ρ => match f ρ with
  | some (d, ρ') => some (.rt d ρ')
  | none => none
theorem ds_ret {e : Expr} {f : EF} {pos : Pos} (h : DE X e f) : DS X (.Return (some e) pos) (fRet f) := by
  refine ps_imp (ps_ret h) ?_
  rintro D σ H ⟨G, ρ, o, R, hf, k⟩
  unfold fRet at hf
  split at hf
  · rename_i d ρ1 e1
    cases hf
    exact ⟨G, ρ, _, d, R, e1, fun v G' H' R' s q => k σ v G' H' R' s q⟩
  · cases hf
def fRetN : SF := fun ρ => some (.rt .none ρ)
theorem ds_retN {pos : Pos} : DS X (.Return none pos) fRetN := by
  refine ps_imp ps_retN ?_
  rintro D σ H ⟨G, ρ, o, R, hf, k⟩
  cases hf
  exact k σ _ G H R (Sx.refl _ _ _ _) .non
def fDrop (f : EF) : SF := fun ρ => match f ρ with
  | some (_, ρ') => some (.nx ρ')
  | none => none
theorem ds_expr {e : Expr} {f : EF} {pos : Pos} (h : DE X e f) (hs : swapsWith e none pos.line X.env = pure false := by rfl) : DS X (.Expr e pos) (fDrop f) := by
  refine ps_imp (ps_expr h hs) ?_
  rintro D σ H ⟨G, ρ, o, R, hf, k⟩
  unfold fDrop at hf
  split at hf
  · rename_i d ρ1 e1
    cases hf
    exact ⟨G, ρ, _, d, R, e1, fun v G' H' R' s q => k σ G' H' R' s⟩
  · cases hf
def fIfS (c : TF) (g h : SF) : SF := fun ρ => match c ρ with
  | some (true, ρ') => g ρ'
  | some (false, ρ') => h ρ'
  | none => none
theorem ds_if {c : Expr} {a b : List Stmt} {t : TF} {g h : SF} {pos : Pos} (hc : DT X c t) (ha : DSs X a g) (hb : DSs X b h) : DS X (.If c a b pos) (fIfS t g h) := by
  refine ps_imp (ps_if hc ha hb) ?_
  rintro D σ H ⟨G, ρ, o, R, hf, k⟩
  unfold fIfS at hf
  split at hf
  · rename_i ρ1 e1
    exact ⟨G, ρ, ρ1, true, R, e1, fun G1 H1 R1 s1 => by dsimp only; rw [if_pos rfl]; exact ⟨G1, ρ1, o, R1, hf, k.back s1⟩⟩
  · rename_i ρ1 e1
    exact ⟨G, ρ, ρ1, false, R, e1, fun G1 H1 R1 s1 => by dsimp only; rw [if_neg Bool.false_ne_true]; exact ⟨G1, ρ1, o, R1, hf, k.back s1⟩⟩
  · cases hf
/-! ### assignments -/
def fAsg (f : EF) (t : GT) : SF := fun ρ => match f ρ with
  | none => none
  | some (d, ρ1) => match t d ρ1 with
    | none => none
    | some ρ2 => some (.nx ρ2)
theorem rS_asg {ww : World} {K : PySem.W.Frag} {f : EF} {t : GT} : ∀ D σ H, rS ww K (fAsg f t) D σ H → tAsg (rE ww K f) (rTg ww K t) D σ H := by
  rintro D σ H ⟨G, ρ, o, R, hf, k⟩
  unfold fAsg at hf
  split at hf
  · cases hf
  · rename_i d ρ1 e1
    split at hf
    · cases hf
    · rename_i ρ2 e2
      cases hf
      exact ⟨G, ρ, ρ1, d, R, e1, fun v G1 H1 R1 s1 q1 => ⟨G1, ρ1, ρ2, d, R1, q1, e2, fun σ' G' H' R' s' => k σ' G' H' R' (s1.trans s')⟩⟩
theorem ds_asg {tg e : Expr} {f : EF} {t : GT} {pos : Pos} (he : DE X e f) (hg : DTg X tg t) (hs : swapsWithSole [tg] e pos.line X.env = pure false := by rfl) (hw : swappedStores [tg] e X.env = pure none := by rfl)
    (h1 : (assignEach [tg] X.env).map (·.2) = [assign tg X.env] := by rfl) : DS X (.Assign [tg] e pos) (fAsg f t) :=
  ps_imp (ps_asg he hg hs hw h1) rS_asg
theorem ds_set {i : Nat} {x : Str} {e : Expr} {f : EF} {pos pos' : Pos} (hN : X.N.Nodup) (hi : X.N[i]? = some x) (hx : Loc X.env.scope x) (he : DE X e f) (hs : swapsWith e (some (.Name x pos')) pos.line X.env = pure false := by rfl)
    (hf : X.fn x = true ∨ X.env.scope.names.lookup x = some .local := by first | exact .inl rfl | exact .inr rfl | assumption) : DS X (.Assign [.Name x pos'] e pos) (fAsg f (tName i)) := by
  refine ps_imp (ps_set hN hi hx he hs hf) ?_
  intro D σ H h
  obtain ⟨G, ρ, ρ', d, R, e1, k⟩ := rS_asg _ _ _ h
  refine ⟨G, ρ, ρ', d, R, e1, fun v G1 H1 R1 s1 q1 => ?_⟩
  obtain ⟨G2, ρ2, ρ3, d2, R2, q2, e2, k2⟩ := k v G1 H1 R1 s1 q1
  cases e2
  exact k2 _ G2 H1 (R2.put q2) (Sx.put R2)
/-- a new list, to be changed here -/
def fHold (i : Nat) (f : LF) : SF := fun ρ => match f ρ with
  | none => none
  | some (ds, ρ1) => some (.nx (ρ1.set i (.own false ds)))
theorem rS_hold {ww : World} {K : PySem.W.Frag} {i : Nat} {f : LF} : ∀ D σ H, rS ww K (fHold i f) D σ H → tAsg (rF ww K f) (gName i) D σ H := by
  rintro D σ H ⟨G, ρ, o, R, hf, k⟩
  unfold fHold at hf
  split at hf
  · cases hf
  · rename_i ds ρ1 e1
    cases hf
    exact ⟨G, ρ, ρ1, ds, R, e1, fun p xs G1 H1 R1 s1 hp gp no n q1 => k _ G1 _ (R1.hold hp gp no q1) (Sx.hold s1 n)⟩
theorem ds_hold {i : Nat} {x : Str} {e : Expr} {f : LF} {pos pos' : Pos} (hN : X.N.Nodup) (hi : X.N[i]? = some x) (hx : Loc X.env.scope x) (he : DN X e f) (hs : swapsWith e (some (.Name x pos')) pos.line X.env = pure false := by rfl)
    (hf : X.fn x = true ∨ X.env.scope.names.lookup x = some .local := by first | exact .inl rfl | exact .inr rfl | assumption) : DS X (.Assign [.Name x pos'] e pos) (fHold i f) :=
  ps_imp (ps_set hN hi hx he hs hf) rS_hold
/-! ### append, extend -/
def fApp (j : Nat) (f : EF) : SF := fun ρ => match ρ[j]? with
  | some (.own _ (.l _)) => match f ρ with
    | some (d, ρ1) => match ρ1[j]? with
      | some (.own b (.l ds)) => if fits (ds.length + 1) = true then some (.nx (ρ1.set j (.own b (ds ++ [d])))) else none
      | _ => none
    | none => none
  | _ => none
theorem fits_lt {n : Nat} (h : fits (n + 1) = true) : n < sizeLine := by
  have := of_decide_eq_true h
  rw [sizeLine_eq]; omega
theorem ds_app {j : Nat} {x : Str} {e : Expr} {f : EF} {p apos cpos pos : Pos} (hN : X.N[j]? = some x) (hv : Vis X.env.scope x) (he : DE X e f) (hd : (x == ("__debug__" : Str)) = false := by decide) (hcd : (x == ("__classdict__" : Str)) = false := by decide)
    (hbase : attributeBase (.Name x p) "append" X.env (eval (.Name x p) X.env) = eval (.Name x p) X.env := by rfl)
    (hfew : ((backTo cpos (starEach [e] X.env)).all (fun x => !x.1) && (backToKw cpos (keywordEach [] X.env)).all (fun x => x.1.isSome)
      && decide ([e].length + ([] : List Keyword).length + (if ([] : List Keyword).isEmpty then 0 else 1) < 30)) = true := by rfl)
    (hline : (apos.endLine == cpos.line) = true := by rfl) (hs : starEach [e] X.env = (false, eval e X.env) :: starEach [] X.env := by rfl) (hplain : (backTo cpos (starEach [] X.env)).any (·.1) = false := by rfl)
    (hsw : swapsWith (.Call (.Attribute (.Name x p) "append" apos) [e] [] cpos) none pos.line X.env = pure false := by rfl) :
    DS X (.Expr (.Call (.Attribute (.Name x p) "append" apos) [e] [] cpos) pos) (fApp j f) := by
  refine ps_imp (ps_expr (pe_bm PySem.F.plainAttrs_list PySem.F.slot_list_append PySem.F.type_list_append mt_append (pe_var hN hv hd hcd) (pa_cons he pa_nil hs) hbase hfew hline hs hplain) hsw) ?_
  rintro D σ H ⟨G, ρ, o, R, hf, k⟩
  unfold fApp at hf
  split at hf
  · rename_i b0 ds0 e0
    split at hf
    · rename_i d ρ1 h1
      split at hf
      · rename_i b ds e1
        split at hf
        · rename_i hz
          cases hf
          obtain ⟨q, xs0, ep, hp0, _⟩ := R.ownL e0
          refine ⟨_, ep, .inl ⟨rfl, _, SqL.of hp0⟩, ⟨G, ρ, ρ1, d, R, h1, fun v G1 H1 R1 s1 q1 => ?_⟩⟩
          obtain ⟨q', xs, ep', hp, gp, ha⟩ := R1.ownL e1
          rw [ep] at ep'
          cases ep'
          obtain ⟨R2, s2⟩ := R1.mutate (es := ds ++ [d]) e1 ep (ha.snoc q1)
          exact ⟨q, xs, v, rfl, rfl, hp, by rw [ha.len]; exact fits_lt hz, k _ _ _ R2 (s1.trans s2)⟩
        · cases hf
      · cases hf
    · cases hf
  · cases hf
def fExt (j : Nat) (f : EF) : SF := fun ρ => match ρ[j]? with
  | some (.own _ (.l _)) => match f ρ with
    | some (.list es, ρ1) => match ρ1[j]? with
      | some (.own b (.l ds)) => if fits (ds.length + es.length) = true then some (.nx (ρ1.set j (.own b (ds ++ es)))) else none
      | _ => none
    | _ => none
  | _ => none
theorem ds_ext {j : Nat} {x : Str} {e : Expr} {f : EF} {p apos cpos pos : Pos} (hN : X.N[j]? = some x) (hv : Vis X.env.scope x) (he : DE X e f) (hd : (x == ("__debug__" : Str)) = false := by decide) (hcd : (x == ("__classdict__" : Str)) = false := by decide)
    (hbase : attributeBase (.Name x p) "extend" X.env (eval (.Name x p) X.env) = eval (.Name x p) X.env := by rfl)
    (hfew : ((backTo cpos (starEach [e] X.env)).all (fun x => !x.1) && (backToKw cpos (keywordEach [] X.env)).all (fun x => x.1.isSome)
      && decide ([e].length + ([] : List Keyword).length + (if ([] : List Keyword).isEmpty then 0 else 1) < 30)) = true := by rfl)
    (hline : (apos.endLine == cpos.line) = true := by rfl) (hs : starEach [e] X.env = (false, eval e X.env) :: starEach [] X.env := by rfl) (hplain : (backTo cpos (starEach [] X.env)).any (·.1) = false := by rfl)
    (hsw : swapsWith (.Call (.Attribute (.Name x p) "extend" apos) [e] [] cpos) none pos.line X.env = pure false := by rfl) :
    DS X (.Expr (.Call (.Attribute (.Name x p) "extend" apos) [e] [] cpos) pos) (fExt j f) := by
  refine ps_imp (ps_expr (pe_bm PySem.F.plainAttrs_list PySem.F.slot_list_extend PySem.F.type_list_extend mt_extend (pe_var hN hv hd hcd) (pa_cons he pa_nil hs) hbase hfew hline hs hplain) hsw) ?_
  rintro D σ H ⟨G, ρ, o, R, hf, k⟩
  unfold fExt at hf
  split at hf
  · rename_i b0 ds0 e0
    split at hf
    · rename_i es ρ1 h1
      split at hf
      · rename_i b ds e1
        split at hf
        · rename_i hz
          cases hf
          obtain ⟨q, xs0, ep, hp0, _⟩ := R.ownL e0
          refine ⟨_, ep, .inl ⟨rfl, _, SqL.of hp0⟩, ⟨G, ρ, ρ1, _, R, h1, fun v G1 H1 R1 s1 q1 => ?_⟩⟩
          obtain ⟨q', xs, ep', hp, gp, ha⟩ := R1.ownL e1
          rw [ep] at ep'
          cases ep'
          cases q1 with
          | @lst _ b ys _ hb hy =>
            obtain ⟨R2, s2⟩ := R1.mutate (es := ds ++ es) e1 ep (ha.app hy)
            exact ⟨q, b, xs, ys, rfl, rfl, hp, R1.sub _ _ hb, by rw [ha.len, hy.len]; exact fits_le hz, k _ _ _ R2 (s1.trans s2)⟩
        · cases hf
      · cases hf
    · cases hf
  · cases hf
/-! ### what is walked -/
structure JD (K : PySem.W.Frag) (G : Hp) (J : It) (ds : List PyData) : Prop where
  go : ∀ i H, Same G H → i < ds.length → J.go i H
  stop : ∀ i H, Same G H → ds.length ≤ i → J.stop i H
  yld : ∀ i G1 H x H' d, Same G G1 → Same G1 H → J.yld i H x H' → ds[i]? = some d → H' = H ∧ Da K G1 x d
/-- pairs: told as new tuples -/
structure JP (K : PySem.W.Frag) (G : Hp) (J : It) (ds : List PyData) : Prop where
  go : ∀ i H, Same G H → i < ds.length → J.go i H
  stop : ∀ i H, Same G H → ds.length ≤ i → J.stop i H
  yld : ∀ i G1 H x H' d, Same G G1 → Same G1 H → J.yld i H x H' → ds[i]? = some d → ∃ T vs es, x = .ref T ∧ H T = none ∧ H' = upd H T (.tup vs) ∧ d = .tuple es ∧ DaA K G1 vs es
def rI (ww : World) (K : PySem.W.Frag) (it : LF) : TI := fun σ H R => ∃ G ρ ρ' ds, Rl ww K G σ ρ H ∧ it ρ = some (ds, ρ') ∧ ∀ J G' H', Rl ww K G' σ ρ' H' → Sx G σ ρ H G' σ ρ' H' → JD K G' J ds → R J H'
def rIP (ww : World) (K : PySem.W.Frag) (it : LF) : TI := fun σ H R => ∃ G ρ ρ' ds, Rl ww K G σ ρ H ∧ it ρ = some (ds, ρ') ∧ ∀ J G' H', Rl ww K G' σ ρ' H' → Sx G σ ρ H G' σ ρ' H' → JP K G' J ds → R J H'
def DI (X : Cx) (tg iter : Expr) (it : LF) : Prop := PI X tg iter (rI X.w X.K it)
def DIP (X : Cx) (tg iter : Expr) (it : LF) : Prop := PI X tg iter (rIP X.w X.K it)
theorem pi_imp {tg iter : Expr} {w w' : TI} (h : PI X tg iter w) (i : ∀ σ H R, w' σ H R → w σ H R) : PI X tg iter w' := ⟨fun pins s σ H R I z => h.run pins s σ H R I (i _ _ _ z)⟩
theorem pi_or {tg iter : Expr} {w w' : TI} (h : PI X tg iter w) (h' : PI X tg iter w') : PI X tg iter (fun σ H R => w σ H R ∨ w' σ H R) := ⟨fun pins s σ H R I z => z.elim (fun z => h.run pins s σ H R I z) fun z => h'.run pins s σ H R I z⟩
/-- the items of a list or tuple -/
def iSeq (f : EF) : LF := fun ρ => match f ρ with
  | some (.list ds, ρ') => some (ds, ρ')
  | some (.tuple ds, ρ') => some (ds, ρ')
  | _ => none
theorem di_seq {tg e : Expr} {f : EF} (h : DE X e f) : DI X tg e (iSeq f) := by
  refine pi_imp (pi_or (pi_list h) (pi_tup h)) ?_
  rintro σ H R ⟨G, ρ, ρ', ds, Rr, hf, k⟩
  unfold iSeq at hf
  split at hf
  · rename_i es ρ1 e1
    cases hf
    refine .inl ⟨G, ρ, _, _, Rr, e1, fun v G1 H1 R1 s1 q1 => ?_⟩
    cases q1 with
    | @lst _ a xs _ hs ha =>
      refine ⟨a, rfl, ⟨xs, .inl (.inl (R1.sub _ _ hs))⟩, k _ _ _ R1 s1 ⟨fun i H2 sm hi => ?_, fun i H2 sm hi => ?_, fun i G2 H2 x H3 d sm sm2 hy hd => ?_⟩⟩
      · obtain ⟨v, ev, _⟩ := ha.get (List.getElem?_eq_getElem hi)
        exact ⟨xs, v, .inl (.inl (sm _ _ hs)), ev⟩
      · exact ⟨xs, .inl (.inl (sm _ _ hs)), by rw [ha.len]; exact hi⟩
      · obtain ⟨e2, hy⟩ := hy
        obtain ⟨v, ev, hv⟩ := ha.get hd
        have z := hy xs (.inl (.inl (sm2 _ _ (sm _ _ hs))))
        rw [ev] at z
        cases z
        exact ⟨e2, hv.same sm⟩
  · rename_i es ρ1 e1
    cases hf
    refine .inr ⟨G, ρ, _, _, Rr, e1, fun v G1 H1 R1 s1 q1 => ?_⟩
    cases q1 with
    | @tup _ a xs _ hs ha =>
      refine ⟨a, rfl, ⟨xs, (hs.same R1.sub).sq⟩, k _ _ _ R1 s1 ⟨fun i H2 sm hi => ?_, fun i H2 sm hi => ?_, fun i G2 H2 x H3 d sm sm2 hy hd => ?_⟩⟩
      · obtain ⟨v, ev, _⟩ := ha.get (List.getElem?_eq_getElem hi)
        exact ⟨xs, v, (hs.same sm).sq, ev⟩
      · exact ⟨xs, (hs.same sm).sq, by rw [ha.len]; exact hi⟩
      · obtain ⟨e2, hy⟩ := hy
        obtain ⟨v, ev, hv⟩ := ha.get hd
        have z := hy xs ((hs.same sm).same sm2).sq
        rw [ev] at z
        cases z
        exact ⟨e2, hv.same sm⟩
  · cases hf
def rangeD (lo : Int) (n : Nat) : List PyData := (List.range n).map fun i => .int (lo + ((i : Nat) : Int))
theorem jd_range {K : PySem.W.Frag} {G : Hp} (lo : Int) (n : Nat) : JD K G (Itr lo n) (rangeD lo n) := by
  refine ⟨fun i H _ hi => ?_, fun i H _ hi => ?_, fun i G1 H x H' d _ _ hy hd => ?_⟩
  · have z : i < n := by simpa [rangeD] using hi
    exact z
  · have z : n ≤ i := by simpa [rangeD] using hi
    exact z
  · obtain ⟨e, rfl⟩ := hy
    unfold rangeD at hd
    rw [List.getElem?_map] at hd
    cases q : (List.range n)[i]? with
    | none => rw [q] at hd; cases hd
    | some j =>
      rw [q] at hd
      cases hd
      have z := List.getElem?_eq_some_iff.mp q
      obtain ⟨hl, z⟩ := z
      rw [List.getElem_range] at z
      subst z
      exact ⟨e, .int _⟩
def small62 (i : Int) : Bool := decide (-(2 ^ 62) ≤ i) && decide (i < 2 ^ 62)
theorem small62_of {i : Int} (h : small62 i = true) : -(2 ^ 62) ≤ i ∧ i < 2 ^ 62 := by
  unfold small62 at h
  rw [Bool.and_eq_true] at h
  exact ⟨of_decide_eq_true h.1, of_decide_eq_true h.2⟩
def iRange1 (f : LF) : LF := fun ρ => match f ρ with
  | some ([.int j], ρ') => if small62 j = true then some (rangeD 0 j.toNat, ρ') else none
  | _ => none
theorem di_range1 {tg a : Expr} {f : LF} {p pos : Pos} (hg : Gl X "range") (hm : X.mg "range" = none) (ha : DLs X [a] f) (hs : starEach [a] X.env = [(false, eval a X.env)] := by rfl) : DI X tg (.Call (.Name "range" p) [a] [] pos) (iRange1 f) := by
  refine pi_imp (pi_range1 hg hm ha hs) ?_
  rintro σ H R ⟨G, ρ, ρ', ds, Rr, hf, k⟩
  unfold iRange1 at hf
  split at hf
  · rename_i j ρ1 e1
    split at hf
    · rename_i hz
      cases hf
      refine ⟨G, ρ, _, _, Rr, e1, fun vs G1 H1 R1 s1 q1 => ?_⟩
      obtain ⟨z1, z2⟩ := small62_of hz
      have e2 := DaA.ints (ns := [j]) q1
      exact ⟨j, e2, z1, z2, k _ _ _ R1 s1 (jd_range 0 j.toNat)⟩
    · cases hf
  · cases hf
def iRange2 (f : LF) : LF := fun ρ => match f ρ with
  | some ([.int i, .int j], ρ') => if (small62 i && small62 j) = true then some (rangeD i (j - i).toNat, ρ') else none
  | _ => none
theorem di_range2 {tg a b : Expr} {f : LF} {p pos : Pos} (hg : Gl X "range") (hm : X.mg "range" = none) (ha : DLs X [a, b] f) (hs : starEach [a, b] X.env = [(false, eval a X.env), (false, eval b X.env)] := by rfl) (hs2 : starEach [b] X.env = [(false, eval b X.env)] := by rfl) :
    DI X tg (.Call (.Name "range" p) [a, b] [] pos) (iRange2 f) := by
  refine pi_imp (pi_range2 hg hm ha hs hs2) ?_
  rintro σ H R ⟨G, ρ, ρ', ds, Rr, hf, k⟩
  unfold iRange2 at hf
  split at hf
  · rename_i i j ρ1 e1
    split at hf
    · rename_i hz
      cases hf
      refine ⟨G, ρ, _, _, Rr, e1, fun vs G1 H1 R1 s1 q1 => ?_⟩
      rw [Bool.and_eq_true] at hz
      obtain ⟨z1, z2⟩ := small62_of hz.1
      obtain ⟨z3, z4⟩ := small62_of hz.2
      have e2 := DaA.ints (ns := [i, j]) q1
      exact ⟨i, j, e2, ⟨z1, z2, z3, z4⟩, k _ _ _ R1 s1 (jd_range i (j - i).toNat)⟩
    · cases hf
  · cases hf
/-! ### for -/
def fLoop (t : GT) (g : SF) : List PyData → SF
  | [], ρ => some (.nx ρ)
  | d :: ds, ρ => match t d ρ with
    | none => none
    | some ρ1 => match g ρ1 with
      | some (.nx ρ2) => fLoop t g ds ρ2
      | some (.ct ρ2) => fLoop t g ds ρ2
      | some (.bk ρ2) => some (.nx ρ2)
      | some (.rt d ρ2) => some (.rt d ρ2)
      | none => none
def fFor (it : LF) (t : GT) (g : SF) : SF := fun ρ => match it ρ with
  | none => none
  | some (ds, ρ1) => fLoop t g ds ρ1
theorem for_core {ww : World} {K : PySem.W.Frag} {J : It} {ds : List PyData} {t : GT} {g : SF} {tg : TG} {G0 H0 : Hp} {σ0 : L2.St} {ρ0 : Rho} {o : Out} {D : Ends} (R0 : Rl ww K G0 σ0 ρ0 H0) (hl : fLoop t g ds ρ0 = some o) (k : EndR ww K G0 σ0 ρ0 H0 D o)
    (go : ∀ i H, Same G0 H → i < ds.length → J.go i H) (stop : ∀ i H, Same G0 H → ds.length ≤ i → J.stop i H)
    (step : ∀ i G1 σ ρ1 H x H' d ρ2 (Q : L2.St → Hp → Prop), Same G0 G1 → Rl ww K G1 σ ρ1 H → J.yld i H x H' → ds[i]? = some d → t d ρ1 = some ρ2 → (∀ σ' G2 H2, Rl ww K G2 σ' ρ2 H2 → Sx G1 σ ρ1 H G2 σ' ρ2 H2 → Q σ' H2) → tg x σ H' Q) :
    ∃ W : Nat → Nat → L2.St → Hp → Prop, (∃ m, W 0 m σ0 H0) ∧ ∀ i m σ H, W i m σ H →
      (J.stop i H ∧ D.nx σ H) ∨ (J.go i H ∧ ∃ N : L2.St → Hp → Prop, (∀ σ' H', N σ' H' → ∃ m', m' < m ∧ W (i + 1) m' σ' H') ∧ ∀ x H', J.yld i H x H' → tg x σ H' fun σ2 H2 => rS ww K g { D with nx := N, ct := N, bk := D.nx } σ2 H2) := by
  refine ⟨fun i m σ H => m = ds.length - i ∧ i ≤ ds.length ∧ ∃ G1 ρ1, Rl ww K G1 σ ρ1 H ∧ Sx G0 σ0 ρ0 H0 G1 σ ρ1 H ∧ fLoop t g (ds.drop i) ρ1 = some o, ⟨_, rfl, Nat.zero_le _, G0, ρ0, R0, Sx.refl _ _ _ _, hl⟩, ?_⟩
  rintro i m σ H ⟨rfl, hi, G1, ρ1, R1, s1, e1⟩
  have sm : Same G0 H := s1.gr.trans R1.sub
  by_cases hlt : i < ds.length
  · refine .inr ⟨go i H sm hlt, fun σ' H' => i + 1 ≤ ds.length ∧ ∃ G1 ρ1, Rl ww K G1 σ' ρ1 H' ∧ Sx G0 σ0 ρ0 H0 G1 σ' ρ1 H' ∧ fLoop t g (ds.drop (i + 1)) ρ1 = some o, fun σ' H' h => ⟨_, by omega, rfl, h⟩, fun x H' hy => ?_⟩
    rw [List.drop_eq_getElem_cons hlt] at e1
    unfold fLoop at e1
    split at e1
    · cases e1
    · rename_i ρ2 e2
      refine step i G1 σ ρ1 H x H' _ ρ2 _ s1.gr R1 hy (List.getElem?_eq_getElem hlt) e2 fun σ2 G2 H2 R2 s2 => ?_
      have k2 := k.back (s1.trans s2)
      split at e1
      · rename_i ρ3 e3
        exact ⟨G2, ρ2, _, R2, e3, fun σ' G' H' R' s' => ⟨hlt, G', ρ3, R', (s1.trans s2).trans s', e1⟩⟩
      · rename_i ρ3 e3
        exact ⟨G2, ρ2, _, R2, e3, fun σ' G' H' R' s' => ⟨hlt, G', ρ3, R', (s1.trans s2).trans s', e1⟩⟩
      · rename_i ρ3 e3
        cases e1
        exact ⟨G2, ρ2, _, R2, e3, fun σ' G' H' R' s' => k2 σ' G' H' R' s'⟩
      · rename_i d ρ3 e3
        cases e1
        exact ⟨G2, ρ2, _, R2, e3, fun σ' v G' H' R' s' q => k2 σ' v G' H' R' s' q⟩
      · cases e1
  · have e2 : i = ds.length := by omega
    subst e2
    rw [List.drop_length] at e1
    cases e1
    exact .inl ⟨stop _ H sm (Nat.le_refl _), k σ G1 H R1 s1⟩
theorem ds_for {tg iter : Expr} {body : List Stmt} {it : LF} {t : GT} {g : SF} {pos : Pos} (hp : PassesOwn (model X.prog X.w) X.A X.env X.xe) (hc : X.calm = true) (hi : DI X tg iter it) (hg : DTg X tg t) (hb : DSs X body g)
    (hs : ∀ x, foldedSetIterable iter X.env x = pure x := by intro _; rfl) : DS X (.For tg iter body [] pos) (fFor it t g) := by
  refine ps_imp (ps_for hp hc hi hg hb hs) ?_
  rintro D σ H ⟨G, ρ, o, R, hf, k⟩
  unfold fFor at hf
  split at hf
  · cases hf
  · rename_i ds ρ1 e1
    refine ⟨G, ρ, ρ1, ds, R, e1, fun J G1 H1 R1 s1 j => for_core R1 hf (k.back s1) j.go j.stop ?_⟩
    intro i G2 σ2 ρ2 H2 x H3 d ρ3 Q sm R2 hy hd ht q
    obtain ⟨e3, hx⟩ := j.yld i G2 H2 x H3 d sm R2.sub hy hd
    subst e3
    exact ⟨G2, ρ2, ρ3, d, R2, hx, ht, q⟩
/-- for a, b in pairs -/
theorem ds_forP {es : List Expr} {kk : Nat} {iter : Expr} {body : List Stmt} {it : LF} {n : Nat} {ts : List GT} {g : SF} {tpos pos : Pos} (hp : PassesOwn (model X.prog X.w) X.A X.env X.xe) (hc : X.calm = true) (hi : DIP X (.Tuple es kk tpos) iter it) (hg : DTgs X es ts) (hb : DSs X body g)
    (hn : (assignEach es X.env).length = n := by rfl) (hst : (assignEach es X.env).findIdx? (·.1) = none := by rfl)
    (hs : ∀ x, foldedSetIterable iter X.env x = pure x := by intro _; rfl) : DS X (.For (.Tuple es kk tpos) iter body [] pos) (fFor it (tTupT n ts) g) := by
  refine ps_imp (ps_for hp hc hi (pg_tup hc hg hn hst) hb hs) ?_
  rintro D σ H ⟨G, ρ, o, R, hf, k⟩
  unfold fFor at hf
  split at hf
  · cases hf
  · rename_i ds ρ1 e1
    refine ⟨G, ρ, ρ1, ds, R, e1, fun J G1 H1 R1 s1 j => for_core R1 hf (k.back s1) j.go j.stop ?_⟩
    intro i G2 σ2 ρ2 H2 x H3 d ρ3 Q sm R2 hy hd ht q
    obtain ⟨T, vs, es', rfl, nT, rfl, rfl, ha⟩ := j.yld i G2 H2 x H3 d sm R2.sub hy hd
    unfold tTupT at ht
    dsimp only at ht
    split at ht
    · rename_i hl
      have xx := Xt.more (p := T) (o := .tup vs) R2.sub nT
      exact ⟨T, vs, rfl, .inl (.inl upd_same), by rw [ha.len]; exact hl, ⟨G2, ρ2, ρ3, es', R2.ext xx, ha, ht, fun σ' G' H' R' s' => q σ' G' H' R' (Sx.trans (.ext xx) s')⟩⟩
    · cases ht
/-! ### while -/
def fWh (c : TF) (g : SF) : Nat → SF
  | 0, _ => none
  | n + 1, ρ => match c ρ with
    | some (true, ρ1) => match g ρ1 with
      | some (.nx ρ2) => fWh c g n ρ2
      | some (.ct ρ2) => fWh c g n ρ2
      | some (.bk ρ2) => some (.nx ρ2)
      | some (.rt d ρ2) => some (.rt d ρ2)
      | none => none
    | some (false, ρ1) => some (.nx ρ1)
    | none => none
theorem ds_while {c : Expr} {body : List Stmt} {t : TF} {g : SF} {pos : Pos} (n : Nat) (hp : PassesOwn (model X.prog X.w) X.A X.env X.xe) (hc : DT X c t) (hb : DSs X body g) : DS X (.While c body [] pos) (fWh t g n) := by
  refine ps_imp (ps_while hp hc hb) ?_
  rintro D σ0 H0 ⟨G0, ρ0, o, R0, hf, k⟩
  refine ⟨fun m σ H => ∃ G1 ρ1, Rl X.w X.K G1 σ ρ1 H ∧ Sx G0 σ0 ρ0 H0 G1 σ ρ1 H ∧ fWh t g m ρ1 = some o, ⟨n, G0, ρ0, R0, Sx.refl _ _ _ _, hf⟩, ?_⟩
  rintro m σ H ⟨G1, ρ1, R1, s1, e1⟩
  cases m with
  | zero => cases e1
  | succ m =>
    unfold fWh at e1
    split at e1
    · rename_i ρ2 e2
      refine ⟨G1, ρ1, ρ2, true, R1, e2, fun G2 H2 R2 s2 => ?_⟩
      dsimp only
      rw [if_pos rfl]
      refine ⟨fun σ' H' => ∃ G1 ρ1, Rl X.w X.K G1 σ' ρ1 H' ∧ Sx G0 σ0 ρ0 H0 G1 σ' ρ1 H' ∧ fWh t g m ρ1 = some o, fun σ' H' h => ⟨m, Nat.lt_succ_self m, h⟩, ?_⟩
      have k2 := k.back (s1.trans s2)
      split at e1
      · rename_i ρ3 e3
        exact ⟨G2, ρ2, _, R2, e3, fun σ' G' H' R' s' => ⟨G', ρ3, R', (s1.trans s2).trans s', e1⟩⟩
      · rename_i ρ3 e3
        exact ⟨G2, ρ2, _, R2, e3, fun σ' G' H' R' s' => ⟨G', ρ3, R', (s1.trans s2).trans s', e1⟩⟩
      · rename_i ρ3 e3
        cases e1
        exact ⟨G2, ρ2, _, R2, e3, fun σ' G' H' R' s' => k2 σ' G' H' R' s'⟩
      · rename_i d ρ3 e3
        cases e1
        exact ⟨G2, ρ2, _, R2, e3, fun σ' v G' H' R' s' q => k2 σ' v G' H' R' s' q⟩
      · cases e1
    · rename_i ρ2 e2
      cases e1
      refine ⟨G1, ρ1, _, false, R1, e2, fun G2 H2 R2 s2 => ?_⟩
      dsimp only
      rw [if_neg Bool.false_ne_true]
      exact k σ G2 H2 R2 (s1.trans s2)
    · cases e1
end
end DL

set_option Elab.async false
set_option linter.all false
set_option maxRecDepth 100000
set_option maxHeartbeats 4000000
/-! Comprehensions, defs and their calls over data. -/
namespace DL
open PySem PySem.Spec PyProof.Rows L2 GX StX
variable [DL.FT]
def wipeR (ρ : Rho) : List Nat → Rho
  | [] => ρ
  | k :: ks => (wipeR ρ ks).set k .un
section
variable {ww : World} {K : PySem.W.Frag} {G H : Hp} {σ : L2.St} {ρ : Rho}
theorem wipeR_len (ρ : Rho) : ∀ ks, (wipeR ρ ks).length = ρ.length
  | [] => rfl
  | k :: ks => by unfold wipeR; rw [List.length_set, wipeR_len ρ ks]
theorem wipeR_get {s : Sl} (hs : s ≠ .un) {i : Nat} : ∀ {ks : List Nat}, (wipeR ρ ks)[i]? = some s → ρ[i]? = some s ∧ i ∉ ks
  | [], h => ⟨h, by simp⟩
  | k :: ks, h => by
    unfold wipeR at h
    rcases set_get h with ⟨_, z, _⟩ | ⟨n, h⟩
    · exact (hs z).elim
    · obtain ⟨h1, h2⟩ := wipeR_get hs h
      exact ⟨h1, by simp only [List.mem_cons, not_or]; exact ⟨n, h2⟩⟩
theorem wipe_get {i : Nat} : ∀ {ks : List Nat}, i ∉ ks → (wipe σ ks)[i]? = σ[i]?
  | [], _ => rfl
  | k :: ks, h => by
    simp only [List.mem_cons, not_or] at h
    unfold wipe
    rw [List.getElem?_set_ne (Ne.symm h.1)]
    exact wipe_get h.2
/-- both sides agree but on slots that nothing is said of -/
theorem Rl.alike {σ2 : L2.St} {ρ2 : Rho} (R : Rl ww K G σ ρ H) (hl : σ2.length = ρ2.length) (h : ∀ (i : Nat) (s : Sl), s ≠ Sl.un → ρ2[i]? = some s → ρ[i]? = some s ∧ σ2[i]? = σ[i]?) : Rl ww K G σ2 ρ2 H := by
  refine ⟨hl, R.sub, fun {i d} q => ?_, fun {i b ds} q => ?_, fun {i j b c ds es p p2 a} h1 h2 h3 h4 h5 h6 => ?_, fun {i ns} q => ?_, R.tb⟩
  · obtain ⟨z1, z2⟩ := h i _ (by simp) q
    obtain ⟨v, e, r⟩ := R.dat z1
    exact ⟨v, z2.trans e, r⟩
  · obtain ⟨z1, z2⟩ := h i _ (by simp) q
    obtain ⟨p, e, r⟩ := R.own z1
    exact ⟨p, z2.trans e, r⟩
  · obtain ⟨z1, z2⟩ := h i _ (by simp) h1
    obtain ⟨y1, y2⟩ := h j _ (by simp) h2
    exact R.dis z1 y1 (z2 ▸ h3) (y2 ▸ h4) h5 h6
  · obtain ⟨z1, z2⟩ := h i _ (by simp) q
    obtain ⟨p, e, r⟩ := R.scr z1
    exact ⟨p, z2.trans e, r⟩
theorem Sx.alike {σ2 : L2.St} {ρ2 : Rho} (h : ∀ (i : Nat) (s : Sl), s ≠ Sl.un → ρ2[i]? = some s → ρ[i]? = some s ∧ σ2[i]? = σ[i]?) : Sx G σ ρ H G σ2 ρ2 H := by
  refine ⟨Same.refl _, fun _ h => .inl h, fun _ _ e _ _ => e, fun b ⟨i, c, ds, r, h1, h2, h3⟩ => ?_, fun _ h => h, fun i ds q => ?_⟩
  · obtain ⟨z1, z2⟩ := h i _ (by simp) h1
    exact .inl ⟨i, c, ds, r, z1, z2 ▸ h2, h3⟩
  · obtain ⟨z1, z2⟩ := h i _ (by simp) q
    exact ⟨⟨_, z1, fun _ => rfl⟩, z2⟩
theorem wiped (ks : List Nat) : ∀ (i : Nat) (s : Sl), s ≠ Sl.un → (wipeR ρ ks)[i]? = some s → ρ[i]? = some s ∧ (wipe σ ks)[i]? = σ[i]? := fun i s hs h => by
  obtain ⟨h1, h2⟩ := wipeR_get hs h
  exact ⟨h1, wipe_get h2⟩
theorem unwiped (ks : List Nat) : ∀ (i : Nat) (s : Sl), s ≠ Sl.un → (wipeR ρ ks)[i]? = some s → ρ[i]? = some s ∧ σ[i]? = (wipe σ ks)[i]? := fun i s hs h => by
  obtain ⟨h1, h2⟩ := wipeR_get hs h
  exact ⟨h1, (wipe_get h2).symm⟩
/-- an own list is changed that no slot holds -/
theorem Rl.poke {p : Addr} {xs : List V} {o : HO} (R : Rl ww K G σ ρ H) (hp : H p = some (.lst xs)) (gp : G p = none) (no : ¬ Ow σ ρ p) : Rl ww K G σ ρ (upd H p o) := by
  refine ⟨R.len, fun c u q => ?_, R.dat, fun {i b ds} h => ?_, R.dis, fun {i ns} h => ?_, R.tb.step (Same.refl _) fun P ps h1 h2 => ⟨h2, (upd_ne (fun z : P = p => by rw [z, hp] at h1; cases h1)).trans h1⟩⟩
  · have np : c ≠ p := fun z => by rw [z, gp] at q; cases q
    rw [upd_ne np]
    exact R.sub c u q
  · obtain ⟨q, e, eg, d⟩ := R.own h
    have np : ∀ a ∈ reg q ds, a ≠ p := fun a ha z => no ⟨i, b, ds, q, h, e, z ▸ ha⟩
    exact ⟨q, e, eg, d.step (Same.refl _) fun a ha => upd_ne (np a ha)⟩
  · obtain ⟨q, e, s⟩ := R.scr h
    refine ⟨q, e, ?_⟩
    rcases s with ⟨o2, s⟩ | s
    · have np : q ≠ p := fun z => by rw [z, hp] at s; cases s
      exact .inl ⟨o2, by rw [upd_ne np]; exact s⟩
    · exact .inr s
theorem Sx.poke {G' H' : Hp} {σ' : L2.St} {ρ' : Rho} {p : Addr} {o : HO} (s : Sx G σ ρ H G' σ' ρ' H') (n : H p = none) : Sx G σ ρ H G' σ' ρ' (upd H' p o) := by
  refine ⟨s.gr, s.new, fun c u q t h => ?_, s.ow, fun c h => ?_, s.par⟩
  · have np : c ≠ p := fun z => by rw [z, n] at q; cases q
    rw [upd_ne np]
    exact s.fr c u q t h
  · by_cases z : c = p
    · rw [z, upd_same]; simp
    · rw [upd_ne z]; exact s.al c h
end
/-! ### comprehensions -/
/-- alike but at some slots -/
structure Off (ks : List Nat) (σ τ : L2.St) : Prop where
  len : σ.length = τ.length
  at_ : ∀ i, i ∉ ks → σ[i]? = τ[i]?
theorem wipe_at : ∀ (ks : List Nat) (τ : L2.St) (i : Nat), (wipe τ ks)[i]? = if i ∈ ks then (τ[i]?).map (fun _ => none) else τ[i]?
  | [], τ, i => rfl
  | a :: as, τ, i => by
    unfold wipe
    by_cases h : a = i
    · subst h
      rw [if_pos (by simp)]
      by_cases hl : a < τ.length
      · rw [List.getElem?_set_self (by rw [wipe_length]; exact hl), List.getElem?_eq_getElem hl]
        rfl
      · rw [List.getElem?_eq_none (by rw [List.length_set, wipe_length]; omega), List.getElem?_eq_none (by omega)]
        rfl
    · rw [List.getElem?_set_ne h, wipe_at as τ i]
      by_cases q : i ∈ as
      · rw [if_pos q, if_pos (by simp [q])]
      · rw [if_neg q, if_neg (by simp [q, Ne.symm h])]
theorem Off.wipe {ks : List Nat} {σ τ : L2.St} (h : Off ks σ τ) : L2.wipe σ ks = L2.wipe τ ks := by
  refine List.ext_getElem? fun i => ?_
  rw [wipe_at, wipe_at]
  by_cases q : i ∈ ks
  · rw [if_pos q, if_pos q]
    by_cases hl : i < σ.length
    · rw [List.getElem?_eq_getElem hl, List.getElem?_eq_getElem (by rw [← h.len]; exact hl)]
      rfl
    · rw [List.getElem?_eq_none (by omega), List.getElem?_eq_none (by rw [← h.len]; omega)]
  · rw [if_neg q, if_neg q]
    exact h.at_ i q
theorem Off.refl (ks : List Nat) (σ : L2.St) : Off ks σ σ := ⟨rfl, fun _ _ => rfl⟩
theorem Off.set {ks : List Nat} {σ τ : L2.St} {k : Nat} {v : Option V} (h : Off ks σ τ) (hk : k ∈ ks) : Off ks (σ.set k v) τ := ⟨by rw [List.length_set]; exact h.len, fun i hi => by
  have e : k ≠ i := fun z => hi (z ▸ hk)
  rw [List.getElem?_set_ne e]
  exact h.at_ i hi⟩
theorem off_wipe (ks : List Nat) (σ : L2.St) : Off ks (wipe σ ks) σ := ⟨wipe_length σ ks, fun i hi => wipe_get hi⟩
/-- names, one after another -/
def gNames : List Nat → TGs
  | [] => gNil
  | k :: ks => gCons (gName k) (gNames ks)
theorem names_go {ww : World} {K : PySem.W.Frag} {ks : List Nat} {σ : L2.St} {G H : Hp} : ∀ (js : List Nat), (∀ j ∈ js, j ∈ ks) → ∀ (τ : L2.St) (ρ ρ' : Rho) (xs : List V) (ds : List PyData) (Q : L2.St → Hp → Prop), Rl ww K G τ ρ H → Off ks τ σ → DaA K G xs ds → goT (js.map tName) ds ρ = some ρ' →
    (∀ σ', Rl ww K G σ' ρ' H → Sx G τ ρ H G σ' ρ' H → Off ks σ' σ → Q σ' H) → gNames js xs τ H Q
  | [], _, τ, ρ, ρ', xs, ds, Q, R, hw, hd, ht, q => by
    cases ds with
    | cons d ds => cases ht
    | nil =>
      cases hd
      cases ht
      exact ⟨rfl, q τ R (Sx.refl _ _ _ _) hw⟩
  | j :: js, hj, τ, ρ, ρ', xs, ds, Q, R, hw, hd, ht, q => by
    cases ds with
    | nil => cases ht
    | cons d ds =>
      cases hd with
      | @cons _ v vs _ _ h1 h2 =>
        exact ⟨v, vs, rfl, names_go js (fun i hi => hj i (by simp [hi])) (τ.set j (some v)) _ ρ' vs ds Q (R.put h1) (hw.set (hj j (by simp))) h2 ht fun σ' R' s' w' => q σ' R' (Sx.trans (Sx.put R) s') w'⟩
def cLoop (ks : List Nat) (t : GT) (c : TF) (f : EF) : List PyData → List PyData → Rho → Option (List PyData × Rho)
  | [], acc, ρ => some (acc, ρ)
  | d :: ds, acc, ρ => match t d ρ with
    | none => none
    | some ρ1 => match c ρ1 with
      | some (true, ρ2) => match f ρ2 with
        | some (y, ρ3) => if fits (acc.length + 1) = true then cLoop ks t c f ds (acc ++ [y]) (wipeR ρ3 ks) else none
        | none => none
      | some (false, ρ2) => cLoop ks t c f ds acc (wipeR ρ2 ks)
      | none => none
def fComp (it : LF) (ks : List Nat) (t : GT) (c : TF) (f : EF) : LF := fun ρ => match it ρ with
  | none => none
  | some (ds, ρ1) => cLoop ks t c f ds [] (wipeR ρ1 ks)
theorem cLoop_wiped {ks : List Nat} {t : GT} {c : TF} {f : EF} : ∀ {ds acc : List PyData} {ρ ρ' : Rho} {r : List PyData}, (∃ ρ0, ρ = wipeR ρ0 ks) → cLoop ks t c f ds acc ρ = some (r, ρ') → ∃ ρ0, ρ' = wipeR ρ0 ks
  | [], _, _, _, _, h, e => by cases e; exact h
  | d :: ds, acc, ρ, ρ', r, h, e => by
    unfold cLoop at e
    split at e
    · cases e
    · split at e
      · split at e
        · split at e
          · exact cLoop_wiped ⟨_, rfl⟩ e
          · cases e
        · cases e
      · exact cLoop_wiped ⟨_, rfl⟩ e
      · cases e
theorem lc_core2 {ww : World} {K : PySem.W.Frag} {J : It} {ds : List PyData} {ks : List Nat} {t : GT} {c : TF} {f : EF} {g : TG} {tt : TT} {te : TE} {G0 H0 : Hp} {σ : L2.St} {ρ0 ρf : Rho} {D : Addr} {r : List PyData} {Q : VK} (R0 : Rl ww K G0 σ ρ0 H0) (hD : H0 D = none)
    (hl : cLoop ks t c f ds [] (wipeR ρ0 ks) = some (r, ρf)) (k : ∀ xs G' H', Rl ww K G' σ ρf H' → Sx G0 σ ρ0 H0 G' σ ρf H' → H' D = some (.lst xs) → G' D = none → ¬ Ow σ ρf D → DaA K G' xs r → Q (.ref D) H')
    (go : ∀ i H, Same G0 H → i < ds.length → J.go i H) (stop : ∀ i H, Same G0 H → ds.length ≤ i → J.stop i H)
    (htt : ∀ σ H Q, rT ww K c σ H Q → tt σ H Q) (hte : ∀ σ H Q, rE ww K f σ H Q → te σ H Q)
    (step : ∀ i G1 ρ1 H x H' d ρ2 (Q : L2.St → Hp → Prop), Same G0 G1 → Rl ww K G1 (wipe σ ks) ρ1 H → J.yld i H x H' → ds[i]? = some d → t d ρ1 = some ρ2 → (∀ σ' H2, Rl ww K G1 σ' ρ2 H2 → Sx G1 (wipe σ ks) ρ1 H G1 σ' ρ2 H2 → Off ks σ' (wipe σ ks) → Q σ' H2) → g x (wipe σ ks) H' Q) :
    ∃ W : Nat → Nat → Hp → Prop, (∃ m, W 0 m (upd H0 D (.lst []))) ∧ ∀ i m H, W i m H →
      (J.stop i H ∧ Q (.ref D) H) ∨ (J.go i H ∧ ∃ Nx : Hp → Prop, (∀ H', Nx H' → ∃ m', m' < m ∧ W (i + 1) m' H') ∧ ∀ x H', J.yld i H x H' → g x (wipe σ ks) H' fun σ2 H2 => wipe σ2 ks = wipe σ ks ∧ tt σ2 H2 fun b H3 =>
        if b = true then te σ2 H3 fun y H4 => ∃ acc, H4 D = some (.lst acc) ∧ acc.length < sizeLine ∧ Nx (upd H4 D (.lst (acc ++ [y]))) else Nx H3) := by
  let P : Nat → Hp → Prop := fun i H => i ≤ ds.length ∧ ∃ G1 ρ1 acc xs, Rl ww K G1 (wipe σ ks) ρ1 H ∧ Sx G0 σ ρ0 H0 G1 (wipe σ ks) ρ1 H ∧ (∃ ρ', ρ1 = wipeR ρ' ks) ∧ H D = some (.lst xs) ∧ G1 D = none ∧ ¬ Ow (wipe σ ks) ρ1 D ∧ DaA K G1 xs acc ∧ cLoop ks t c f (ds.drop i) acc ρ1 = some (r, ρf)
  have x0 := Xt.more (p := D) (o := .lst []) R0.sub hD
  have Rw : Rl ww K G0 (wipe σ ks) (wipeR ρ0 ks) H0 := R0.alike (by rw [wipe_length, wipeR_len]; exact R0.len) (wiped ks)
  have s0 : Sx G0 σ ρ0 H0 G0 (wipe σ ks) (wipeR ρ0 ks) H0 := Sx.alike (wiped ks)
  refine ⟨fun i m H => m = ds.length - i ∧ P i H, ⟨_, rfl, Nat.zero_le _, G0, _, [], [], Rw.ext x0, s0.trans (.ext x0), ⟨_, rfl⟩, upd_same, Same.free R0.sub hD, noOw Rw hD, .nil, hl⟩, ?_⟩
  rintro i m H ⟨rfl, hi, G1, ρ1, acc, xs, R1, s1, hw, hd, gd, no, ha, e1⟩
  have sm : Same G0 H := s1.gr.trans R1.sub
  by_cases hlt : i < ds.length
  · refine .inr ⟨go i H sm hlt, P (i + 1), fun H' h => ⟨_, by omega, rfl, h⟩, fun x H' hy => ?_⟩
    rw [List.drop_eq_getElem_cons hlt] at e1
    unfold cLoop at e1
    split at e1
    · cases e1
    · rename_i ρ2 e2
      refine step i G1 ρ1 H x H' _ ρ2 _ s1.gr R1 hy (List.getElem?_eq_getElem hlt) e2 fun σ2 H2 R2 s2 o2 => ⟨by rw [o2.wipe, (off_wipe ks σ).wipe], htt _ _ _ ?_⟩
      have keepD : ∀ {G' H' : Hp} {σ' : L2.St} {ρ' : Rho}, Rl ww K G' σ' ρ' H' → Sx G1 (wipe σ ks) ρ1 H G' σ' ρ' H' → H' D = some (.lst xs) ∧ G' D = none ∧ ¬ Ow σ' ρ' D := fun {G' H' σ' ρ'} R' s' => by
        refine ⟨s'.fr D _ hd (fun _ z => nomatch z) no, ?_, fun o => ?_⟩
        · cases q : G' D with
          | none => rfl
          | some u =>
            rcases s'.new D (by rw [q]; simp) with z | z | z
            · exact (z gd).elim
            · rw [hd] at z; cases z
            · exact (no z).elim
        · rcases s'.ow D o with z | z
          · exact no z
          · rw [hd] at z; cases z
      have backW : ∀ {G' H' : Hp} {ρ' : Rho}, Rl ww K G' σ2 ρ' H' → Rl ww K G' (wipe σ ks) (wipeR ρ' ks) H' ∧ Sx G' σ2 ρ' H' G' (wipe σ ks) (wipeR ρ' ks) H' := fun {G' H' ρ'} R' => by
        have h : ∀ (i : Nat) (s : Sl), s ≠ Sl.un → (wipeR ρ' ks)[i]? = some s → ρ'[i]? = some s ∧ (wipe σ ks)[i]? = σ2[i]? := fun i s hs h => by
          obtain ⟨h1, h2⟩ := wipeR_get hs h
          exact ⟨h1, (o2.at_ i h2).symm⟩
        exact ⟨R'.alike (by rw [wipeR_len, ← R'.len, o2.len]) h, Sx.alike h⟩
      split at e1
      · rename_i ρ3 e3
        refine ⟨G1, ρ2, ρ3, true, R2, e3, fun G3 H3 R3 s3 => ?_⟩
        dsimp only
        rw [if_pos rfl]
        split at e1
        · rename_i y ρ4 e4
          split at e1
          · rename_i hz
            refine hte _ _ _ ⟨G3, ρ3, ρ4, y, R3, e4, fun v G4 H4 R4 s4 q4 => ?_⟩
            have st := (s2.trans s3).trans s4
            obtain ⟨d4, g4, n4⟩ := keepD R4 st
            obtain ⟨R5, s5⟩ := backW R4
            have n5 : ¬ Ow (wipe σ ks) (wipeR ρ4 ks) D := fun o => by
              rcases s5.ow D o with z | z
              · exact n4 z
              · rw [d4] at z; cases z
            refine ⟨xs, d4, by rw [ha.len]; exact fits_lt hz, hlt, G4, wipeR ρ4 ks, acc ++ [y], xs ++ [v], R5.poke d4 g4 n5, (((s1.trans st).trans s5)).poke hD, ⟨_, rfl⟩, upd_same, g4, n5, (ha.same st.gr).snoc q4, e1⟩
          · cases e1
        · cases e1
      · rename_i ρ3 e3
        refine ⟨G1, ρ2, ρ3, false, R2, e3, fun G3 H3 R3 s3 => ?_⟩
        dsimp only
        rw [if_neg Bool.false_ne_true]
        have st := s2.trans s3
        obtain ⟨d4, g4, n4⟩ := keepD R3 st
        obtain ⟨R5, s5⟩ := backW R3
        have n5 : ¬ Ow (wipe σ ks) (wipeR ρ3 ks) D := fun o => by
          rcases s5.ow D o with z | z
          · exact n4 z
          · rw [d4] at z; cases z
        exact ⟨hlt, G3, wipeR ρ3 ks, acc, xs, R5, (s1.trans st).trans s5, ⟨_, rfl⟩, d4, g4, n5, ha.same st.gr, e1⟩
      · cases e1
  · have e2 : i = ds.length := by omega
    subst e2
    rw [List.drop_length] at e1
    cases e1
    obtain ⟨ρ', rfl⟩ := hw
    have h : ∀ (i : Nat) (s : Sl), s ≠ Sl.un → (wipeR ρ' ks)[i]? = some s → (wipeR ρ' ks)[i]? = some s ∧ σ[i]? = (wipe σ ks)[i]? := fun i s hs h => ⟨h, (unwiped ks i s hs h).2⟩
    have R5 := R1.alike (σ2 := σ) (ρ2 := wipeR ρ' ks) (by rw [← R1.len, wipe_length]) h
    have s5 : Sx G1 (wipe σ ks) (wipeR ρ' ks) H G1 σ (wipeR ρ' ks) H := Sx.alike h
    refine .inl ⟨stop _ H sm (Nat.le_refl _), k xs G1 H R5 (s1.trans s5) hd gd (fun o => ?_) ha⟩
    rcases s5.ow D o with z | z
    · exact no z
    · rw [hd] at z; cases z
section
variable {X : Cx}
theorem rF_comp {ww : World} {K : PySem.W.Frag} {it : LF} {k : Nat} {c : TF} {f : EF} {tt : TT} {te : TE} (htt : ∀ σ H Q, rT ww K c σ H Q → tt σ H Q) (hte : ∀ σ H Q, rE ww K f σ H Q → te σ H Q) : ∀ σ H Q, rF ww K (fComp it [k] (tName k) c f) σ H Q → tLc (rI ww K it) (gName k) tt te [k] σ H Q := by
  rintro σ H Q ⟨G, ρ, ρ', ds, R, hf, q⟩
  unfold fComp at hf
  split at hf
  · cases hf
  · rename_i es ρ1 e1
    refine ⟨G, ρ, ρ1, es, R, e1, fun J G1 H1 R1 s1 j D hD => lc_core2 R1 hD hf (fun xs G' H' R' s' hd gd no ha => q D xs G' H' R' (s1.trans s') hd gd no (backN s1 hD) ha) j.go j.stop htt hte ?_⟩
    intro i G2 ρ2 H2 x H3 d ρ3 Q' sm R2 hy hd ht q'
    obtain ⟨e3, hx⟩ := j.yld i G2 H2 x H3 d sm R2.sub hy hd
    subst e3
    cases ht
    exact q' _ _ (R2.put hx) (Sx.put R2) ((Off.refl [k] _).set (by simp))
theorem rF_compP {ww : World} {K : PySem.W.Frag} {it : LF} {ks : List Nat} {n : Nat} {c : TF} {f : EF} {tt : TT} {te : TE} (htt : ∀ σ H Q, rT ww K c σ H Q → tt σ H Q) (hte : ∀ σ H Q, rE ww K f σ H Q → te σ H Q) : ∀ σ H Q, rF ww K (fComp it ks (tTupT n (ks.map tName)) c f) σ H Q → tLc (rIP ww K it) (gTup K n (gNames ks)) tt te ks σ H Q := by
  rintro σ H Q ⟨G, ρ, ρ', ds, R, hf, q⟩
  unfold fComp at hf
  split at hf
  · cases hf
  · rename_i es ρ1 e1
    refine ⟨G, ρ, ρ1, es, R, e1, fun J G1 H1 R1 s1 j D hD => lc_core2 R1 hD hf (fun xs G' H' R' s' hd gd no ha => q D xs G' H' R' (s1.trans s') hd gd no (backN s1 hD) ha) j.go j.stop htt hte ?_⟩
    intro i G2 ρ2 H2 x H3 d ρ3 Q' sm R2 hy hd ht q'
    obtain ⟨T, vs, es', rfl, nT, rfl, rfl, ha⟩ := j.yld i G2 H2 x H3 d sm R2.sub hy hd
    unfold tTupT at ht
    dsimp only at ht
    split at ht
    · rename_i hl
      have xx := Xt.more (p := T) (o := .tup vs) R2.sub nT
      refine ⟨T, vs, rfl, .inl (.inl upd_same), by rw [ha.len]; exact hl, ?_⟩
      exact names_go ks (fun _ h => h) _ ρ2 ρ3 vs es' Q' (R2.ext xx) (Off.refl ks _) ha ht fun σ' R' s' o' => q' σ' _ R' (Sx.trans (.ext xx) s') o'
    · cases ht
/-- .. over a sequence of pairs -/
theorem rF_compT {ww : World} {K : PySem.W.Frag} {it : LF} {ks : List Nat} {n : Nat} {c : TF} {f : EF} {tt : TT} {te : TE} (htt : ∀ σ H Q, rT ww K c σ H Q → tt σ H Q) (hte : ∀ σ H Q, rE ww K f σ H Q → te σ H Q) : ∀ σ H Q, rF ww K (fComp it ks (tTupT n (ks.map tName)) c f) σ H Q → tLc (rI ww K it) (fun v σ H Q => gTup K n (gNames ks) v σ H Q ∨ gUnl K n (gNames ks) v σ H Q) tt te ks σ H Q := by
  rintro σ H Q ⟨G, ρ, ρ', ds, R, hf, q⟩
  unfold fComp at hf
  split at hf
  · cases hf
  · rename_i es ρ1 e1
    refine ⟨G, ρ, ρ1, es, R, e1, fun J G1 H1 R1 s1 j D hD => lc_core2 (g := fun v σ H Q => gTup K n (gNames ks) v σ H Q ∨ gUnl K n (gNames ks) v σ H Q) R1 hD hf (fun xs G' H' R' s' hd gd no ha => q D xs G' H' R' (s1.trans s') hd gd no (backN s1 hD) ha) j.go j.stop htt hte ?_⟩
    intro i G2 ρ2 H2 x H3 d ρ3 Q' sm R2 hy hd ht q'
    obtain ⟨e3, hx⟩ := j.yld i G2 H2 x H3 d sm R2.sub hy hd
    subst e3
    unfold tTupT at ht
    split at ht
    · split at ht
      · rename_i hl
        cases hx with
        | tup hs ha => exact .inl ⟨_, _, rfl, (hs.same R2.sub).sq, by rw [ha.len]; exact hl, names_go ks (fun _ h => h) _ ρ2 ρ3 _ _ Q' R2 (Off.refl ks _) ha ht fun σ' R' s' o' => q' σ' _ R' s' o'⟩
      · cases ht
    · split at ht
      · rename_i hl
        cases hx with
        | lst hs ha => exact .inr ⟨_, _, rfl, .inl (.inl (R2.sub _ _ hs)), by rw [ha.len]; exact hl, names_go ks (fun _ h => h) _ ρ2 ρ3 _ _ Q' R2 (Off.refl ks _) ha ht fun σ' R' s' o' => q' σ' _ R' s' o'⟩
      · cases ht
    · cases ht
def fYes : TF := fun ρ => some (true, ρ)
theorem yes_of {ww : World} {K : PySem.W.Frag} : ∀ σ H Q, rT ww K fYes σ H Q → tYes σ H Q := by
  rintro σ H Q ⟨G, ρ, ρ', b, R, hf, k⟩
  cases hf
  exact k G H R (Sx.refl _ _ _ _)
end
end DL

set_option Elab.async false
set_option linter.all false
set_option maxRecDepth 100000
set_option maxHeartbeats 4000000
/-! Comprehensions as expressions; defs and their calls over data. -/
namespace DL
open PySem PySem.Spec PyProof.Rows L2 GX StX
variable [DL.FT]
section
variable {X : Cx}
theorem pts_imp {ifs : List Expr} {t t' : TT} (h : PTs X ifs t) (i : ∀ σ H Q, t' σ H Q → t σ H Q) : PTs X ifs t' := ⟨fun pins s σ H Q I w => h.run pins s σ H Q I (i _ _ _ w)⟩
def DC (X : Cx) (ifs : List Expr) (c : TF) : Prop := PTs X ifs (rT X.w X.K c)
theorem dc_nil : DC X [] fYes := pts_imp pts_nil yes_of
theorem dc_one {e : Expr} {c : TF} (h : DT X e c) : DC X [e] c := pts_one h
/-- [elt for x in iter if ..] -/
theorem dn_comp {k : Nat} {x : Str} {elt iter : Expr} {ifs : List Expr} {scope : Scope} {pos p : Pos} {it : LF} {c : TF} {f : EF} (hc : X.calm = true) (hN : X.N.Nodup) (hi : DI X (.Name x p) iter it) (ok : BlkOk X.N X.env.scope scope [(x, k)])
    (hg : ∀ (s : Shared) (H : Hp) (C : Addr) (cl : List (Str × Addr)) (fp : List Addr), PG (X.blk s H scope (compEnvC scope cl C X.env) fp) (.Name x p) (gName k))
    (ht : ∀ (s : Shared) (H : Hp) (C : Addr) (cl : List (Str × Addr)) (fp : List Addr), DC (X.blk s H scope (compEnvC scope cl C X.env) fp) ifs c)
    (he : ∀ (s : Shared) (H : Hp) (C : Addr) (cl : List (Str × Addr)) (fp : List Addr), DE (X.blk s H scope (compEnvC scope cl C X.env) fp) elt f) (hs : ∀ x, foldedSetIterable iter X.env x = pure x := by intro _; rfl) :
    DN X (.ListComp elt [⟨.Name x p, iter, ifs, 0⟩] scope pos) (fComp it [k] (tName k) c f) :=
  pe_imp (pe_lc (own := [(x, k)]) (tt := rT X.w X.K c) (te := rE X.w X.K f) hc hN hi ok hg ht he hs) (rF_comp (fun _ _ _ h => h) fun _ _ _ h => h)
/-- .. x, y in pairs -/
theorem dn_compP {es : List Expr} {kk n : Nat} {own : List (Str × Nat)} {elt iter : Expr} {ifs : List Expr} {scope : Scope} {pos p : Pos} {it : LF} {c : TF} {f : EF} (hc : X.calm = true) (hN : X.N.Nodup) (hi : DIP X (.Tuple es kk p) iter it) (ok : BlkOk X.N X.env.scope scope own)
    (hg : ∀ (s : Shared) (H : Hp) (C : Addr) (cl : List (Str × Addr)) (fp : List Addr), PG (X.blk s H scope (compEnvC scope cl C X.env) fp) (.Tuple es kk p) (gTup X.K n (gNames (own.map (·.2)))))
    (ht : ∀ (s : Shared) (H : Hp) (C : Addr) (cl : List (Str × Addr)) (fp : List Addr), DC (X.blk s H scope (compEnvC scope cl C X.env) fp) ifs c)
    (he : ∀ (s : Shared) (H : Hp) (C : Addr) (cl : List (Str × Addr)) (fp : List Addr), DE (X.blk s H scope (compEnvC scope cl C X.env) fp) elt f) (hs : ∀ x, foldedSetIterable iter X.env x = pure x := by intro _; rfl) :
    DN X (.ListComp elt [⟨.Tuple es kk p, iter, ifs, 0⟩] scope pos) (fComp it (own.map (·.2)) (tTupT n ((own.map (·.2)).map tName)) c f) :=
  pe_imp (pe_lc (own := own) (tt := rT X.w X.K c) (te := rE X.w X.K f) hc hN hi ok hg ht he hs) (rF_compP (fun _ _ _ h => h) fun _ _ _ h => h)
theorem dn_compT {es : List Expr} {kk n : Nat} {own : List (Str × Nat)} {elt iter : Expr} {ifs : List Expr} {scope : Scope} {pos p : Pos} {it : LF} {c : TF} {f : EF} (hc : X.calm = true) (hN : X.N.Nodup) (hi : DI X (.Tuple es kk p) iter it) (ok : BlkOk X.N X.env.scope scope own)
    (hg : ∀ (s : Shared) (H : Hp) (C : Addr) (cl : List (Str × Addr)) (fp : List Addr), PG (X.blk s H scope (compEnvC scope cl C X.env) fp) (.Tuple es kk p) (gTup X.K n (gNames (own.map (·.2)))))
    (hg2 : ∀ (s : Shared) (H : Hp) (C : Addr) (cl : List (Str × Addr)) (fp : List Addr), PG (X.blk s H scope (compEnvC scope cl C X.env) fp) (.Tuple es kk p) (gUnl X.K n (gNames (own.map (·.2)))))
    (ht : ∀ (s : Shared) (H : Hp) (C : Addr) (cl : List (Str × Addr)) (fp : List Addr), DC (X.blk s H scope (compEnvC scope cl C X.env) fp) ifs c)
    (he : ∀ (s : Shared) (H : Hp) (C : Addr) (cl : List (Str × Addr)) (fp : List Addr), DE (X.blk s H scope (compEnvC scope cl C X.env) fp) elt f) (hs : ∀ x, foldedSetIterable iter X.env x = pure x := by intro _; rfl) :
    DN X (.ListComp elt [⟨.Tuple es kk p, iter, ifs, 0⟩] scope pos) (fComp it (own.map (·.2)) (tTupT n ((own.map (·.2)).map tName)) c f) :=
  pe_imp (pe_lc (own := own) (tt := rT X.w X.K c) (te := rE X.w X.K f) hc hN hi ok (fun s H C cl fp => pg_or (hg s H C cl fp) (hg2 s H C cl fp)) ht he hs) (rF_compT (fun _ _ _ h => h) fun _ _ _ h => h)
/-- y = [..] on one line -/
theorem ds_setC {i k : Nat} {y x : Str} {py : Pos} {elt iter : Expr} {ifs : List Expr} {scope : Scope} {pos p spos : Pos} {it : LF} {c : TF} {f : EF} (hc : X.calm = true) (hN : X.N.Nodup) (hy : X.N[i]? = some y) (hyl : X.env.scope.names.lookup y = some .local)
    (hsw : swapsWith (.ListComp elt [⟨.Name x p, iter, ifs, 0⟩] scope pos) (some (.Name y py)) spos.line X.env = pure true) (hi : DI X (.Name x p) iter it) (ok : BlkOk X.N X.env.scope scope [(x, k)])
    (hg : ∀ (s : Shared) (H : Hp) (C : Addr) (cl : List (Str × Addr)) (fp : List Addr), PG (X.blk s H scope (compEnvC scope cl C X.env) fp) (.Name x p) (gName k))
    (ht : ∀ (s : Shared) (H : Hp) (C : Addr) (cl : List (Str × Addr)) (fp : List Addr), DC (X.blk s H scope (compEnvC scope cl C X.env) fp) ifs c)
    (he : ∀ (s : Shared) (H : Hp) (C : Addr) (cl : List (Str × Addr)) (fp : List Addr), DE (X.blk s H scope (compEnvC scope cl C X.env) fp) elt f) (hs : ∀ x, foldedSetIterable iter X.env x = pure x := by intro _; rfl) :
    DS X (.Assign [.Name y py] (.ListComp elt [⟨.Name x p, iter, ifs, 0⟩] scope pos) spos) (fHold i (fComp it [k] (tName k) c f)) := by
  refine ps_imp (ps_setLc (own := [(x, k)]) (tt := rT X.w X.K c) (te := rE X.w X.K f) hc hN hy hyl hsw hi ok hg ht he hs) ?_
  intro D σ H h
  exact rF_comp (fun _ _ _ h => h) (fun _ _ _ h => h) _ _ _ (rS_hold _ _ _ h)
end
/-! ### defs -/
abbrev FF := List Sl → Option (PyData × List Sl)
def spD (ww : World) (K : PySem.W.Frag) (n : Nat) (F : FF) : Sp := fun vs H Q _ => vs.length = n ∧ ∃ G sls sls' d, Rl ww K G (vs.map some) sls H ∧ F sls = some (d, sls') ∧
  ∀ v G' H', Rl ww K G' (vs.map some) sls' H' → Sx G (vs.map some) sls H G' (vs.map some) sls' H' → Da K G' v d → Q v H'
/-- what is left of the parameters: the lists that the caller gave -/
def parOf : Option Sl → Sl
  | some (.own true ds) => .own true ds
  | _ => .un
def backP (n : Nat) (ρ : Rho) : List Sl := (List.range n).map fun (i : Nat) => parOf ρ[i]?
/-- a def's body, m slots behind the parameters -/
def fBody (m : Nat) (g : SF) : FF := fun sls => match g (sls ++ List.replicate m .un) with
  | some (.rt d ρ') => some (d, backP sls.length ρ')
  | some (.nx ρ') => some (.none, backP sls.length ρ')
  | _ => none
theorem app_un {sls : List Sl} {m i : Nat} {s : Sl} (hs : s ≠ .un) (h : (sls ++ List.replicate m Sl.un)[i]? = some s) : sls[i]? = some s := by
  by_cases hl : i < sls.length
  · rw [List.getElem?_append_left hl] at h; exact h
  · rw [List.getElem?_append_right (by omega)] at h
    exact (hs (not_un h)).elim
theorem backP_get {ρ : Rho} {n i : Nat} {s : Sl} (hs : s ≠ .un) (h : (backP n ρ)[i]? = some s) : ∃ ds, s = .own true ds ∧ ρ[i]? = some (.own true ds) ∧ i < n := by
  unfold backP at h
  rw [List.getElem?_map] at h
  cases q : (List.range n)[i]? with
  | none => rw [q] at h; cases h
  | some j =>
    rw [q] at h
    obtain ⟨hl, z⟩ := List.getElem?_eq_some_iff.mp q
    rw [List.getElem_range] at z
    subst z
    rw [List.length_range] at hl
    have e : parOf ρ[i]? = s := Option.some.inj h
    unfold parOf at e
    split at e
    · rename_i ds e2
      exact ⟨ds, e.symm, e2, hl⟩
    · exact (hs e.symm).elim
theorem backP_len (n : Nat) (ρ : Rho) : (backP n ρ).length = n := by simp [backP]
/-- what a body's end is to its caller -/
theorem fin_of {ww : World} {K : PySem.W.Frag} {G G' H H' : Hp} {vs : List V} {sls : List Sl} {σ' : L2.St} {ρ' : Rho} {m : Nat} (hl : vs.length = sls.length) (R' : Rl ww K G' σ' ρ' H')
    (s : Sx G (vs.map some ++ List.replicate m none) (sls ++ List.replicate m .un) H G' σ' ρ' H') : Rl ww K G' (vs.map some) (backP sls.length ρ') H' ∧ Sx G (vs.map some) sls H G' (vs.map some) (backP sls.length ρ') H' := by
  have ow : ∀ b, Ow (vs.map some ++ List.replicate m none) (sls ++ List.replicate m .un) b → Ow (vs.map some) sls b := fun b ⟨i, c, ds, r, h1, h2, h3⟩ => by
    have z := app_un (by simp) h1
    have li : i < sls.length := (List.getElem?_eq_some_iff.mp z).1
    rw [List.getElem?_append_left (by simp [hl, li])] at h2
    exact ⟨i, c, ds, r, z, h2, h3⟩
  have owr : ∀ b, Ow (vs.map some) sls b → Ow (vs.map some ++ List.replicate m none) (sls ++ List.replicate m .un) b := fun b ⟨i, c, ds, r, h1, h2, h3⟩ => by
    have li : i < sls.length := (List.getElem?_eq_some_iff.mp h1).1
    exact ⟨i, c, ds, r, by rw [List.getElem?_append_left li]; exact h1, by rw [List.getElem?_append_left (by simp [hl, li])]; exact h2, h3⟩
  have at_ : ∀ (i : Nat) (ds : Cn), ρ'[i]? = some (.own true ds) → i < sls.length → (vs.map some)[i]? = σ'[i]? ∧ ∃ es, sls[i]? = some (.own true es) ∧ ∀ r, reg r ds = reg r es := fun i ds h hi => by
    obtain ⟨⟨es', h1, hr⟩, h2⟩ := s.par i ds h
    rw [h2, List.getElem?_append_left (by simp [hl, hi])]
    exact ⟨rfl, es', app_un (by simp) h1, hr⟩
  have of : ∀ (i : Nat) (s : Sl), s ≠ Sl.un → (backP sls.length ρ')[i]? = some s → ρ'[i]? = some s ∧ (vs.map some)[i]? = σ'[i]? := fun i s hs h => by
    obtain ⟨ds, rfl, h2, h3⟩ := backP_get hs h
    exact ⟨h2, (at_ i ds h2 h3).1⟩
  refine ⟨R'.alike (by rw [backP_len, List.length_map, hl]) of, ⟨s.gr, fun b h => ?_, fun b o e t n => s.fr b o e t fun z => n (ow b z), fun b ⟨i, c, ds, r, h1, h2, h3⟩ => ?_, s.al, fun i ds h => ?_⟩⟩
  · rcases s.new b h with z | z | z
    · exact .inl z
    · exact .inr (.inl z)
    · exact .inr (.inr (ow b z))
  · obtain ⟨z1, z2⟩ := of i _ (by simp) h1
    rcases s.ow b ⟨i, c, ds, r, z1, z2 ▸ h2, h3⟩ with z | z
    · exact .inl (ow b z)
    · exact .inr z
  · obtain ⟨es, e, z, h3⟩ := backP_get (by simp) h
    cases e
    exact ⟨(at_ i _ z h3).2, rfl⟩
section
variable {P : Program} {w : World} {K : PySem.W.Frag} {mg : Str → Option Value} {base : Heap} {f : Addr} {fd : FuncData}
theorem okDc {x qual : Str} {pa : Arguments} {bd : List Stmt} {sc : Scope} {dvs : List V} {kws : List (Str × V)} {N ps : List Str} {k : Nat} {g : SF} (F : FunD K x qual pa bd sc dvs kws f fd) (S : FnScope N ps sc)
    (body : ∀ (cdw : Value), fd.code = cdw → ∀ (A : Around) (outer : List PySem.Env) (s : Shared) (H : Hp) (E : XK), Gd (A.deeper (envOfC qual sc s.heap.objs.size f cdw)) → Room k (A.deeper (envOfC qual sc s.heap.objs.size f cdw)) → DSs (cxOf CX0 P w K mg base N qual sc f cdw A outer s H E).nox bd g) :
    FnG P w K mg base (k + 1) f fd ps (spD w K ps.length (fBody (N.length - ps.length) g)) := by
  refine okGc F S (fun vs H Q E h => h.1) fun cdv hc A outer s H vs Q E hG hR h => ⟨rS w K g, body cdv hc A outer s H E hG hR, ?_⟩
  obtain ⟨hl, G, sls, sls', d, R, hf, q⟩ := h
  have hls : vs.length = sls.length := by have := R.len; rwa [List.length_map] at this
  have es : start N vs = vs.map some ++ List.replicate (N.length - ps.length) none := by
    show vs.map some ++ List.replicate (N.length - vs.length) none = _
    rw [hl]
  have R0 : Rl w K G (vs.map some ++ List.replicate (N.length - ps.length) none) (sls ++ List.replicate (N.length - ps.length) .un) H := by
    refine R.alike (by simp [hls]) fun i s hs h => ?_
    have z := app_un hs h
    have li : i < sls.length := (List.getElem?_eq_some_iff.mp z).1
    exact ⟨z, by rw [List.getElem?_append_left (by simp [hls, li])]⟩
  rw [es]
  unfold fBody at hf
  split at hf
  · rename_i d' ρ' e
    cases hf
    exact ⟨G, _, _, R0, e, fun σ' v G' H' R' s' hd => let ⟨z1, z2⟩ := fin_of hls R' s'; q v G' H' z1 z2 hd⟩
  · rename_i ρ' e
    cases hf
    exact ⟨G, _, _, R0, e, fun σ' G' H' R' s' => let ⟨z1, z2⟩ := fin_of hls R' s'; q .non G' H' z1 z2 .non⟩
  · cases hf
theorem okD {x qual : Str} {pa : Arguments} {bd : List Stmt} {sc : Scope} {dvs : List V} {kws : List (Str × V)} {N ps : List Str} {k : Nat} {g : SF} (F : FunD K x qual pa bd sc dvs kws f fd) (S : FnScope N ps sc)
    (body : ∀ (cdw : Value) (A : Around) (outer : List PySem.Env) (s : Shared) (H : Hp) (E : XK), Gd (A.deeper (envOfC qual sc s.heap.objs.size f cdw)) → Room k (A.deeper (envOfC qual sc s.heap.objs.size f cdw)) → DSs (cxOf CX0 P w K mg base N qual sc f cdw A outer s H E).nox bd g) :
    FnG P w K mg base (k + 1) f fd ps (spD w K ps.length (fBody (N.length - ps.length) g)) :=
  okDc F S fun cdw _ => body cdw

end
/-! ### calls -/
def toSl (ρ : Rho) : Ag → Sl
  | .d x => .dat x
  | .v j => match ρ[j]? with
    | some (.own _ ds) => .own true ds
    | some s => s
    | none => .un
def ownJ (ρ : Rho) : Ag → Option Nat
  | .d _ => none
  | .v j => match ρ[j]? with
    | some (.own _ _) => some j
    | _ => none
/-- the caller's lists behind the call -/
def backC (ρ : Rho) : List Ag → List Sl → Rho
  | a :: as, s :: ss => match ownJ ρ a, s with
    | some j, .own true ds => match ρ[j]? with
      | some (.own b _) => (backC ρ as ss).set j (.own b ds)
      | _ => backC ρ as ss
    | some j, _ => (backC ρ as ss).set j .un
    | none, _ => backC ρ as ss
  | _, _ => ρ
def fCall (F : FF) (f : AF) : EF := fun ρ => match f ρ with
  | none => none
  | some (as, ρ1) => if (as.filterMap (ownJ ρ1)).Nodup then match F (as.map (toSl ρ1)) with
      | none => none
      | some (d, sls') => if sls'.length = as.length then some (d, backC ρ1 as sls') else none
    else none
theorem ownJ_of {ρ : Rho} {a : Ag} {j : Nat} (h : ownJ ρ a = some j) : a = .v j ∧ ∃ (b : Bool) (ds : Cn), ρ[j]? = some (.own b ds) := by
  cases a with
  | d x => cases h
  | v i =>
    unfold ownJ at h
    dsimp only at h
    split at h
    · rename_i b ds e
      cases h
      exact ⟨rfl, b, ds, e⟩
    · cases h
theorem nodup_at {α β : Type} {f : α → Option β} : ∀ {l : List α} {i i' : Nat} {a a' : α} {b : β}, (l.filterMap f).Nodup → l[i]? = some a → l[i']? = some a' → f a = some b → f a' = some b → i = i'
  | [], _, _, _, _, _, _, h, _, _, _ => by simp at h
  | x :: l, i, i', a, a', b, nd, h, h', e, e' => by
    have mem : ∀ {k : Nat} {c : α}, l[k]? = some c → f c = some b → b ∈ l.filterMap f := fun {k c} q z => List.mem_filterMap.mpr ⟨c, List.mem_of_getElem? q, z⟩
    have tl : (l.filterMap f).Nodup := by
      rw [List.filterMap_cons] at nd
      split at nd
      · exact nd
      · exact (List.nodup_cons.mp nd).2
    cases i with
    | zero =>
      cases i' with
      | zero => rfl
      | succ m =>
        simp at h h'
        subst h
        rw [List.filterMap_cons, e] at nd
        exact ((List.nodup_cons.mp nd).1 (mem h' e')).elim
    | succ n =>
      cases i' with
      | zero =>
        simp at h h'
        subst h'
        rw [List.filterMap_cons, e'] at nd
        exact ((List.nodup_cons.mp nd).1 (mem h e)).elim
      | succ m =>
        simp at h h'
        rw [nodup_at tl h h' e e']
theorem paired_at {α β : Type} {F : α → β → Prop} : ∀ {as : List α} {bs : List β} {i : Nat} {a : α}, Paired F as bs → as[i]? = some a → ∃ b, bs[i]? = some b ∧ F a b
  | _, _, _, _, .nil, h => by simp at h
  | _, _, 0, _, .cons h1 _, h => by
    simp at h
    subst h
    exact ⟨_, rfl, h1⟩
  | _, _, i + 1, _, .cons _ h2, h => by
    obtain ⟨b, e, z⟩ := paired_at (i := i) h2 (by simpa using h)
    exact ⟨b, by simpa using e, z⟩
theorem toSl_at {ρ : Rho} {as : List Ag} {i : Nat} {s : Sl} (hs : s ≠ .un) (h : (as.map (toSl ρ))[i]? = some s) : ∃ a, as[i]? = some a ∧ ((∃ d, a = .d d ∧ s = .dat d) ∨ ∃ j, a = .v j ∧ ((∃ (b : Bool) (ds : Cn), ρ[j]? = some (.own b ds) ∧ s = .own true ds) ∨ (ρ[j]? = some s ∧ ∀ b ds, s ≠ .own b ds))) := by
  rw [List.getElem?_map] at h
  cases q : as[i]? with
  | none => rw [q] at h; cases h
  | some a =>
    rw [q] at h
    have e : toSl ρ a = s := Option.some.inj h
    refine ⟨a, rfl, ?_⟩
    cases a with
    | d x => exact .inl ⟨x, rfl, e.symm⟩
    | v j =>
      refine .inr ⟨j, rfl, ?_⟩
      unfold toSl at e
      dsimp only at e
      split at e
      · rename_i b ds e2
        exact .inl ⟨b, ds, e2, e.symm⟩
      · rename_i s2 hn e2
        subst e
        exact .inr ⟨e2, fun b ds z => hn b ds z⟩
      · exact (hs e.symm).elim
theorem backC_at {ρ : Rho} {s : Sl} (hs : s ≠ .un) {j : Nat} : ∀ {as : List Ag} {ss : List Sl}, as.length = ss.length → (backC ρ as ss)[j]? = some s →
    (ρ[j]? = some s ∧ ∀ (i : Nat) (a : Ag), as[i]? = some a → ownJ ρ a ≠ some j) ∨ ∃ (i : Nat) (b : Bool) (c0 ds : Cn), as[i]? = some (.v j) ∧ ρ[j]? = some (.own b c0) ∧ ss[i]? = some (.own true ds) ∧ s = .own b ds
  | [], _, _, h => by
    unfold backC at h
    exact .inl ⟨h, fun i a e => by simp at e⟩
  | a :: as, [], hl, _ => by simp at hl
  | a :: as, s0 :: ss, hl, h => by
    have hl' : as.length = ss.length := by simpa using hl
    have up : (∃ (i : Nat) (b : Bool) (c0 ds : Cn), as[i]? = some (.v j) ∧ ρ[j]? = some (.own b c0) ∧ ss[i]? = some (.own true ds) ∧ s = .own b ds) →
        ∃ (i : Nat) (b : Bool) (c0 ds : Cn), (a :: as)[i]? = some (.v j) ∧ ρ[j]? = some (.own b c0) ∧ (s0 :: ss)[i]? = some (.own true ds) ∧ s = .own b ds := fun ⟨i, b, c0, ds, h1, h2, h3, h4⟩ => ⟨i + 1, b, c0, ds, by simpa using h1, h2, by simpa using h3, h4⟩
    have ext : ownJ ρ a ≠ some j → (∀ (i : Nat) (a : Ag), as[i]? = some a → ownJ ρ a ≠ some j) → ∀ (i : Nat) (c : Ag), (a :: as)[i]? = some c → ownJ ρ c ≠ some j := fun h0 h1 i c e => by
      cases i with
      | zero => simp at e; subst e; exact h0
      | succ i => exact h1 i c (by simpa using e)
    unfold backC at h
    split at h
    · rename_i j0 ds e0
      obtain ⟨ea, b0, d0, er⟩ := ownJ_of e0
      rw [er] at h
      dsimp only at h
      rcases set_get h with ⟨z1, z2, _⟩ | ⟨n, h⟩
      · subst z1
        exact .inr ⟨0, b0, d0, ds, by rw [ea]; rfl, er, rfl, z2⟩
      · rcases backC_at hs hl' h with ⟨h1, h2⟩ | h2
        · exact .inl ⟨h1, ext (fun z => by rw [e0] at z; exact n (Option.some.inj z).symm) h2⟩
        · exact .inr (up h2)
    · rename_i j0 e0 hn
      rcases set_get h with ⟨_, z2, _⟩ | ⟨n, h⟩
      · exact (hs z2).elim
      · rcases backC_at hs hl' h with ⟨h1, h2⟩ | h2
        · exact .inl ⟨h1, ext (fun z => by rw [e0] at z; exact n (Option.some.inj z).symm) h2⟩
        · exact .inr (up h2)
    · have e0 : ownJ ρ a = none := by assumption
      rcases backC_at hs hl' h with ⟨h1, h2⟩ | h2
      · exact .inl ⟨h1, ext (fun z => by rw [e0] at z; cases z) h2⟩
      · exact .inr (up h2)
theorem backC_len {ρ : Rho} : ∀ (as : List Ag) (ss : List Sl), (backC ρ as ss).length = ρ.length
  | [], _ => by unfold backC; rfl
  | _ :: _, [] => by unfold backC; rfl
  | a :: as, s0 :: ss => by
    unfold backC
    split
    · split
      · rw [List.length_set]; exact backC_len as ss
      · exact backC_len as ss
    · rw [List.length_set]; exact backC_len as ss
    · exact backC_len as ss
theorem paired_len {α β : Type} {F : α → β → Prop} : ∀ {as : List α} {bs : List β}, Paired F as bs → as.length = bs.length
  | _, _, .nil => rfl
  | _, _, .cons _ t => congrArg Nat.succ (paired_len t)
section
variable {ww : World} {K : PySem.W.Frag} {G G' H H' : Hp} {σ : L2.St} {ρ : Rho} {as : List Ag} {vs : List V} {ss : List Sl}
theorem call_in (R : Rl ww K G σ ρ H) (ha : Paired (AgR K G σ) as vs) (nd : (as.filterMap (ownJ ρ)).Nodup) : Rl ww K G (vs.map some) (as.map (toSl ρ)) H := by
  have vat : ∀ {i : Nat} {v : V}, vs[i]? = some v → (vs.map some)[i]? = some (some v) := fun {i v} e => by rw [List.getElem?_map, e]; rfl
  refine ⟨by rw [List.length_map, List.length_map, paired_len ha], R.sub, fun {i d} q => ?_, fun {i b ds} q => ?_, fun {i i' b c ds es p p2 a0} h1 h2 h3 h4 h5 h6 => ?_, fun {i ns} q => ?_, R.tb⟩
  · obtain ⟨a, ea, h⟩ := toSl_at (by simp) q
    obtain ⟨v, ev, hv⟩ := paired_at ha ea
    refine ⟨v, vat ev, ?_⟩
    rcases h with ⟨d', rfl, e⟩ | ⟨j, rfl, ⟨b, ds, _, e⟩ | ⟨e, _⟩⟩
    · cases e; exact hv
    · cases e
    · obtain ⟨u, e', hu⟩ := R.dat e
      have hv' : σ[j]? = some (some v) := hv
      rw [hv'] at e'
      cases e'
      exact hu
  · obtain ⟨a, ea, h⟩ := toSl_at (by simp) q
    obtain ⟨v, ev, hv⟩ := paired_at ha ea
    rcases h with ⟨d', rfl, e⟩ | ⟨j, rfl, ⟨b', ds', e2, e⟩ | ⟨_, e⟩⟩
    · cases e
    · cases e
      obtain ⟨p, e', r⟩ := R.own e2
      have hv' : σ[j]? = some (some v) := hv
      rw [hv'] at e'
      cases e'
      exact ⟨p, vat ev, r⟩
    · exact (e _ _ rfl).elim
  · obtain ⟨a, ea, h⟩ := toSl_at (by simp) h1
    obtain ⟨a', ea', h'⟩ := toSl_at (by simp) h2
    obtain ⟨v, ev, hv⟩ := paired_at ha ea
    obtain ⟨v', ev', hv'⟩ := paired_at ha ea'
    rw [vat ev] at h3
    rw [vat ev'] at h4
    cases h3
    cases h4
    rcases h with ⟨d', rfl, e⟩ | ⟨j, rfl, ⟨b1, ds1, e1, e⟩ | ⟨_, e⟩⟩
    · cases e
    · rcases h' with ⟨d', rfl, e'⟩ | ⟨j', rfl, ⟨b2, ds2, e2, e'⟩ | ⟨_, e'⟩⟩
      · cases e'
      · cases e
        cases e'
        have z := R.dis e1 e2 hv hv' h5 h6
        subst z
        have o : ownJ ρ (.v j) = some j := by unfold ownJ; dsimp only; rw [e1]
        exact nodup_at nd ea ea' o o
      · exact (e' _ _ rfl).elim
    · exact (e _ _ rfl).elim
  · obtain ⟨a, ea, h⟩ := toSl_at (by simp) q
    obtain ⟨v, ev, hv⟩ := paired_at ha ea
    rcases h with ⟨d', rfl, e⟩ | ⟨j, rfl, ⟨b, ds, _, e⟩ | ⟨e, _⟩⟩
    · cases e
    · cases e
    · obtain ⟨p, e', r⟩ := R.scr e
      have hv' : σ[j]? = some (some v) := hv
      rw [hv'] at e'
      cases e'
      exact ⟨p, vat ev, r⟩
theorem call_out (R : Rl ww K G σ ρ H) (ha : Paired (AgR K G σ) as vs) (hl : as.length = ss.length) (R' : Rl ww K G' (vs.map some) ss H') (s : Sx G (vs.map some) (as.map (toSl ρ)) H G' (vs.map some) ss H') :
    Rl ww K G' σ (backC ρ as ss) H' ∧ Sx G σ ρ H G' σ (backC ρ as ss) H' := by
  have at' : ∀ {i : Nat} {v : V}, (vs.map some)[i]? = some (some v) → vs[i]? = some v := fun {i v} e => by
    rw [List.getElem?_map] at e
    cases q : vs[i]? with
    | none => rw [q] at e; cases e
    | some u => rw [q] at e; cases e; rfl
  have ow : ∀ b, Ow (vs.map some) (as.map (toSl ρ)) b → ∃ (i j : Nat) (r : Addr) (c : Bool) (ds : Cn), as[i]? = some (.v j) ∧ ownJ ρ (.v j) = some j ∧ ρ[j]? = some (.own c ds) ∧ σ[j]? = some (some (.ref r)) ∧ b ∈ reg r ds := fun b ⟨i, c, ds, r, h1, h2, h3⟩ => by
    obtain ⟨a, ea, h⟩ := toSl_at (by simp) h1
    obtain ⟨v, ev, hv⟩ := paired_at ha ea
    rw [at' h2] at ev
    cases ev
    rcases h with ⟨d', rfl, e⟩ | ⟨j, rfl, ⟨b1, ds1, e1, e⟩ | ⟨_, e⟩⟩
    · cases e
    · cases e
      exact ⟨i, j, r, b1, _, ea, by unfold ownJ; dsimp only; rw [e1], e1, hv, h3⟩
    · exact (e _ _ rfl).elim
  have ow2 : ∀ b, Ow (vs.map some) (as.map (toSl ρ)) b → Ow σ ρ b := fun b h => by
    obtain ⟨i, j, r, c, ds, _, _, e, e2, e3⟩ := ow b h
    exact ⟨j, c, ds, r, e, e2, e3⟩
  have isown : ∀ {j : Nat} {b : Bool} {ds : Cn}, (backC ρ as ss)[j]? = some (.own b ds) → ∃ es, ρ[j]? = some (.own b es) ∧ ∀ r, reg r ds = reg r es := fun {j b ds} h => by
    rcases backC_at (by simp) hl h with ⟨h1, _⟩ | ⟨i, b', c0, ds', ea, h2, h3, e⟩
    · exact ⟨_, h1, fun _ => rfl⟩
    · cases e
      obtain ⟨⟨es, h4, hr⟩, _⟩ := s.par i _ h3
      have h5 : (as.map (toSl ρ))[i]? = some (.own true c0) := by
        rw [List.getElem?_map, ea]
        show some (toSl ρ (.v j)) = _
        unfold toSl
        dsimp only
        rw [h2]
      rw [h5] at h4
      cases h4
      exact ⟨_, h2, hr⟩
  refine ⟨⟨by rw [backC_len]; exact R.len, R'.sub, fun {j d} q => ?_, fun {j b ds} q => ?_, fun {j k b c ds es p p2 a0} h1 h2 h3 h4 h5 h6 => ?_, fun {j ns} q => ?_, R'.tb⟩, ⟨s.gr, fun b h => ?_, fun b o e t n => s.fr b o e t fun z => n (ow2 b z), fun b ⟨j, c, ds, r, h1, h2, h3⟩ => ?_, s.al, fun j ds h => ?_⟩⟩
  · rcases backC_at (by simp) hl q with ⟨h1, _⟩ | ⟨i, b', c0, ds', _, h2, _, e⟩
    · obtain ⟨v, e, hv⟩ := R.dat h1
      exact ⟨v, e, hv.same s.gr⟩
    · cases e
  · rcases backC_at (by simp) hl q with ⟨h1, hno⟩ | ⟨i, b', c0, ds', ea, h2, h3, e⟩
    · obtain ⟨p, ep, gp, hd⟩ := R.own h1
      have no : ∀ a ∈ reg p ds, ¬ Ow (vs.map some) (as.map (toSl ρ)) a := fun a ha z => by
        obtain ⟨i, j', r, c, es, ea, oj, e1, e2, e3⟩ := ow a z
        have jj := R.dis e1 h1 e2 ep e3 ha
        subst jj
        exact hno i _ ea oj
      refine ⟨p, ep, fun a ha => ?_, hd.step s.gr fun a ha => ?_⟩
      · cases z : G' a with
        | none => rfl
        | some u =>
          rcases s.new a (by rw [z]; simp) with y | y | y
          · exact (y (gp a ha)).elim
          · exact (hd.ne ha y).elim
          · exact (no a ha y).elim
      · cases z : H a with
        | none => exact (hd.ne ha z).elim
        | some o => exact s.fr a _ z (hd.noT ha z) (no a ha)
    · cases e
      obtain ⟨p, ep, r⟩ := R'.own h3
      obtain ⟨v, ev, hv⟩ := paired_at ha ea
      rw [at' ep] at ev
      cases ev
      exact ⟨p, hv, r⟩
  · obtain ⟨_, e1, r1⟩ := isown h1
    obtain ⟨_, e2, r2⟩ := isown h2
    exact R.dis e1 e2 h3 h4 (r1 p ▸ h5) (r2 p2 ▸ h6)
  · rcases backC_at (by simp) hl q with ⟨h1, _⟩ | ⟨i, b', c0, ds', _, h2, _, e⟩
    · obtain ⟨p, e, r⟩ := R.scr h1
      refine ⟨p, e, ?_⟩
      rcases r with ⟨o, r⟩ | r
      · refine .inl ⟨o, s.fr p _ r (fun _ z => nomatch z) fun z => ?_⟩
        obtain ⟨_, _, e3⟩ := R.at (ow2 p z)
        exact e3 _ _ r
      · exact .inr r
    · cases e
  · rcases s.new b h with z | z | z
    · exact .inl z
    · exact .inr (.inl z)
    · exact .inr (.inr (ow2 b z))
  · obtain ⟨_, e1, r1⟩ := isown h1
    exact .inl ⟨j, c, _, r, e1, h2, r1 r ▸ h3⟩
  · obtain ⟨_, e1, r1⟩ := isown h
    exact ⟨⟨_, e1, r1⟩, rfl⟩
end
section
variable {X : Cx} {k : Nat} {f : Addr} {fd : FuncData} {ps : List Str} {n : Nat} {F : FF} {x : Str} {p pos : Pos} {e : Expr} {es : List Expr} {g : AF}
theorem tCall_of {ww : World} {K : PySem.W.Frag} {F : FF} {g : AF} {n : Nat} : ∀ σ H Q, rE ww K (fun ρ => match fCall F g ρ with | some r => (match g ρ with | some (as, _) => if as.length = n then some r else none | none => none) | none => none) σ H Q → tCall (spD ww K n F) [] E0 (rAs ww K g) σ H Q := by
  rintro σ H Q ⟨G, ρ, ρ', d, R, hf, q⟩
  dsimp only at hf
  split at hf
  · rename_i r hr
    split at hf
    · rename_i as ρ1 h1
      split at hf
      · rename_i hn
        cases hf
        unfold fCall at hr
        rw [h1] at hr
        dsimp only at hr
        split at hr
        · rename_i nd
          split at hr
          · cases hr
          · rename_i d' ss h2
            split at hr
            · rename_i hl
              cases hr
              refine ⟨G, ρ, ρ1, as, R, h1, fun vs G1 H1 R1 s1 q1 => ?_⟩
              show spD ww K n F (vs ++ []) H1 Q E0
              rw [List.append_nil]
              refine ⟨by rw [← paired_len q1]; exact hn, G1, _, ss, _, call_in R1 q1 nd, h2, fun v G2 H2 R2 s2 hd => ?_⟩
              obtain ⟨R3, s3⟩ := call_out R1 q1 hl.symm R2 s2
              exact q v G2 H2 R3 (s1.trans s3) hd
            · cases hr
        · cases hr
      · cases hf
    · cases hf
  · cases hf
def fCa (n : Nat) (F : FF) (g : AF) : EF := fun ρ => match fCall F g ρ with | some r => (match g ρ with | some (as, _) => if as.length = n then some r else none | none => none) | none => none
/-- f(e, ..) -/
theorem de_call (Fk : FnG X.prog X.w X.K X.mg X.base k f fd ps (spD X.w X.K n F)) (hG : Gd X.A) (hR : Room k X.A) (hg : Gl X x) (hm : X.mg x = some (.ref f)) (hk : PySem.W.keepIn X.K (.ref f) = true) (hb : Binds X.K fd ps [])
    (ha : DAs X (e :: es) g) (hdb : (x == ("__debug__" : Str)) = false := by decide)
    (he : starEach (e :: es) X.env = (false, eval e X.env) :: starEach es X.env := by rfl) (hpl : (backTo pos (starEach es X.env)).any (·.1) = false := by rfl) :
    DE X (.Call (.Name x p) (e :: es) [] pos) (fCa n F g) :=
  pe_imp (pe_callG Fk hG hR hg hm hk hb ha hdb he hpl) tCall_of
end
end DL

set_option Elab.async false
set_option linter.all false
set_option maxRecDepth 100000
set_option maxHeartbeats 4000000
/-! Chains, kinds, names of modules, repr, texts, the script. -/
namespace DL
open PySem PySem.Spec PyProof.Rows L2 GX StX
variable [DL.FT]
section
variable {X : Cx}
/-! ### a <= b <= c -/
def fChain (o1 o2 : Op2) (f g h : GF) : EF := fun ρ => match f ρ with
  | none => none
  | some (a, ρ1) => match g ρ1 with
    | none => none
    | some (b, ρ2) => match look ρ2 a, look ρ2 b with
      | some d, some e => match o1 d e with
        | some (.bool true) => match h ρ2 with
          | none => none
          | some (c, ρ3) => match look ρ3 b, look ρ3 c with
            | some e', some m => match o2 e' m with
              | none => none
              | some r => some (r, ρ3)
            | _, _ => none
        | some (.bool false) => some (.bool false, ρ2)
        | _ => none
      | _, _ => none
theorem tChain_of {ww : World} {K : PySem.W.Frag} {o1 o2 : Op2} {f g h : GF} {r r' : R2} (hr : ∀ x y H Q, rOp ww K o1 x y H Q → r x y H Q) (hr' : ∀ x y H Q, rOp ww K o2 x y H Q → r' x y H Q) : ∀ σ H Q, rE ww K (fChain o1 o2 f g h) σ H Q → tChain r r' (rG ww K f) (rG ww K g) (rG ww K h) σ H Q := by
  rintro σ H Q ⟨G, ρ, ρ', d, R, hf, k⟩
  unfold fChain at hf
  split at hf
  · cases hf
  · rename_i a ρ1 h1
    split at hf
    · cases hf
    · rename_i b ρ2 h2
      split at hf
      · rename_i da db h3 h4
        split at hf
        · rename_i h5
          split at hf
          · cases hf
          · rename_i c ρ3 h6
            split at hf
            · rename_i e' m h7 h8
              split at hf
              · cases hf
              · rename_i r0 h9
                cases hf
                refine ⟨G, ρ, ρ1, a, R, h1, fun v1 G1 H1 R1 s1 q1 => ⟨G1, ρ1, ρ2, b, R1, h2, fun v2 G2 H2 R2 s2 q2 => hr _ _ _ _ ⟨G2, da, db, .bool true, R2.sub, look_bo R2 (q1.same s2.gr) h3, look_bo R2 q2 h4, h5, fun z G3 H3 x q => ?_⟩⟩⟩
                cases q
                refine ⟨true, rfl, ?_⟩
                rw [if_pos rfl]
                exact ⟨G3, ρ2, _, c, R2.ext x, h6, fun v4 G4 H4 R4 s4 q4 => hr' _ _ _ _ ⟨G4, e', m, _, R4.sub, look_bo R4 ((q2.same x.gg).same s4.gr) h7, look_bo R4 q4 h8, h9, fun w G5 H5 y q5 => k w G5 H5 (R4.ext y) ((((s1.trans s2).trans (.ext x)).trans s4).trans (.ext y)) q5⟩⟩
            · cases hf
        · rename_i h5
          cases hf
          refine ⟨G, ρ, ρ1, a, R, h1, fun v1 G1 H1 R1 s1 q1 => ⟨G1, ρ1, _, b, R1, h2, fun v2 G2 H2 R2 s2 q2 => hr _ _ _ _ ⟨G2, da, db, .bool false, R2.sub, look_bo R2 (q1.same s2.gr) h3, look_bo R2 q2 h4, h5, fun z G3 H3 x q => ?_⟩⟩⟩
          cases q
          refine ⟨false, rfl, ?_⟩
          rw [if_neg Bool.false_ne_true]
          exact k _ G3 H3 (R2.ext x) ((s1.trans s2).trans (.ext x)) (.bl false)
        · cases hf
      · cases hf
theorem de_chain {a b c : Expr} {op op' : CmpOp} {g g' : Op2} {f1 f2 f3 : GF} {pos : Pos} (ho : OpR X (compareOp op) (rOp X.w X.K g)) (ho' : OpR X (compareOp op') (rOp X.w X.K g')) (ha : DG X a f1) (hb : DG X b f2) (hc : DG X c f3)
    (hm : lastMarks [op, op'] [b, c] = false := by with_unfolding_all rfl) : DE X (.Compare a [op, op'] [b, c] pos) (fChain g g' f1 f2 f3) :=
  pe_imp (pe_chain ho ho' ha hb hc hm) (tChain_of (fun _ _ _ _ h => h) fun _ _ _ _ h => h)
theorem dt_chain {a b c : Expr} {op op' : CmpOp} {g g' : Op2} {f1 f2 f3 : GF} {pos : Pos} (ho : OpR X (compareOp op) (rOp X.w X.K g)) (ho' : OpR X (compareOp op') (rOp X.w X.K g')) (ha : DG X a f1) (hb : DG X b f2) (hc : DG X c f3)
    (hm : lastMarks [op, op'] [b, c] = false := by with_unfolding_all rfl) : DT X (.Compare a [op, op'] [b, c] pos) (fTst (fChain g g' f1 f2 f3)) := by
  refine pt_imp (pt_chain ho ho' ha hb hc hm) ?_
  intro σ H Q h
  exact tChain_of (fun _ _ _ _ h => h) (fun _ _ _ _ h => h) _ _ _ (dt_of _ _ _ h)
/-! ### kinds -/
def tyN : PyData → String
  | .none => "NoneType" | .bool _ => "bool" | .int _ => "int" | .str _ => "str" | .list _ => "list" | .tuple _ => "tuple" | .dict _ => "dict"
def dInt : PyData → Bool | .int _ => true | .bool _ => true | _ => false
def dBool : PyData → Bool | .bool _ => true | _ => false
def dStr : PyData → Bool | .str _ => true | _ => false
def dTup : PyData → Bool | .tuple _ => true | _ => false
def dLst : PyData → Bool | .list _ => true | _ => false
theorem bo_ty {ww : World} {K : PySem.W.Frag} {G H : Hp} {v : V} {d : PyData} (b : Bo ww K G H v d) (s : Same G H) (nd : ∀ q qs, d ≠ .dict (q :: qs)) : TyX K H v (.type (tyN d)) := by
  rcases b with h | ⟨p, xs, ds, rfl, rfl, hp, _⟩ | ⟨_, _, _, e, _⟩
  · cases h with
    | non => exact .base .non
    | bl b => exact .base (.bl b)
    | int i => exact .base (.int i)
    | str x => exact .base (.str x)
    | lst hs _ => exact .base (.lst (s _ _ hs))
    | tup hs _ =>
      rcases (hs.same s).sq with (h | ⟨o, h⟩) | h
      · exact .base (.tup h)
      · exact .fTuple h
      · obtain ⟨o, its, n, lk, hc, _⟩ := h
        exact .kTuple lk hc
    | dic hd => exact .base (.dK (s _ _ hd))
    | fn => exact (nd _ _ rfl).elim
    | glo => exact (nd _ _ rfl).elim
  · exact .base (.lst hp)
  · exact (nd _ _ e).elim
theorem kit_int {K : PySem.W.Frag} (d : PyData) : PySem.W.kitOne K (.type (tyN d)) (.type "int") = some (dInt d) := by
  cases d with
  | none => exact kit_ty (a := "NoneType") (b := "int") (r := false) (by decide +kernel)
  | bool _ => exact kit_ty (a := "bool") (b := "int") (r := true) (by decide +kernel)
  | int _ => exact kit_ty (a := "int") (b := "int") (r := true) (by decide +kernel)
  | str _ => exact kit_ty (a := "str") (b := "int") (r := false) (by decide +kernel)
  | list _ => exact kit_ty (a := "list") (b := "int") (r := false) (by decide +kernel)
  | tuple _ => exact kit_ty (a := "tuple") (b := "int") (r := false) (by decide +kernel)
  | dict _ => exact kit_ty (a := "dict") (b := "int") (r := false) (by decide +kernel)
theorem kit_bool {K : PySem.W.Frag} (d : PyData) : PySem.W.kitOne K (.type (tyN d)) (.type "bool") = some (dBool d) := by
  cases d with
  | none => exact kit_ty (a := "NoneType") (b := "bool") (r := false) (by decide +kernel)
  | bool _ => exact kit_ty (a := "bool") (b := "bool") (r := true) (by decide +kernel)
  | int _ => exact kit_ty (a := "int") (b := "bool") (r := false) (by decide +kernel)
  | str _ => exact kit_ty (a := "str") (b := "bool") (r := false) (by decide +kernel)
  | list _ => exact kit_ty (a := "list") (b := "bool") (r := false) (by decide +kernel)
  | tuple _ => exact kit_ty (a := "tuple") (b := "bool") (r := false) (by decide +kernel)
  | dict _ => exact kit_ty (a := "dict") (b := "bool") (r := false) (by decide +kernel)
theorem kit_str {K : PySem.W.Frag} (d : PyData) : PySem.W.kitOne K (.type (tyN d)) (.type "str") = some (dStr d) := by
  cases d with
  | none => exact kit_ty (a := "NoneType") (b := "str") (r := false) (by decide +kernel)
  | bool _ => exact kit_ty (a := "bool") (b := "str") (r := false) (by decide +kernel)
  | int _ => exact kit_ty (a := "int") (b := "str") (r := false) (by decide +kernel)
  | str _ => exact kit_ty (a := "str") (b := "str") (r := true) (by decide +kernel)
  | list _ => exact kit_ty (a := "list") (b := "str") (r := false) (by decide +kernel)
  | tuple _ => exact kit_ty (a := "tuple") (b := "str") (r := false) (by decide +kernel)
  | dict _ => exact kit_ty (a := "dict") (b := "str") (r := false) (by decide +kernel)
theorem kit_tup {K : PySem.W.Frag} (d : PyData) : PySem.W.kitOne K (.type (tyN d)) (.type "tuple") = some (dTup d) := by
  cases d with
  | none => exact kit_ty (a := "NoneType") (b := "tuple") (r := false) (by decide +kernel)
  | bool _ => exact kit_ty (a := "bool") (b := "tuple") (r := false) (by decide +kernel)
  | int _ => exact kit_ty (a := "int") (b := "tuple") (r := false) (by decide +kernel)
  | str _ => exact kit_ty (a := "str") (b := "tuple") (r := false) (by decide +kernel)
  | list _ => exact kit_ty (a := "list") (b := "tuple") (r := false) (by decide +kernel)
  | tuple _ => exact kit_ty (a := "tuple") (b := "tuple") (r := true) (by decide +kernel)
  | dict _ => exact kit_ty (a := "dict") (b := "tuple") (r := false) (by decide +kernel)
theorem kit_lst {K : PySem.W.Frag} (d : PyData) : PySem.W.kitOne K (.type (tyN d)) (.type "list") = some (dLst d) := by
  cases d with
  | none => exact kit_ty (a := "NoneType") (b := "list") (r := false) (by decide +kernel)
  | bool _ => exact kit_ty (a := "bool") (b := "list") (r := false) (by decide +kernel)
  | int _ => exact kit_ty (a := "int") (b := "list") (r := false) (by decide +kernel)
  | str _ => exact kit_ty (a := "str") (b := "list") (r := false) (by decide +kernel)
  | list _ => exact kit_ty (a := "list") (b := "list") (r := true) (by decide +kernel)
  | tuple _ => exact kit_ty (a := "tuple") (b := "list") (r := false) (by decide +kernel)
  | dict _ => exact kit_ty (a := "dict") (b := "list") (r := false) (by decide +kernel)
def rIsa (K : PySem.W.Frag) (T : String) (b : PyData → Bool) : List V → Hp → VK → Prop := fun xs H Q => ∃ v d, xs = [v, .ty T] ∧ TyX K H v (.type (tyN d)) ∧ Q (.bl (b d)) H
theorem cl_isa {T : String} {b : PyData → Bool} (hb : ∀ d, PySem.W.kitOne X.K (.type (tyN d)) (.type T) = some (b d)) : CallR X (.builtin "isinstance") (rIsa X.K T b) := by
  intro pins s σ H xs us Q I r h
  obtain ⟨v, d, rfl, hd, q⟩ := h
  exact call_isi pins s σ H _ us Q I r ⟨v, .ty T, _, _, b d, rfl, .ty T, hd, hb d, q⟩
def fIsa (b : PyData → Bool) (f : GF) : EF := fun ρ => match f ρ with
  | none => none
  | some (a, ρ1) => match look ρ1 a with
    | none => none
    | some (.dict (_ :: _)) => none
    | some d => some (.bool (b d), ρ1)
theorem de_isa {T : String} {x : Str} {b : PyData → Bool} {e : Expr} {f : GF} {p1 p2 p3 : Pos} (hb : ∀ d, PySem.W.kitOne X.K (.type (tyN d)) (.type T) = some (b d)) (he : DG X e f) (hg : Gl X "isinstance") (hm : X.mg "isinstance" = none) (hgx : Gl X x)
    (hx : X.mg x = none) (hv : bootBuiltins x = some (.type T)) (hd : (x == ("__debug__" : Str)) = false := by decide) (hn : x ≠ "__name__" := by decide)
    (hs : starEach [e, .Name x p2] X.env = (false, eval e X.env) :: starEach [.Name x p2] X.env := by rfl) (hs2 : starEach [.Name x p2] X.env = (false, eval (.Name x p2) X.env) :: starEach [] X.env := by rfl) :
    DE X (.Call (.Name "isinstance" p1) [e, .Name x p2] [] p3) (fIsa b f) := by
  refine pe_imp (pe_callB (cl_isa hb) hg hm (by decide +kernel) (pa_cons he (pa_cons (pe_bltn (u := .type T) (v := .ty T) hgx hx hv rfl (hd := hd) (hn := hn)) pa_nil hs2) hs) (he := hs) (hpl := by rw [hs2]; rfl)) ?_
  rintro σ H Q ⟨G, ρ, ρ', d, R, hf, k⟩
  unfold fIsa at hf
  split at hf
  · cases hf
  · rename_i a ρ1 h1
    split at hf
    · cases hf
    · cases hf
    · rename_i d' nd h2
      cases hf
      exact ⟨G, ρ, _, a, R, h1, fun v G1 H1 R1 s1 q1 => ⟨v, d', rfl, bo_ty (look_bo R1 q1 h2) R1.sub nd, k _ G1 H1 R1 s1 (.bl _)⟩⟩
/-! ### numbers and texts that a module names -/
theorem de_gint {x : Str} {i : Int} {t : Tok} {pos : Pos} (hg : Gl X x) (hm : X.mg x = some (.int i t)) (hd : (x == ("__debug__" : Str)) = false := by decide) : DE X (.Name x pos) (fC (.int i)) := de_c (pe_glob (v := .int i) hg hm ⟨t, rfl⟩ hd) fun _ _ => .int i
theorem de_gstr {x : Str} {z : Str} {t : Tok} {pos : Pos} (hg : Gl X x) (hm : X.mg x = some (.str z t)) (hd : (x == ("__debug__" : Str)) = false := by decide) : DE X (.Name x pos) (fC (.str z)) := de_c (pe_glob (v := .str z) hg hm ⟨t, rfl⟩ hd) fun _ _ => .str z
/-! ### a text in a text -/
def inS : Op2
  | .str i, .str j => some (.bool (!(Builtin.Str.occurrences j i 0 j.length 1).isEmpty))
  | _, _ => none
theorem op_inS : OpR X (compareOp .In) (rOp X.w X.K inS) := by
  refine OpR.imp op_in_str ?_
  rintro x y H Q ⟨G, d, e, r, sub, hd, he, h, k⟩
  unfold inS at h
  split at h
  · cases h
    rw [bo_str hd, bo_str he]
    exact ⟨_, _, rfl, rfl, k _ G H (Xt.refl sub) (.bl _)⟩
  · cases h
/-! ### repr -/
mutual
def noL : PyData → Bool
  | .list _ => false
  | .dict _ => false
  | .tuple ds => noLs ds
  | _ => true
def noLs : List PyData → Bool
  | [] => true
  | d :: ds => noL d && noLs ds
end
mutual
theorem da_dd {K : PySem.W.Frag} {H : Hp} : ∀ {d : PyData} {v : V}, Da K H v d → noL d = true → Dd K H v d
  | .none, _, h, _ => by cases h; exact .non
  | .bool _, _, h, _ => by cases h; exact .bl _
  | .int _, _, h, _ => by cases h; exact .int _
  | .str _, _, h, _ => by cases h; exact .str _
  | .list ds, _, h, c => by simp [noL] at c
  | .dict ds, _, h, c => by simp [noL] at c
  | .tuple ds, _, h, c => by
    unfold noL at c
    cases h with | tup hs ha => exact .tup hs.sq (daa_dd ha c)
theorem daa_dd {K : PySem.W.Frag} {H : Hp} : ∀ {ds : List PyData} {vs : List V}, DaA K H vs ds → noLs ds = true → DdA K H vs ds
  | [], _, h, _ => by cases h; exact .nil
  | d :: ds, _, h, c => by
    unfold noLs at c
    rw [Bool.and_eq_true] at c
    cases h with | cons h1 h2 => exact .cons (da_dd h1 c.1) (daa_dd h2 c.2)
end
def reprD : OpN
  | [.list ds] => if (!ds.isEmpty && noLs ds && PyData.showableAll ds && decide (PyData.depthAll ds ≤ 60) && fits (listText (PyData.shownAll ds)).length) = true then some (.str (listText (PyData.shownAll ds))) else none
  | _ => none
theorem cl_repr (hG : Gd X.A) (hu : X.A.units + 64 < cLine) : CallR X (.builtin "repr") (rCl X.w X.K reprD) := by
  refine CallR.imp (call_reprL hG hu) ?_
  rintro xs H Q ⟨G, ds, r, sub, hd, h, k⟩
  unfold reprD at h
  split at h
  · rename_i es
    split at h
    · rename_i hz
      cases h
      simp only [Bool.and_eq_true, Bool.not_eq_true'] at hz
      obtain ⟨⟨⟨⟨z1, z2⟩, z3⟩, z4⟩, z5⟩ := hz
      obtain ⟨v, rfl, hv⟩ := pair1 hd
      obtain ⟨p, ys, rfl, hp, ha⟩ := bo_list hv sub
      refine ⟨p, ys, es, rfl, ?_, .inl (.inl hp), daa_dd (ha.same sub) z2, z3, of_decide_eq_true z4, fits_le z5, k _ G H (Xt.refl sub) (.str _)⟩
      rintro rfl
      cases ha
      cases z1
    · cases h
  · cases h
/-! ### the letters of a text -/
def lettersOf (x : Str) : List PyData := x.cps.toList.map fun c => .str ⟨#[c]⟩
def iTxt (f : EF) : LF := fun ρ => match f ρ with
  | some (.str x, ρ') => some (lettersOf x, ρ')
  | _ => none
theorem di_txt {tg e : Expr} {f : EF} (h : DE X e f) : DI X tg e (iTxt f) := by
  refine pi_imp (pi_str h) ?_
  rintro σ H R ⟨G, ρ, ρ', ds, Rr, hf, k⟩
  unfold iTxt at hf
  split at hf
  · rename_i x ρ1 e1
    cases hf
    refine ⟨G, ρ, _, _, Rr, e1, fun v G1 H1 R1 s1 q1 => ?_⟩
    cases q1
    refine ⟨x, rfl, k _ _ _ R1 s1 ⟨fun i H2 sm hi => ?_, fun i H2 sm hi => ?_, fun i G2 H2 y H3 d sm sm2 hy hd => ?_⟩⟩
    · have z : i < x.cps.size := by simpa [lettersOf] using hi
      exact z
    · have z : x.cps.size ≤ i := by simpa [lettersOf] using hi
      exact z
    · obtain ⟨e2, c, hc, rfl⟩ := hy
      refine ⟨e2, ?_⟩
      unfold lettersOf at hd
      rw [List.getElem?_map, Array.getElem?_toList, hc] at hd
      cases hd
      exact .str _
  · cases hf
/-! ### the script -/
def gScr (i : Nat) : GF := fun ρ => match ρ[i]? with
  | some (.scr _) => some (.v i, ρ)
  | _ => none
theorem dg_scr {i : Nat} {x : Str} {pos : Pos} (hN : X.N[i]? = some x) (hv : Vis X.env.scope x) (hd : (x == ("__debug__" : Str)) = false := by decide) (hcd : (x == ("__classdict__" : Str)) = false := by decide) : DG X (.Name x pos) (gScr i) := by
  refine pe_imp (pe_var hN hv hd hcd) ?_
  rintro σ H Q ⟨G, ρ, ρ', a, R, hf, k⟩
  unfold gScr at hf
  split at hf
  · rename_i ns e
    cases hf
    obtain ⟨p, e', _⟩ := R.scr e
    exact ⟨_, e', k _ G H R (Sx.refl _ _ _ _) e'⟩
  · cases hf
def fScrLen (i : Nat) : EF := fun ρ => match ρ[i]? with
  | some (.scr ns) => some (.int ns.length, ρ)
  | _ => none
theorem de_slen {i : Nat} {x : Str} {p p2 pos : Pos} (hN : X.N[i]? = some x) (hv : Vis X.env.scope x) (hg : Gl X "len") (hm : X.mg "len" = none) (hd : (x == ("__debug__" : Str)) = false := by decide) (hcd : (x == ("__classdict__" : Str)) = false := by decide)
    (hs : starEach [.Name x p2] X.env = (false, eval (.Name x p2) X.env) :: starEach [] X.env := by rfl) : DE X (.Call (.Name "len" p) [.Name x p2] [] pos) (fScrLen i) := by
  refine pe_imp (pe_callB call_len_seq hg hm (by decide +kernel) (pa_cons (pe_var hN hv hd hcd) pa_nil hs) (he := hs)) ?_
  rintro σ H Q ⟨G, ρ, ρ', d, R, hf, k⟩
  unfold fScrLen at hf
  split at hf
  · rename_i ns e
    cases hf
    obtain ⟨q, e', z⟩ := R.scr e
    refine ⟨_, e', q, _, rfl, .inl z.sq, ?_⟩
    rw [List.length_map]
    exact k _ G H R (Sx.refl _ _ _ _) (.int _)
  · cases hf
def fScrIx (i : Nat) (f : EF) : EF := fun ρ => match ρ[i]? with
  | some (.scr ns) => match f ρ with
    | some (.int k, ρ1) => match atI ns k with
      | some n => match ρ1[i]? with
        | some (.scr ms) => if ms = ns then some (.int n, ρ1) else none
        | _ => none
      | none => none
    | _ => none
  | _ => none
theorem atI_map {α β : Type} (f : α → β) (xs : List α) (i : Int) : atI (xs.map f) i = (atI xs i).map f := by
  unfold atI
  rw [List.length_map]
  cases ixN xs.length i with
  | none => rfl
  | some j => exact List.getElem?_map
theorem de_six {i : Nat} {x : Str} {e : Expr} {f : EF} {p2 pos : Pos} (hN : X.N[i]? = some x) (hv : Vis X.env.scope x) (he : DE X e f) (hd : (x == ("__debug__" : Str)) = false := by decide) (hcd : (x == ("__classdict__" : Str)) = false := by decide) (hs : PlainIx e := by exact fun _ _ => rfl) :
    DE X (.Subscript (.Name x p2) e pos) (fScrIx i f) := by
  refine pe_imp (pe_ix ix_seq (pe_var hN hv hd hcd) he hs) ?_
  rintro σ H Q ⟨G, ρ, ρ', d, R, hf, k⟩
  unfold fScrIx at hf
  split at hf
  · rename_i ns e0
    split at hf
    · rename_i j ρ1 e1
      split at hf
      · rename_i n e2
        split at hf
        · rename_i ms e3
          split at hf
          · rename_i e4
            subst e4
            cases hf
            obtain ⟨q, e', z⟩ := R.scr e0
            refine ⟨_, e', ⟨G, ρ, _, _, R, e1, fun v G1 H1 R1 s1 q1 => ?_⟩⟩
            cases q1
            obtain ⟨q2, e5, z2⟩ := R1.scr e3
            rw [e'] at e5
            cases e5
            exact .inl ⟨q, _, j, .int n, rfl, rfl, z2.sq, by rw [atI_map, e2]; rfl, k _ G1 H1 R1 s1 (.int _)⟩
          · cases hf
        · cases hf
      · cases hf
    · cases hf
  · cases hf
def fScrTo (i : Nat) (hi : Int) : EF := fun ρ => match ρ[i]? with
  | some (.scr ns) => some (.list (cutL (ns.map .int) none (some hi)), ρ)
  | _ => none
theorem de_ssl {i : Nat} {x : Str} {hi : Int} {j} {p1 p2 p3 pos : Pos} (hN : X.N[i]? = some x) (hv : Vis X.env.scope x) (hd : (x == ("__debug__" : Str)) = false := by decide) (hcd : (x == ("__classdict__" : Str)) = false := by decide) :
    DE X (.Subscript (.Name x p1) (.Slice none (some (.Constant (.int hi) j p3)) none p2) pos) (fScrTo i hi) := by
  refine pe_imp (pe_slice sl_list (pe_var hN hv hd hcd) po_none (po_some pe_int)) ?_
  rintro σ H Q ⟨G, ρ, ρ', d, R, hf, k⟩
  unfold fScrTo at hf
  split at hf
  · rename_i ns e0
    cases hf
    obtain ⟨q, e', z⟩ := R.scr e0
    refine ⟨_, e', ⟨hi, rfl, ⟨q, _, rfl, z.sq, fun t n => k _ _ _ (R.ext (Xt.new R.sub n)) (.ext (Xt.new R.sub n)) (newL (Same.free R.sub n) ?_)⟩⟩⟩
    exact (DaA.ofInts ns).cutV _ _
  · cases hf
end
end DL

set_option Elab.async false
set_option linter.all false
set_option maxRecDepth 100000
set_option maxHeartbeats 4000000
/-! enumerate of a tuple; a, *b = t; written tables; new lists in several ways. -/
namespace DL
open PySem PySem.Spec PyProof.Rows L2 GX StX PySem.Calls
variable [DL.FT]
/-! ### enumerate(a tuple) -/
abbrev itT (t : Addr) : Obj := { cls := .type "tuple_iterator", data := .fields #[.ref t, .int 0 0] }
abbrev enO (i : Addr) : Obj := { cls := .type "enumerate", data := .fields #[.none, .bool false, .ref i, rawInt 0, .none, .none] }
theorem enum_newT (t : Addr) (its : Array Value) (k : Nat) (du : Option Addr) (so : Array (Option Value)) :
    Meets (Builtin.«enumerate.__new__» ⟨[.type "enumerate", .ref t], []⟩) (fun _ R s => s.heap.get? t = some { cls := .type "tuple", dict := du, data := .seq its k, slots := so } ∧
      R (.ok (.ret (.ref (s.heap.push (itT t)).objs.size))) { s with heap := (s.heap.push (itT t)).push (enO s.heap.objs.size) }) :=
  .of_wp fun prog w A R s h => by
    obtain ⟨hp, g, d, tk, os⟩ := s
    obtain ⟨hl, h⟩ := h
    have hsub := sub_enumerate
    have hT : Heap.IsTuple (Shared.heap ⟨hp, g, d, tk, os⟩) t its := ⟨_, hl, rfl, k, rfl⟩
    wp_walk using wpAny_loadPart' hl
    refine wpAny_stack_any fun st => wpAny_pure ?_
    split
    · rename_i c _ _ _ _ _
      by_cases e : (c == Value.type "enumerate") = true
      · rw [e]
        wp_walk using wpAny_loadPart' hl, wpAny_pyIter_tuple hT
        exact ⟨_, rfl, h⟩
      · rw [Bool.not_eq_true] at e
        rw [e]
        wp_walk using wpAny_loadPart' hl, wpAny_pyIter_tuple hT
        exact ⟨_, rfl, h⟩
    · wp_walk using wpAny_loadPart' hl, wpAny_pyIter_tuple hT
      exact ⟨_, rfl, h⟩
theorem call_enumT {prog : Program} {w : World} {A : Around} {E : Value → Shared → Prop} {s : Shared} {t : Addr} {its : Array Value} {Q : Value → Shared → Prop} (hT : s.heap.IsTuple t its)
    (h : ∀ h', IsEnum h' (s.heap.objs.size + 1) s.heap.objs.size 0 .none → h'.IsTupleIter s.heap.objs.size t 0 → (∀ b o, s.heap.get? b = some o → h'.get? b = some o) → Q (.ref (s.heap.objs.size + 1)) { s with heap := h' }) :
    wpAny (model prog w) A (call (.type "enumerate") [.ref t]) Q E s := by
  obtain ⟨⟨c, du, dt, so⟩, hl, hc, k, hd⟩ := hT
  simp only at hc hd
  subst hc hd
  refine callType_new F.called_enumerate (by decide) (F.typeCall_enumerate_1 _) (F.newCall_enumerate_1 _) (fun obj => F.args_object_init_2 obj _) F.entry_enumerate_new (enum_newT t its k du so) ⟨hl, ?_⟩
  have hz : (s.heap.push (itT t)).objs.size = s.heap.objs.size + 1 := Heap.size_push ..
  show _ ∧ _
  rw [hz]
  have he : IsEnum ((s.heap.push (itT t)).push (enO s.heap.objs.size)) (s.heap.objs.size + 1) s.heap.objs.size 0 .none := by
    have z := Heap.get?_push_size (s.heap.push (itT t)) (o := enO s.heap.objs.size) rfl
    rw [hz] at z
    exact z
  exact ⟨⟨_, he, rfl⟩, h _ he ⟨_, Heap.get?_push_of_some _ (Heap.get?_push_size _ rfl), rfl, rfl⟩ fun b o x => Heap.get?_push_of_some _ (Heap.get?_push_of_some _ x)⟩
def Itet (K : PySem.W.Frag) (a : Addr) (n : Nat) : It :=
  ⟨fun i H => ∃ (xs : List V) (x : V), SqT K H a xs ∧ xs.length = n ∧ xs[i]? = some x, fun i H v H' => ∃ T x, v = .ref T ∧ H T = none ∧ H' = upd H T (.tup [.int (i : Nat), x]) ∧ ∀ xs, SqT K H a xs → xs[i]? = some x, fun i H => ∃ xs : List V, SqT K H a xs ∧ xs.length = n ∧ n ≤ i⟩
theorem turn_enumT {P : Program} {w : World} {K : PySem.W.Frag} {elts : List Expr} {kk : Nat} {tpos : Pos} (a e it : Addr) (n : Nat) :
    Turn P w K (.Tuple elts kk tpos) (Itet K a n) [e, it] e (fun i h => (∃ old, IsEnum h e it ((i : Nat) : Int) old) ∧ h.IsTupleIter it a i ∧ e ≠ it ∧ i ≤ n) where
  mem := List.mem_cons_self
  obj := fun i h st b hb => by
    obtain ⟨⟨old, he⟩, ⟨o, ho, hc, hd⟩, _, _⟩ := st
    rcases (show b = e ∨ b = it by simpa using hb) with z | z
    · subst z
      exact ⟨_, he, fun v q => nomatch q⟩
    · subst z
      exact ⟨o, ho, fun v q => by rw [hd] at q; cases q⟩
  keep := fun i h h' st k => let ⟨⟨old, he⟩, hi, hne, hn⟩ := st; ⟨⟨old, k e (by simp) _ he⟩, hi.at fun o q => k it (by simp) o q, hne, hn⟩
  item := by
    intro X hP hw hK hc i pins s σ H E I hf st hg
    subst hP hw hK
    obtain ⟨⟨old, he⟩, hit, hne, hn⟩ := st
    obtain ⟨xs, x, hq, hlen, hx⟩ := hg
    obtain ⟨its, rv, p, hz⟩ := I.tuple hq
    obtain ⟨u, hu, ru⟩ := rv.get hx
    have hel : e < s.heap.objs.size := Heap.lt_size he
    have hil : it < s.heap.objs.size := by
      obtain ⟨_, q, _⟩ := hit
      exact Heap.lt_size q
    have nea : e ≠ a := by
      rintro rfl
      obtain ⟨o, ho, hoc, _⟩ := p
      have z := he.symm.trans ho
      cases z
      exact absurd (Value.type.inj hoc) (by decide)
    have nia : a ≠ it := by
      rintro rfl
      obtain ⟨o, ho, hoc, _⟩ := p
      obtain ⟨o2, ho2, hoc2, _⟩ := hit
      rw [ho] at ho2
      cases ho2
      rw [hoc] at hoc2
      exact absurd (Value.type.inj hoc2) (by decide)
    have hin : i < its.length := by
      have z := (List.getElem?_eq_some_iff.mp hu).1
      exact z
    have Dt : Draws X.prog X.w X.A.in1 it [it, a] its.toArray.size (fun i v => its.toArray[i]? = some v) (fun i h => h.IsTupleIter it a i ∧ h.IsTuple a its.toArray) := Draws.tuple (A := X.A.in1) (I.ok.hd hc) it a nia its.toArray
    refine wpAny_pyNext_enum_itemD Dt he ⟨hit, p⟩ (by simpa using hin) hne (by simp [hne, nea]) fun y h' tk hy ho hit' hT hsz hk => ?_
    have ey : y = u := by
      have z : its[i]? = some y := by simpa using hy
      rw [hu] at z
      cases z
      rfl
    subst ey
    refine ⟨_, rfl, wpAny_letOwnedTupleGo_enum (s := { s with heap := h', toks := tk + 1 }) ho fun h'' he' sb => ?_⟩
    have hT2 : h''.get? s.heap.objs.size = some { cls := .type "tuple", data := .seq #[.int i tk, y] } := (sb.2 _ (Nat.ne_of_gt hel)).trans hT
    have new : ObjOk X.prog X.w (upd H s.heap.objs.size (.tup [.int (i : Nat), x])) h'' s.heap.objs.size (.tup [.int (i : Nat), x]) :=
      ⟨by show 2 ≤ sizeLine; decide, [.int i tk, y], .cons ⟨_, rfl⟩ (.cons ru .nil), ⟨_, hT2, rfl, _, rfl⟩⟩
    have I1 : Inv X pins σ (upd H s.heap.objs.size (.tup [.int (i : Nat), x])) { s with heap := h'', toks := tk + 1 } :=
      I.turnedNew (ch := [e, it]) (fun b ob hb q => (sb.2 b (fun z => hb (by simp [z]))).trans (hk b ob (fun z => hb (by simp [z])) (fun z => hb (by simp [z])) q)) hf (Nat.le_refl _) new
    refine ⟨.ref s.heap.objs.size, _, I1, rfl, ⟨_, x, rfl, I.hok.fresh (Nat.le_refl _), rfl, fun ys hy => by rw [I.tuple_inj hy hq]; exact hx⟩, ⟨⟨y, ?_⟩, hit'.1.at fun o q => (sb.2 it (Ne.symm hne)).trans q, hne, ?_⟩, fun b hb => ?_⟩
    · have e1 : ((i + 1 : Nat) : Int) = (i : Int) + 1 := by omega
      rw [e1]
      exact he'
    · have l1 := rv.length
      omega
    · have hb' : b < s.heap.objs.size := by
        rcases (show b = e ∨ b = it by simpa using hb) with z | z
        · rw [z]; exact hel
        · rw [z]; exact hil
      rw [upd_ne (Nat.ne_of_lt hb')]
      exact (hf b hb).1
  done := by
    intro X hP hw hK hc i pins s σ H E I hf st hg
    subst hP hw hK
    obtain ⟨⟨old, he⟩, hit, hne, hn⟩ := st
    obtain ⟨xs, hq, hlen, hx⟩ := hg
    obtain ⟨its, rv, p, hz⟩ := I.tuple hq
    obtain ⟨f0, f1, f2, f3, f4, f5⟩ := hf it (by simp)
    have hl := rv.length
    have nia : a ≠ it := by
      rintro rfl
      obtain ⟨o, ho, hoc, _⟩ := p
      obtain ⟨o2, ho2, hoc2, _⟩ := hit
      rw [ho] at ho2
      cases ho2
      rw [hoc] at hoc2
      exact absurd (Value.type.inj hoc2) (by decide)
    have Dt : Draws X.prog X.w X.A.in1 it [it, a] its.toArray.size (fun i v => its.toArray[i]? = some v) (fun i h => h.IsTupleIter it a i ∧ h.IsTuple a its.toArray) := Draws.tuple (A := X.A.in1) (I.ok.hd hc) it a nia its.toArray
    have en : its.toArray.size = i := by simp; omega
    exact wpAny_pyNext_enum_endD Dt he ⟨en ▸ hit, p⟩ fun h' eb => ⟨rfl, I.turned (t' := s.toks) (fun b o hb q => eb b o hb q) f0 f1 f3 f4 f5⟩
  self := fun A i s Q E st h => let ⟨⟨_, he⟩, _⟩ := st; wpAny_pyIter_enum he h
def iEnT (K : PySem.W.Frag) (ta : TA) : TI := fun σ H R => ta σ H fun vs H1 => ∃ a xs, vs = [.ref a] ∧ SqT K H1 a xs ∧ R (Itet K a xs.length) H1
section
variable {X : Cx}
theorem pi_enumT {e : Expr} {ta : TA} {p pos tpos : Pos} {elts : List Expr} {kk : Nat} (hg : Gl X "enumerate") (hm : X.mg "enumerate" = none) (ha : PA X [e] ta) (hs : starEach [e] X.env = [(false, eval e X.env)] := by rfl) :
    PI X (.Tuple elts kk tpos) (.Call (.Name "enumerate" p) [e] [] pos) (iEnT X.K ta) := by
  constructor
  intro pins s σ H R I h
  refine Call_ (ld_blt I hg hm boot_enumerate (PyProof.Rows.callWith_type1 (thn (ha.run pos pins s σ H _ I h) fun us s1 ⟨vs, H1, I1, r1, q1⟩ => ?_) hs rfl))
  obtain ⟨a, xs, ex, hq, q⟩ := q1
  subst ex
  cases r1 with
  | cons r rr =>
    cases rr
    cases r
    obtain ⟨its, rv, pt, hz⟩ := I1.tuple hq
    refine call_enumT pt fun h' he hit hk => wpAny_pyIter_enum he ?_
    have I2 : Inv X pins σ H1 { s1 with heap := h' } := I1.kept (t' := s1.toks) hk
    refine ⟨s1.heap.objs.size + 1, [s1.heap.objs.size + 1, s1.heap.objs.size], _, _, H1, rfl, I2, turn_enumT a (s1.heap.objs.size + 1) s1.heap.objs.size xs.length, ⟨⟨.none, he⟩, hit, Nat.succ_ne_self _, Nat.zero_le _⟩, fun b hb => ?_, q⟩
    have hle : s1.heap.objs.size ≤ b := by
      rcases (show b = s1.heap.objs.size + 1 ∨ b = s1.heap.objs.size by simpa using hb) with z | z
      · exact Nat.le_trans (Nat.le_succ _) (Nat.le_of_eq z.symm)
      · exact Nat.le_of_eq z.symm
    exact I1.fpOk hle (I1.hok.fresh hle)
def pairsD (ds : List PyData) : List PyData := ds.mapIdx fun i d => .tuple [.int (i : Nat), d]
def iEnum (f : EF) : LF := fun ρ => match f ρ with
  | some (.tuple ds, ρ') => some (pairsD ds, ρ')
  | _ => none
theorem dip_enumT {e : Expr} {f : EF} {p pos tpos : Pos} {elts : List Expr} {kk : Nat} (hg : Gl X "enumerate") (hm : X.mg "enumerate" = none) (ha : DE X e f) (hs : starEach [e] X.env = [(false, eval e X.env)] := by rfl) :
    DIP X (.Tuple elts kk tpos) (.Call (.Name "enumerate" p) [e] [] pos) (iEnum f) := by
  refine pi_imp (pi_enumT hg hm (pa_cons ha pa_nil hs) hs) ?_
  rintro σ H R ⟨G, ρ, ρ', ds, Rr, hf, k⟩
  unfold iEnum at hf
  split at hf
  · rename_i es ρ1 e1
    cases hf
    refine ⟨G, ρ, _, _, Rr, e1, fun v G1 H1 R1 s1 q1 => ?_⟩
    cases q1 with
    | @tup _ a xs _ hs ha =>
      have hl : (pairsD es).length = es.length := by simp [pairsD]
      refine ⟨a, xs, rfl, (hs.same R1.sub).sq, k _ _ _ R1 s1 ⟨fun i H2 sm hi => ?_, fun i H2 sm hi => ?_, fun i G2 H2 x H3 d sm sm2 hy hd => ?_⟩⟩
      · rw [hl] at hi
        obtain ⟨v, ev, _⟩ := ha.get (List.getElem?_eq_getElem hi)
        exact ⟨xs, v, (hs.same sm).sq, rfl, ev⟩
      · rw [hl] at hi
        exact ⟨xs, (hs.same sm).sq, rfl, by rw [ha.len]; exact hi⟩
      · obtain ⟨T, x', rfl, nT, rfl, hy⟩ := hy
        unfold pairsD at hd
        rw [List.getElem?_mapIdx] at hd
        cases q : es[i]? with
        | none => rw [q] at hd; cases hd
        | some d0 =>
          rw [q] at hd
          cases hd
          obtain ⟨v, ev, hv⟩ := ha.get q
          have z := hy xs ((hs.same sm).same sm2).sq
          rw [ev] at z
          cases z
          exact ⟨T, _, _, rfl, nT, rfl, rfl, .cons (.int _) (.cons (hv.same sm) .nil)⟩
  · cases hf
end
end DL

set_option Elab.async false
set_option linter.all false
set_option maxRecDepth 100000
set_option maxHeartbeats 4000000
/-! a, *b = t; a written table; tuple(range(n)); several names at once; [x] * n; defs that make a list; keywords. -/
namespace DL
open PySem PySem.Spec PyProof.Rows L2 GX StX PySem.Calls
variable [DL.FT]
section
variable {prog : Program} {w : World} {A : Around} {E : Value → Shared → Prop} {s : Shared} {env : Env}
/-- the first element, and a new list of the others -/
theorem unpack_rest {l : Addr} {x : Value} {r : List Value} {Q : List Value → Shared → Prop} (ht : IsTup s.heap l (x :: r).toArray) (hh : A.handled = none) (hz : r.length ≤ 1000)
    (h : ∀ (g : Heap) tk, (∀ b o, s.heap.get? b = some o → g.get? b = some o) → Q [x, .ref g.objs.size] { s with heap := g.push { cls := .type "list", data := .seq r.toArray }, toks := tk }) :
    wpAny (model prog w) A (unpackItems (.ref l) 2 (some 1)) Q E s := by
  have ne : l ≠ s.heap.objs.size := by
    obtain ⟨o, ho, _⟩ := ht
    exact Nat.ne_of_lt (Heap.lt_size ho)
  unfold unpackItems; refine wpAny_bind ?_; unfold notIterableAtAll
  refine wpAny_bind (wpAny_specialOf ht.typeIs slot_tuple_iter.lookup (wpAny_pure ?_))
  simp only [Bool.false_eq_true, if_false]
  refine wpAny_bind (wpAny_holding (iter_tuple ht (wpAny_bind (wpAny_holding
    (draw_tuple ne 1 0 _ _ ⟨_, Heap.get?_push_size _ rfl, rfl, rfl⟩ (ht.push _) (by simp) fun g it sb => ?_)))))
  have tg : IsTup g l (x :: r).toArray := (ht.push _).extBut sb.extBut ne
  obtain ⟨oi, hoi, it'⟩ := id it
  obtain ⟨ol, hol, _⟩ := id tg
  show wpAny _ _ (if ([x] : List Value).length < 1 then _ else _) _ _ _
  rw [if_neg (by simp)]
  refine wpAny_bind (wpAny_holding (PySem.W.kun_collect (s := { s with heap := g }) (T := "tuple_iterator") (.inr (.inr (.inr rfl)))
    (Walks.tuple (A := A.in1) hh s.heap.objs.size l ne (x :: r).toArray) (fun j u st => st.1.typeIs) (k := 1) (by simp) ⟨it, tg⟩ (Heap.lt_size hoi) (Heap.lt_size hol) (fun g2 tk hk => ?_) (by rw [sizeLine_eq]; simp; omega)))
  have er : (x :: r).toArray.toList.drop 1 = r := rfl
  rw [er]
  show wpAny _ _ (if r.length < 0 then _ else _) _ _ _
  rw [if_neg (by omega)]
  show wpAny _ _ (newList (r.take (r.length - 0)) >>= fun d => pure ([x] ++ [d] ++ r.drop (r.length - 0))) _ _ _
  rw [Nat.sub_zero, List.take_length, List.drop_length]
  have kp : ∀ b o, s.heap.get? b = some o → g2.get? b = some o := by
    intro b o e
    have hb : b ≠ s.heap.objs.size := Nat.ne_of_lt (Heap.lt_size e)
    exact hk b o hb (sb.extBut b o hb (Heap.get?_push_of_some _ e))
  refine wpAny_bind (wpAny_newList (s := { s with heap := g2, toks := tk }) (wpAny_pure ?_) (by rw [sizeLine_eq]; omega))
  exact h g2 tk kp
end
def gRest (K : PySem.W.Frag) (t u : TG) : TG := fun v σ H Q => ∃ a x xs, v = .ref a ∧ SqT K H a (x :: xs) ∧ xs.length ≤ 1000 ∧ ∀ p, H p = none → t x σ (upd H p (.lst xs)) fun σ1 H1 => u (.ref p) σ1 H1 Q
section
variable {X : Cx} {pos sp : Pos}
theorem pg_rest {a b : Expr} {k : Nat} {t u : TG} (hc : X.calm = true) (ha : PG X a t) (hb : PG X b u) (hn : (assignEach [a, .Starred b sp] X.env).length = 2 := by rfl)
    (hst : (assignEach [a, .Starred b sp] X.env).findIdx? (·.1) = some 1 := by rfl) (hm : (assignEach [a, .Starred b sp] X.env).map (·.2) = [assign a X.env, assign b X.env] := by rfl) :
    PG X (.Tuple [a, .Starred b sp] k pos) (gRest X.K t u) := by
  constructor
  intro pins s σ H v w Q I r hw
  obtain ⟨c, x, xs, e, hq, hl, hw⟩ := hw
  subst e
  cases r
  obtain ⟨its, rv, ht, hz⟩ := I.tuple hq
  cases rv with
  | @cons _ y _ ys r1 r2 =>
    rw [assign_Tuple]
    refine wpAny_bind (wpAny_standAt ?_)
    unfold unpack
    rw [hn, hst]
    refine wpAny_bind (wpAny_holding (unpack_rest ht (I.ok.hd hc) (by rw [← r2.length]; exact hl) fun g tk kp => ?_))
    rw [hm]
    have I1 : Inv X pins σ H { s with heap := g, toks := tk } := I.kept kp
    have I2 : Inv X pins σ (upd H g.objs.size (.lst xs)) { s with heap := g.push { cls := .type "list", data := .seq ys.toArray }, toks := tk } :=
      I1.laid (t' := tk) (fun b o z => Heap.get?_push_of_some _ z) (Nat.le_refl _) ⟨by rw [sizeLine_eq]; omega, ys, 0, r2, Heap.get?_push_size _ rfl⟩
    have hw2 := hw g.objs.size (I1.hok.fresh (Nat.le_refl _))
    refine assignInOrder_cons (thn (ha.run pins _ σ _ x y _ I2 r1 hw2) fun _ s1 ⟨σ1, H1, I3, q1⟩ => ?_)
    refine assignInOrder_cons (thn (hb.run pins s1 σ1 H1 (.ref g.objs.size) (.ref g.objs.size) _ I3 rfl q1) fun _ s2 ⟨σ2, H2, I4, q2⟩ => ?_)
    exact wpAny_pure ⟨σ2, H2, I4, q2⟩
def tRest (i j : Nat) : GT := fun d ρ => match d with
  | .tuple (d0 :: ds) => if ds.length ≤ 1000 then some ((ρ.set i (.dat d0)).set j (.dat (.list ds))) else none
  | _ => none
theorem dtg_rest {i j : Nat} {x y : Str} {p1 p2 : Pos} {k : Nat} (hc : X.calm = true) (hN : X.N.Nodup) (hi : X.N[i]? = some x) (hj : X.N[j]? = some y) (hx : Loc X.env.scope x) (hy : Loc X.env.scope y)
    (hn : (assignEach [.Name x p1, .Starred (.Name y p2) sp] X.env).length = 2 := by rfl) (hst : (assignEach [.Name x p1, .Starred (.Name y p2) sp] X.env).findIdx? (·.1) = some 1 := by rfl)
    (hm : (assignEach [.Name x p1, .Starred (.Name y p2) sp] X.env).map (·.2) = [assign (.Name x p1) X.env, assign (.Name y p2) X.env] := by rfl)
    (hfx : X.fn x = true ∨ X.env.scope.names.lookup x = some .local := by first | exact .inl rfl | exact .inr rfl | assumption) (hfy : X.fn y = true ∨ X.env.scope.names.lookup y = some .local := by first | exact .inl rfl | exact .inr rfl | assumption) :
    DTg X (.Tuple [.Name x p1, .Starred (.Name y p2) sp] k pos) (tRest i j) := by
  refine pg_imp (pg_rest hc (pg_name hN hi hx hfx) (pg_name hN hj hy hfy) hn hst hm) ?_
  rintro v σ H Q ⟨G, ρ, ρ', d, R, hd, ht, kk⟩
  unfold tRest at ht
  split at ht
  · rename_i d0 ds
    split at ht
    · rename_i hz
      cases ht
      cases hd with
      | tup hs ha =>
        cases ha with
        | @cons _ v0 vs _ _ h1 h2 =>
          refine ⟨_, v0, vs, rfl, (hs.same R.sub).sq, by rw [h2.len]; exact hz, fun p n => ?_⟩
          have xt := Xt.new (o := .lst vs) R.sub n
          have R1 := R.ext xt
          have R2 := R1.put (i := i) (h1.same xt.gg)
          have R3 := R2.put (i := j) (newL (Same.free R.sub n) h2)
          exact kk _ _ _ R3 ((Sx.ext xt).trans ((Sx.put R1).trans (Sx.put R2)))
    · cases ht
  · cases ht
end
/-! ### the written table -/
def levels : List (Str × Nat) := [("cache", 1), ("plain", 2), ("inclusive", 2), ("victim", 2)]
structure Lev (K : PySem.W.Frag) (w : World) (d : Addr) : Prop where
  dict : ∃ es n, KDict K w d es n
  no : ∀ z, levels.lookup z = none → PySem.W.nsIn K d z = some none
  yes : ∀ z k, levels.lookup z = some k → ∃ t, PySem.W.nsIn K d z = some (some (.int (k : Nat) t))
def levD (z : Str) : PyData := match levels.lookup z with | some k => .int (k : Nat) | none => .none
def fLev (f : EF) : EF := fun ρ => match f ρ with
  | some (.str z, ρ') => some (levD z, ρ')
  | _ => none
section
variable {X : Cx} {o e : Expr} {apos cpos : Pos} {d : Addr} {f : EF}
theorem de_lev (L : Lev X.K X.w d) (ho : PE X o (tC (.ref d))) (he : DE X e f) (m : M1 X o "get" apos e cpos) : DE X (.Call (.Attribute o "get" apos) [e] [] cpos) (fLev f) := by
  constructor
  intro pins s σ H Q I h
  obtain ⟨es, n, D⟩ := L.dict
  have h' : rE X.w X.K f σ H fun y H2 => ∃ z, y = .str z ∧ ∀ v, Da (X.K) (fun _ => none) v (levD z) → Q v H2 := by
    obtain ⟨G, ρ, ρ', d, R, hf, k⟩ := h
    unfold fLev at hf
    split at hf
    · rename_i z ρ1 e1
      cases hf
      refine ⟨G, ρ, _, _, R, e1, fun v G1 H1 R1 s1 q1 => ?_⟩
      cases q1
      refine ⟨z, rfl, fun v hv => k v G1 H1 R1 s1 (hv.same fun b o e => ?_)⟩
      cases e
    · cases hf
  refine wpAny_Call_method m.base m.few m.line PySem.F.plainAttrs_dict PySem.F.slot_dict_get PySem.F.type_dict_get (thn (ho.run pins s σ H (fun v H1 => v = .ref d ∧ rE X.w X.K f σ H1 fun y H2 => ∃ z, y = .str z ∧ ∀ v, Da (X.K) (fun _ => none) v (levD z) → Q v H2) I ⟨rfl, h'⟩) ?_)
  rintro u s1 ⟨x, H1, I1, rx, ex, q1⟩
  subst ex
  obtain rfl : u = Value.ref d := rx
  have hm := PySem.W.mapOf_K (prog := X.prog) (w := X.w) I1.kIn D.at_ D.lit
  refine ⟨hm.typeIs, fun b q => ?_, ?_⟩
  · cases q
    exact ⟨_, I1.kIn _ _ D.at_, rfl⟩
  rw [m.trees]
  refine Calls.callWith_builtin rfl (Calls.evalArgs_plain (Calls.spliced_cons (thn (he.run pins s1 σ H1 _ I1 q1) fun iv s2 ⟨y, H2, I2, ry, z, ey, q2⟩ => Calls.spliced_nil ?_)))
  subst ey
  obtain ⟨t, rfl⟩ := ry
  have hm2 := PySem.W.mapOf_K (prog := X.prog) (w := X.w) I2.kIn D.at_ D.lit
  refine call_meetsIn PySem.F.slot_dict_get hm2.typeIs PySem.F.entry_dict_get (PySem.F.args_dict_get_2 _ _) (meets_dict_get (strKind X.prog X.w) d (PySem.strKind_is X.prog X.w z t) D.low) ⟨_, hm2, ?_⟩
  unfold levD at q2
  cases hz : levels.lookup z with
  | none =>
    rw [hz] at q2
    rw [PySem.W.find_K D.at_ (L.no z hz)]
    exact ⟨.non, H2, I2.tok _, rfl, q2 _ .non⟩
  | some k =>
    rw [hz] at q2
    obtain ⟨t2, e2⟩ := L.yes z k hz
    rw [PySem.W.find_K D.at_ e2]
    exact ⟨.int (k : Nat), H2, I2.tok _, ⟨t2, rfl⟩, q2 _ (.int _)⟩
end
section
variable {X : Cx}
/-! ### tuple(range(n)) -/
def fTupRg (f : EF) : EF := fun ρ => match f ρ with
  | some (.int n, ρ') => if 0 ≤ n ∧ n ≤ 1000 then some (.tuple (rangeD 0 n.toNat), ρ') else none
  | _ => none
theorem de_tupRg {e : Expr} {f : EF} {p p2 pos pos2 : Pos} (hc : X.calm = true) (hg : Gl X "tuple") (hm : X.mg "tuple" = none) (hg2 : Gl X "range") (hm2 : X.mg "range" = none) (he : DE X e f)
    (na : starEach [e] X.env = (false, eval e X.env) :: starEach [] X.env := by rfl) (na2 : starEach [.Call (.Name "range" p2) [e] [] pos2] X.env = (false, eval (.Call (.Name "range" p2) [e] [] pos2) X.env) :: starEach [] X.env := by rfl) :
    DE X (.Call (.Name "tuple" p) [.Call (.Name "range" p2) [e] [] pos2] [] pos) (fTupRg f) := by
  refine pe_imp (pe_tupRgN hc hg hm (prg_1 hg2 hm2 he na) na2) ?_
  rintro σ H Q ⟨G, ρ, ρ', d, R, hf, k⟩
  unfold fTupRg at hf
  split at hf
  · rename_i n ρ1 e1
    split at hf
    · rename_i hz
      cases hf
      refine ⟨G, ρ, _, _, R, e1, fun v G1 H1 R1 s1 q1 => ?_⟩
      cases q1
      refine ⟨n, rfl, RgOk.of_le (by omega) (by omega) (by omega) (by omega), fun p o np od => ?_⟩
      have xt := Xt.new (o := .frz o (.tup (rgV 0 n))) R1.sub np
      refine k _ _ _ (R1.ext xt) (s1.trans (.ext xt)) (newT (Same.free R1.sub np) od ?_)
      unfold rgV rangeD
      rw [Int.sub_zero]
      have z : (List.range n.toNat).map (fun i => V.int (0 + ((i : Nat) : Int))) = ((List.range n.toNat).map fun i => (0 + ((i : Nat) : Int))).map V.int := by rw [List.map_map]; rfl
      have z2 : (List.range n.toNat).map (fun i => PyData.int (0 + ((i : Nat) : Int))) = ((List.range n.toNat).map fun i => (0 + ((i : Nat) : Int))).map PyData.int := by rw [List.map_map]; rfl
      rw [z, z2]
      exact .ofInts _
    · cases hf
  · cases hf
/-! ### [..] * n, a new list -/
def fRepL (f g : EF) : LF := fun ρ => match f ρ with
  | some (.list ds, ρ1) => match g ρ1 with
    | some (.int k, ρ2) => if 0 ≤ k ∧ k ≤ 2000 ∧ ds.length ≤ 500 then some (timesL ds k.toNat, ρ2) else none
    | _ => none
  | _ => none
theorem dn_rep {a b : Expr} {f g : EF} {pos : Pos} (ha : DE X a f) (hb : DE X b g) : DN X (.BinOp a .Mult b pos) (fRepL f g) := by
  refine pe_imp (pe_op op_rep ha hb) ?_
  rintro σ H Q ⟨G, ρ, ρ', d, R, hf, k⟩
  unfold fRepL at hf
  split at hf
  · rename_i ds ρ1 e1
    split at hf
    · rename_i n ρ2 e2
      split at hf
      · rename_i hz
        cases hf
        obtain ⟨z1, z2, z3⟩ := hz
        refine ⟨G, ρ, ρ1, _, R, e1, fun v1 G1 H1 R1 s1 q1 => ⟨G1, ρ1, _, _, R1, e2, fun v2 G2 H2 R2 s2 q2 => ?_⟩⟩
        cases q2
        have q3 := q1.same s2.gr
        cases q3 with
        | @lst _ p xs _ hp ha =>
          refine ⟨p, n, xs, rfl, rfl, R2.sub _ _ hp, by omega, by omega, rep_le z1 z2 (by rw [ha.len]; exact z3), fun t nt => ?_⟩
          have xm := Xt.more (p := t) (o := .lst (List.replicate n.toNat xs).flatten) R2.sub nt
          have s3 := (s1.trans s2).trans (.ext xm)
          exact k t _ G2 _ (R2.ext xm) s3 upd_same (Same.free R2.sub nt) (noOw R2 nt) (backN (s1.trans s2) nt) (ha.times _)
      · cases hf
    · cases hf
  · cases hf
/-! ### several names at once -/
def fPar (i j : Nat) (f : LF) : SF := fun ρ => match f ρ with
  | some ([d, e], ρ1) => some (.nx ((ρ1.set i (.dat d)).set j (.dat e)))
  | _ => none
theorem ds_par {i j : Nat} {x y : Str} {a b : Expr} {f : LF} {px py pt pos : Pos} {kt k2 pt2} (hc : X.calm = true) (hN : X.N.Nodup) (hi : X.N[i]? = some x) (hj : X.N[j]? = some y) (hij : i ≠ j)
    (hx : X.env.scope.names.lookup x = some .local) (hy : X.env.scope.names.lookup y = some .local) (ha : DLs X [a, b] f)
    (hw : swappedStores [.Tuple [.Name x px, .Name y py] kt pt] (.Tuple [a, b] k2 pt2) X.env = pure (some [x, y]))
    (hs : swapsWithSole [.Tuple [.Name x px, .Name y py] kt pt] (.Tuple [a, b] k2 pt2) pos.line X.env = pure false := by rfl) :
    DS X (.Assign [.Tuple [.Name x px, .Name y py] kt pt] (.Tuple [a, b] k2 pt2) pos) (fPar i j f) := by
  refine ps_imp (ps_par hc hN hi hj hij hx hy ha hw hs) ?_
  rintro D σ H ⟨G, ρ, o, R, hf, k⟩
  unfold fPar at hf
  split at hf
  · rename_i d e ρ1 e1
    cases hf
    refine ⟨G, ρ, ρ1, _, R, e1, fun vs G1 H1 R1 s1 q1 => ?_⟩
    cases q1 with
    | @cons _ v1 _ _ _ h1 h2 =>
      cases h2 with
      | @cons _ v2 _ _ _ h2 h3 =>
        cases h3
        have R2 := R1.put (i := i) h1
        have R3 := R2.put (i := j) h2
        exact ⟨v1, v2, rfl, k _ G1 H1 R3 (s1.trans ((Sx.put R1).trans (Sx.put R2)))⟩
  · cases hf
end
/-- one of several: a datum or a new list -/
inductive Itm where
  | d (x : PyData) | n (xs : List PyData)
abbrev IF := Rho → Option (Itm × Rho)
def ItR (ww : World) (K : PySem.W.Frag) (G H : Hp) (σ : L2.St) (ρ : Rho) (H0 : Hp) : Itm → V → Prop
  | .d x, v => Da K G v x
  | .n ds, v => ∃ p xs, v = .ref p ∧ H p = some (.lst xs) ∧ G p = none ∧ ¬ Ow σ ρ p ∧ H0 p = none ∧ DaA K G xs ds
def rX (ww : World) (K : PySem.W.Frag) (f : IF) : TE := fun σ H Q => ∃ G ρ ρ' a, Rl ww K G σ ρ H ∧ f ρ = some (a, ρ') ∧ ∀ v G' H', Rl ww K G' σ ρ' H' → Sx G σ ρ H G' σ ρ' H' → ItR ww K G' H' σ ρ' H a v → Q v H'
def DX (X : Cx) (e : Expr) (f : IF) : Prop := PE X e (rX X.w X.K f)
def xDat (f : EF) : IF := fun ρ => match f ρ with
  | some (d, ρ') => some (.d d, ρ')
  | none => none
def xNew (f : LF) : IF := fun ρ => match f ρ with
  | some (ds, ρ') => some (.n ds, ρ')
  | none => none
section
variable {X : Cx}
theorem dx_dat {e : Expr} {f : EF} (h : DE X e f) : DX X e (xDat f) := by
  refine pe_imp h ?_
  rintro σ H Q ⟨G, ρ, ρ', a, R, hf, k⟩
  unfold xDat at hf
  split at hf
  · rename_i d ρ1 e1
    cases hf
    exact ⟨G, ρ, _, d, R, e1, fun v G1 H1 R1 s1 q1 => k v G1 H1 R1 s1 q1⟩
  · cases hf
theorem dx_new {e : Expr} {f : LF} (h : DN X e f) : DX X e (xNew f) := by
  refine pe_imp h ?_
  rintro σ H Q ⟨G, ρ, ρ', a, R, hf, k⟩
  unfold xNew at hf
  split at hf
  · rename_i ds ρ1 e1
    cases hf
    exact ⟨G, ρ, _, ds, R, e1, fun p xs G1 H1 R1 s1 h1 h2 h3 h4 h5 => k _ G1 H1 R1 s1 ⟨p, xs, rfl, h1, h2, h3, h4, h5⟩⟩
  · cases hf
theorem ItR.keep {ww : World} {K : PySem.W.Frag} {G G' H H' H0 : Hp} {σ σ' : L2.St} {ρ ρ' : Rho} {a : Itm} {v : V} (h : ItR ww K G H σ ρ H0 a v) (s : Sx G σ ρ H G' σ' ρ' H') : ItR ww K G' H' σ' ρ' H0 a v := by
  cases a with
  | d x => exact Da.same h s.gr
  | n ds =>
    obtain ⟨p, xs, rfl, h1, h2, h3, h4, h5⟩ := h
    refine ⟨p, xs, rfl, s.fr p _ h1 (fun _ z => nomatch z) h3, ?_, fun z => ?_, h4, h5.same s.gr⟩
    · cases q : G' p with
      | none => rfl
      | some u =>
        rcases s.new p (by rw [q]; simp) with z | z | z
        · exact (z h2).elim
        · rw [h1] at z; cases z
        · exact (h3 z).elim
    · rcases s.ow p z with y | y
      · exact h3 y
      · rw [h1] at y; cases y
def setX (ρ : Rho) (i : Nat) : Itm → Rho
  | .d x => ρ.set i (.dat x)
  | .n xs => ρ.set i (.own false xs)
theorem Sx.hold2 {G0 H0 G H : Hp} {σ0 σ : L2.St} {ρ0 ρ : Rho} {i : Nat} {p : Addr} {ds : List PyData} (s : Sx G0 σ0 ρ0 H0 G σ ρ H) (n : H0 p = none) : Sx G0 σ0 ρ0 H0 G (σ.set i (some (.ref p))) (ρ.set i (.own false ds)) H := by
  refine ⟨s.gr, s.new, s.fr, fun b ⟨j, c, es, r, h1, h2, h3⟩ => ?_, s.al, fun j es h => ?_⟩
  · rcases set_get h1 with ⟨z1, z, _⟩ | ⟨z, h1⟩
    · subst z1
      by_cases hl : j < σ.length
      · rw [List.getElem?_set_self hl] at h2
        cases h2
        cases z
        simp only [reg, List.mem_singleton] at h3
        rw [h3]
        exact .inr n
      · rw [List.getElem?_eq_none (by rw [List.length_set]; omega)] at h2
        cases h2
    · rw [List.getElem?_set_ne (Ne.symm z)] at h2
      exact s.ow b ⟨j, c, es, r, h1, h2, h3⟩
  · rcases set_get h with ⟨_, z, _⟩ | ⟨z, h⟩
    · cases z
    · rw [List.getElem?_set_ne (Ne.symm z)]
      exact s.par j es h
/-- stored; what else is new stays so -/
theorem ItR.store {ww : World} {K : PySem.W.Frag} {G H H0 G0 : Hp} {σ0 σ : L2.St} {ρ0 ρ : Rho} {a : Itm} {v : V} {i : Nat} (R : Rl ww K G σ ρ H) (s : Sx G0 σ0 ρ0 H0 G σ ρ H) (h : ItR ww K G H σ ρ H0 a v) :
    Rl ww K G (σ.set i (some v)) (setX ρ i a) H ∧ Sx G0 σ0 ρ0 H0 G (σ.set i (some v)) (setX ρ i a) H ∧
      ∀ (b : Itm) (u : V), (∀ p, u = .ref p → v = .ref p → False) ∨ (∃ x, a = .d x) ∨ (∃ x, b = .d x) → ItR ww K G H σ ρ H0 b u → ItR ww K G H (σ.set i (some v)) (setX ρ i a) H0 b u := by
  cases a with
  | d x =>
    refine ⟨R.put h, s.trans (Sx.put R), fun b u _ hb => ?_⟩
    exact ItR.keep hb (Sx.put R)
  | n ds =>
    obtain ⟨p, xs, rfl, h1, h2, h3, h4, h5⟩ := h
    refine ⟨R.hold h1 h2 h3 h5, Sx.hold2 s h4, fun b u hu hb => ?_⟩
    cases b with
    | d x => exact hb
    | n es =>
      obtain ⟨q, ys, rfl, k1, k2, k3, k4, k5⟩ := hb
      refine ⟨q, ys, rfl, k1, k2, fun ⟨j, c, fs, r, z1, z2, z3⟩ => ?_, k4, k5⟩
      rcases set_get z1 with ⟨y1, y2, _⟩ | ⟨y, z1⟩
      · subst y1
        cases y2
        by_cases hl : j < σ.length
        · rw [List.getElem?_set_self hl] at z2
          cases z2
          simp only [reg, List.mem_singleton] at z3
          subst z3
          rcases hu with hu | ⟨x, e⟩ | ⟨x, e⟩
          · exact hu _ rfl rfl
          · cases e
          · cases e
        · rw [List.getElem?_eq_none (by rw [List.length_set]; omega)] at z2
          cases z2
      · rw [List.getElem?_set_ne (Ne.symm y)] at z2
        exact k3 ⟨j, c, fs, r, z1, z2, z3⟩
/-- a, b, c = .., data or new lists -/
def fPar3 (i j l : Nat) (f g h : IF) : SF := fun ρ => match f ρ with
  | none => none
  | some (a, ρ1) => match g ρ1 with
    | none => none
    | some (b, ρ2) => match h ρ2 with
      | none => none
      | some (c, ρ3) => some (.nx (setX (setX (setX ρ3 i a) j b) l c))
theorem ItR.new {ww : World} {K : PySem.W.Frag} {G H H0 H1 : Hp} {σ : L2.St} {ρ : Rho} {a : Itm} {v : V} (h : ItR ww K G H σ ρ H1 a v) (b : ∀ p, H1 p = none → H0 p = none) : ItR ww K G H σ ρ H0 a v := by
  cases a with
  | d x => exact h
  | n ds =>
    obtain ⟨p, xs, rfl, h1, h2, h3, h4, h5⟩ := h
    exact ⟨p, xs, rfl, h1, h2, h3, b p h4, h5⟩
theorem ItR.apart {ww : World} {K : PySem.W.Frag} {G H G1 H1 H0 : Hp} {σ σ1 : L2.St} {ρ ρ1 : Rho} {a b : Itm} {u v : V} (h : ItR ww K G H σ ρ H0 a v) (h' : ItR ww K G1 H1 σ1 ρ1 H b u) : (∀ p, u = .ref p → v = .ref p → False) ∨ (∃ x, a = .d x) ∨ ∃ x, b = .d x := by
  cases a with
  | d x => exact .inr (.inl ⟨x, rfl⟩)
  | n ds =>
    cases b with
    | d x => exact .inr (.inr ⟨x, rfl⟩)
    | n es =>
      obtain ⟨p, xs, rfl, h1, _⟩ := h
      obtain ⟨q, ys, rfl, _, _, _, h4, _⟩ := h'
      refine .inl fun r e1 e2 => ?_
      cases e1
      cases e2
      rw [h1] at h4
      cases h4
theorem ds_par3 {i j l : Nat} {x y z : Str} {a b c : Expr} {f g h : IF} {px py pz pt pos : Pos} {kt k2 pt2} (hc : X.calm = true) (hN : X.N.Nodup) (hi : X.N[i]? = some x) (hj : X.N[j]? = some y) (hl : X.N[l]? = some z) (hij : i ≠ j) (hil : i ≠ l) (hjl : j ≠ l)
    (hx : X.env.scope.names.lookup x = some .local) (hy : X.env.scope.names.lookup y = some .local) (hz : X.env.scope.names.lookup z = some .local) (ha : DX X a f) (hb : DX X b g) (hcc : DX X c h)
    (hw : swappedStores [.Tuple [.Name x px, .Name y py, .Name z pz] kt pt] (.Tuple [a, b, c] k2 pt2) X.env = pure (some [x, y, z]))
    (hs : swapsWithSole [.Tuple [.Name x px, .Name y py, .Name z pz] kt pt] (.Tuple [a, b, c] k2 pt2) pos.line X.env = pure false := by rfl)
    (st1 : starEach [a, b, c] X.env = (false, eval a X.env) :: starEach [b, c] X.env := by rfl) (st2 : starEach [b, c] X.env = (false, eval b X.env) :: starEach [c] X.env := by rfl) (st3 : starEach [c] X.env = (false, eval c X.env) :: starEach [] X.env := by rfl) :
    DS X (.Assign [.Tuple [.Name x px, .Name y py, .Name z pz] kt pt] (.Tuple [a, b, c] k2 pt2) pos) (fPar3 i j l f g h) := by
  refine ps_imp (ps_par3 hc hN hi hj hl hij hil hjl hx hy hz (pa_cons ha (pa_cons hb (pa_cons hcc pa_nil st3) st2) st1) hw hs) ?_
  rintro D σ H ⟨G, ρ, o, R, hf, k⟩
  unfold fPar3 at hf
  split at hf
  · cases hf
  · rename_i ia ρ1 e1
    split at hf
    · cases hf
    · rename_i ib ρ2 e2
      split at hf
      · cases hf
      · rename_i ic ρ3 e3
        cases hf
        refine ⟨G, ρ, ρ1, ia, R, e1, fun v1 G1 H1 R1 s1 q1 => ⟨G1, ρ1, ρ2, ib, R1, e2, fun v2 G2 H2 R2 s2 q2 => ⟨G2, ρ2, ρ3, ic, R2, e3, fun v3 G3 H3 R3 s3 q3 => ⟨v1, v2, v3, rfl, ?_⟩⟩⟩⟩
        have a12 := q1.apart q2
        have a13 := (q1.keep s2).apart q3
        have a23 := q2.apart q3
        have p1 := (q1.keep s2).keep s3
        have p2 := (q2.keep s3).new (H0 := H) fun p n => backN s1 n
        have p3 := q3.new (H0 := H) fun p n => backN (s1.trans s2) n
        have st := (s1.trans s2).trans s3
        obtain ⟨Ra, sa, ka⟩ := ItR.store (i := i) R3 st p1
        have p2' := ka ib v2 a12 p2
        have p3' := ka ic v3 a13 p3
        obtain ⟨Rb, sb, kb⟩ := ItR.store (i := j) Ra sa p2'
        have p3'' := kb ic v3 a23 p3'
        obtain ⟨Rc, sc, _⟩ := ItR.store (i := l) Rb sb p3''
        exact k _ G3 H3 Rc sc
end
end DL

set_option Elab.async false
set_option linter.all false
set_option maxRecDepth 100000
set_option maxHeartbeats 4000000
/-! Defs that give a new list; calls by keywords. -/
namespace DL
open PySem PySem.Spec PyProof.Rows L2 GX StX PySem.Calls
variable [DL.FT]
/-! ### a body that ends with a new list -/
def rSL (ww : World) (K : PySem.W.Frag) (g : LF) : TS := fun D σ H => ∃ G ρ ρ' ds, Rl ww K G σ ρ H ∧ g ρ = some (ds, ρ') ∧ ∀ σ' p xs G' H', Rl ww K G' σ' ρ' H' → Sx G σ ρ H G' σ' ρ' H' → H' p = some (.lst xs) → G' p = none → H p = none → DaA K G' xs ds → D.rt (.ref p) H'
def DSL (X : Cx) (st : List Stmt) (g : LF) : Prop := PSs X st (rSL X.w X.K g)
def fThen (g : SF) (h : LF) : LF := fun ρ => match g ρ with
  | some (.nx ρ1) => h ρ1
  | _ => none
section
variable {X : Cx}
theorem dsl_ret {e : Expr} {f : LF} {pos : Pos} (h : DN X e f) : DSL X [.Return (some e) pos] f := by
  refine pss_imp (pss_one (ps_ret h)) ?_
  rintro D σ H ⟨G, ρ, ρ', ds, R, hf, k⟩
  exact ⟨G, ρ, ρ', ds, R, hf, fun p xs G' H' R' s' h1 h2 h3 h4 h5 => k σ p xs G' H' R' s' h1 h2 h4 h5⟩
theorem dsl_cons {st : Stmt} {rest : List Stmt} {g : SF} {h : LF} (h1 : DS X st g) (h2 : DSL X rest h) : DSL X (st :: rest) (fThen g h) := by
  refine pss_imp (pss_cons h1 h2) ?_
  rintro D σ H ⟨G, ρ, ρ', ds, R, hf, k⟩
  unfold fThen at hf
  split at hf
  · rename_i ρ1 e1
    exact ⟨G, ρ, .nx ρ1, R, e1, fun σ1 G1 H1 R1 s1 => ⟨G1, ρ1, ρ', ds, R1, hf, fun σ' p xs G' H' R' s' z1 z2 z3 z4 => k σ' p xs G' H' R' (s1.trans s') z1 z2 (backN s1 z3) z4⟩⟩
  · cases hf
end
abbrev FL := List Sl → Option (List PyData × List Sl)
def spL (ww : World) (K : PySem.W.Frag) (n : Nat) (F : FL) : Sp := fun vs H Q _ => vs.length = n ∧ ∃ G sls sls' ds, Rl ww K G (vs.map some) sls H ∧ F sls = some (ds, sls') ∧
  ∀ p xs G' H', Rl ww K G' (vs.map some) sls' H' → Sx G (vs.map some) sls H G' (vs.map some) sls' H' → H' p = some (.lst xs) → G' p = none → H p = none → DaA K G' xs ds → Q (.ref p) H'
def fBodyL (m : Nat) (g : LF) : FL := fun sls => match g (sls ++ List.replicate m .un) with
  | some (ds, ρ') => some (ds, backP sls.length ρ')
  | none => none
section
variable {P : Program} {w : World} {K : PySem.W.Frag} {mg : Str → Option Value} {base : Heap} {f : Addr} {fd : FuncData}
theorem okL {x qual : Str} {pa : Arguments} {bd : List Stmt} {sc : Scope} {dvs : List V} {kws : List (Str × V)} {N ps : List Str} {k : Nat} {g : LF} (F : FunD K x qual pa bd sc dvs kws f fd) (S : FnScope N ps sc)
    (body : ∀ (cdw : Value) (A : Around) (outer : List PySem.Env) (s : Shared) (H : Hp) (E : XK), Gd (A.deeper (envOfC qual sc s.heap.objs.size f cdw)) → Room k (A.deeper (envOfC qual sc s.heap.objs.size f cdw)) → DSL (cxOf CX0 P w K mg base N qual sc f cdw A outer s H E).nox bd g) :
    FnG P w K mg base (k + 1) f fd ps (spL w K ps.length (fBodyL (N.length - ps.length) g)) := by
  refine okG F S (fun vs H Q E h => h.1) fun cdv A outer s H vs Q E hG hR h => ⟨rSL w K g, body cdv A outer s H E hG hR, ?_⟩
  obtain ⟨hl, G, sls, sls', ds, R, hf, q⟩ := h
  have hls : vs.length = sls.length := by have := R.len; rwa [List.length_map] at this
  have es : start N vs = vs.map some ++ List.replicate (N.length - ps.length) none := by
    show vs.map some ++ List.replicate (N.length - vs.length) none = _
    rw [hl]
  have R0 : Rl w K G (vs.map some ++ List.replicate (N.length - ps.length) none) (sls ++ List.replicate (N.length - ps.length) .un) H := by
    refine R.alike (by simp [hls]) fun i s hs h => ?_
    have z := app_un hs h
    have li : i < sls.length := (List.getElem?_eq_some_iff.mp z).1
    exact ⟨z, by rw [List.getElem?_append_left (by simp [hls, li])]⟩
  rw [es]
  unfold fBodyL at hf
  split at hf
  · rename_i d' ρ' e
    cases hf
    exact ⟨G, _, _, _, R0, e, fun σ' p xs G' H' R' s' z1 z2 z3 z4 => let ⟨y1, y2⟩ := fin_of hls R' s'; q p xs G' H' y1 y2 z1 z2 z3 z4⟩
  · cases hf
end
def fCaL (n : Nat) (F : FL) (f : AF) : LF := fun ρ => match f ρ with
  | none => none
  | some (as, ρ1) => if (as.filterMap (ownJ ρ1)).Nodup ∧ as.length = n then match F (as.map (toSl ρ1)) with
      | none => none
      | some (d, sls') => if sls'.length = as.length then some (d, backC ρ1 as sls') else none
    else none
theorem backC_own {K : PySem.W.Frag} {G G' H H' : Hp} {σ : L2.St} {vs : List V} {ρ : Rho} {as : List Ag} {ss : List Sl} (ha : Paired (AgR K G σ) as vs) (hl : as.length = ss.length) (s : Sx G (vs.map some) (as.map (toSl ρ)) H G' (vs.map some) ss H') {j : Nat} {b : Bool} {ds : Cn} (h : (backC ρ as ss)[j]? = some (.own b ds)) : ∃ es, ρ[j]? = some (.own b es) ∧ ∀ r, reg r ds = reg r es := by
  rcases backC_at (by simp) hl h with ⟨h1, _⟩ | ⟨i, b', c0, ds', ea, h2, h3, e⟩
  · exact ⟨_, h1, fun _ => rfl⟩
  · cases e
    obtain ⟨⟨es, h4, hr⟩, _⟩ := s.par i _ h3
    have h5 : (as.map (toSl ρ))[i]? = some (.own true c0) := by
      rw [List.getElem?_map, ea]
      show some (toSl ρ (.v j)) = _
      unfold toSl
      dsimp only
      rw [h2]
    rw [h5] at h4
    cases h4
    exact ⟨_, h2, hr⟩
section
variable {X : Cx} {k : Nat} {f : Addr} {fd : FuncData} {ps : List Str} {n : Nat} {x : Str} {p pos : Pos} {e : Expr} {es : List Expr} {g : AF}
theorem tCallL_of {ww : World} {K : PySem.W.Frag} {F : FL} {g : AF} {n : Nat} : ∀ σ H Q, rF ww K (fCaL n F g) σ H Q → tCall (spL ww K n F) [] E0 (rAs ww K g) σ H Q := by
  rintro σ H Q ⟨G, ρ, ρ', d, R, hf, q⟩
  unfold fCaL at hf
  split at hf
  · cases hf
  · rename_i as ρ1 h1
    split at hf
    · rename_i nd
      split at hf
      · cases hf
      · rename_i d' ss h2
        split at hf
        · rename_i hl
          cases hf
          refine ⟨G, ρ, ρ1, as, R, h1, fun vs G1 H1 R1 s1 q1 => ?_⟩
          show spL ww K n F (vs ++ []) H1 Q E0
          rw [List.append_nil]
          refine ⟨by rw [← paired_len q1]; exact nd.2, G1, _, ss, _, call_in R1 q1 nd.1, h2, fun p xs G2 H2 R2 s2 z1 z2 z3 z4 => ?_⟩
          obtain ⟨R3, s3⟩ := call_out R1 q1 hl.symm R2 s2
          refine q p xs G2 H2 R3 (s1.trans s3) z1 z2 (fun ⟨j, c, fs, r, y1, y2, y4⟩ => ?_) (backN s1 z3) z4
          obtain ⟨es, y3, y5⟩ := backC_own q1 hl.symm s2 y1
          exact noOw R1 z3 ⟨j, c, es, r, y3, y2, y5 r ▸ y4⟩
        · cases hf
    · cases hf
/-- f(e, ..) gives a new list -/
theorem dn_call {F : FL} (Fk : FnG X.prog X.w X.K X.mg X.base k f fd ps (spL X.w X.K n F)) (hG : Gd X.A) (hR : Room k X.A) (hg : Gl X x) (hm : X.mg x = some (.ref f)) (hk : PySem.W.keepIn X.K (.ref f) = true) (hb : Binds X.K fd ps [])
    (ha : DAs X (e :: es) g) (hdb : (x == ("__debug__" : Str)) = false := by decide)
    (he : starEach (e :: es) X.env = (false, eval e X.env) :: starEach es X.env := by rfl) (hpl : (backTo pos (starEach es X.env)).any (·.1) = false := by rfl) :
    DN X (.Call (.Name x p) (e :: es) [] pos) (fCaL n F g) :=
  pe_imp (pe_callG Fk hG hR hg hm hk hb ha hdb he hpl) tCallL_of
/-! ### keywords alone -/
def DKs (X : Cx) (kws : List Keyword) (f : AF) : Prop := PK X kws (rAs X.w X.K f)
theorem pk_imp {kws : List Keyword} {t t' : TA} (h : PK X kws t) (i : ∀ σ H Q, t' σ H Q → t σ H Q) : PK X kws t' := ⟨fun pos pins s σ H Q I w => h.run pos pins s σ H Q I (i _ _ _ w)⟩
theorem dks_nil : DKs X [] aNil := by
  refine pk_imp pk_nil ?_
  rintro σ H Q ⟨G, ρ, ρ', ds, R, hf, k⟩
  cases hf
  exact k [] G H R (Sx.refl _ _ _ _) .nil
theorem dks_cons {kws : List Keyword} {nm : Option Str} {kpos : Pos} {f : GF} {h : AF} (he : DG X e f) (hs : DKs X kws h) : DKs X (⟨nm, e, kpos⟩ :: kws) (aCons f h) := by
  refine pk_imp (pk_cons he hs) ?_
  rintro σ H Q ⟨G, ρ, ρ', ds, R, hf, k⟩
  unfold aCons at hf
  split at hf
  · cases hf
  · rename_i a ρ1 h1
    split at hf
    · cases hf
    · rename_i as ρ2 h2
      cases hf
      exact ⟨G, ρ, ρ1, a, R, h1, fun v G1 H1 R1 s1 q1 => ⟨G1, ρ1, _, as, R1, h2, fun vs G2 H2 R2 s2 q2 => k _ G2 H2 R2 (s1.trans s2) (.cons (q1.same s2.gr) q2)⟩⟩
def permL {α : Type} (π : List Nat) (xs : List α) : List α := π.filterMap fun i => xs[i]?
theorem permP {α β : Type} {F : α → β → Prop} {as : List α} {bs : List β} (h : Paired F as bs) : ∀ π : List Nat, Paired F (permL π as) (permL π bs)
  | [] => .nil
  | i :: π => by
    unfold permL
    rw [List.filterMap_cons, List.filterMap_cons]
    cases q : as[i]? with
    | none =>
      have z : bs[i]? = none := by
        rw [List.getElem?_eq_none_iff] at q ⊢
        rw [← paired_len h]; exact q
      rw [z]
      exact permP h π
    | some a =>
      obtain ⟨b, e, z⟩ := paired_at h q
      rw [e]
      exact .cons z (permP h π)
def fCaK (n : Nat) (F : FF) (π : List Nat) (g : AF) : EF := fCa n F fun ρ => match g ρ with
  | some (as, ρ') => some (permL π as, ρ')
  | none => none
theorem pe_callKG {sp : Sp} {ks : List Str} {kws : List Keyword} {tk : TA} {gg : List Value → List Value → List Value} {gV : List V → List V → List V} (Fk : FnG X.prog X.w X.K X.mg X.base k f fd ps sp) (hG : Gd X.A) (hR : Room k X.A) (hg : Gl X x) (hm : X.mg x = some (.ref f))
    (hk : PySem.W.keepIn X.K (.ref f) = true) (hb : KBinds X.K fd ps ks gg gV) (hkw : PK X kws tk) (hall : (backToKw pos (keywordEach kws X.env)).all (·.1.isSome) = true := by rfl)
    (hks : (backToKw pos (keywordEach kws X.env)).filterMap (·.1) = ks := by rfl) (hdb : (x == ("__debug__" : Str)) = false := by decide) (hpl : ((backTo pos (starEach [] X.env)).any (·.1) || (backToKw pos (keywordEach kws X.env)).any (·.1.isNone)) = false := by rfl) :
    PE X (.Call (.Name x p) [] kws pos) (fun σ H Q => tk σ H fun zs H1 => sp (gV [] zs) H1 Q E0) := by
  constructor
  intro pins s σ H Q I h
  refine wpAny_Call_Name_kw (ld_glob I hg hm (PySem.W.callWith_KW0 (h₀ := X.base) I.ok.mod.kin hk hall (thn (hkw.run pos pins s σ H _ I h) ?_) hpl) hdb)
  rintro ws s2 ⟨zs, H2, I2, rz, q2⟩
  refine ⟨I2.kIn, ?_⟩
  rw [hks]
  have r2 := hb.rel .nil rz
  have hl : (gg [] ws).length = ps.length := r2.length.symm.trans (Fk.len _ _ _ _ q2)
  apply wpAny_call
  refine codeAny_mono (Fk.go X.A X.stack s2 H2 ⟨[], ks.zip ws⟩ (gg [] ws) (gV [] zs) Q E0 hG hR I2.env0 (hb.to s2 [] ws I2.kIn hl) r2 q2) ?_
  intro res s' z
  match res, z with
  | .error er, z => exact False.elim z
  | .ok (.ret u), z => exact I2.after z
  | .ok .next, z => exact False.elim z
  | .ok .brk, z => exact False.elim z
  | .ok .cont, z => exact False.elim z
theorem kbinds_of {K : PySem.W.Frag} {y qual : Str} {pa : Arguments} {bd : List Stmt} {sc : Scope} {kws : List (Str × V)} {ks : List Str} (π : List Nat) (Fd : FunD K y qual pa bd sc [] kws f fd)
    (h : ∀ (kV doc pm : Value) (an : Option Addr) (cdv ct : Value) (ws : List Value), (permL π ws).length = ps.length → bindArgs (PySem.W.fnOf y qual pa bd sc .none kV doc pm an cdv ct) ⟨[], ks.zip ws⟩ = pure (ps.zip (permL π ws))) :
    KBinds K fd ps ks (fun us ws => if us = [] then permL π ws else []) (fun vs zs => if vs = [] then permL π zs else []) ∨ ps = [] := by
  by_cases hp : ps = []
  · exact .inr hp
  refine .inl ⟨fun s us ws X hl => ?_, fun {vs us zs ws} rv rz => ?_⟩
  · obtain ⟨oc, od, dV, kV, doc, pm, an, cdv, ct, osl, e1, lk, hcd, hD, hK⟩ := Fd.ex
    subst e1
    rcases hD with ⟨_, e2⟩ | ⟨e, _⟩
    · subst e2
      split at hl
      · rename_i e3
        subst e3
        rw [if_pos rfl]
        exact BindsTo.of_looks fun M => PySem.W.Looks.of_pure (h kV doc pm an cdv ct ws hl)
      · exact (hp (List.length_eq_zero_iff.mp hl.symm)).elim
    · exact absurd rfl e
  · have e : (vs = []) ↔ us = [] := by
      cases rv with
      | nil => simp
      | cons _ _ => simp
    by_cases q : vs = []
    · rw [if_pos q, if_pos (e.mp q)]
      clear hp h
      induction π with
      | nil => exact .nil
      | cons i π ih =>
        unfold permL at ih ⊢
        rw [List.filterMap_cons, List.filterMap_cons]
        cases q2 : zs[i]? with
        | none =>
          have z : ws[i]? = none := by
            rw [List.getElem?_eq_none_iff] at q2 ⊢
            rw [← rz.length]; exact q2
          rw [z]
          exact ih
        | some a =>
          obtain ⟨u, z, r⟩ := rz.get q2
          rw [z]
          exact .cons r ih
    · rw [if_neg q, if_neg (fun z => q (e.mpr z))]
      exact .nil
theorem de_callK {F : FF} {ks : List Str} {kws : List Keyword} (π : List Nat) (Fk : FnG X.prog X.w X.K X.mg X.base k f fd ps (spD X.w X.K n F)) (hG : Gd X.A) (hR : Room k X.A) (hg : Gl X x) (hm : X.mg x = some (.ref f))
    (hk : PySem.W.keepIn X.K (.ref f) = true) (hb : KBinds X.K fd ps ks (fun us ws => if us = [] then permL π ws else []) (fun vs zs => if vs = [] then permL π zs else [])) (ha : DKs X kws g) (hall : (backToKw pos (keywordEach kws X.env)).all (·.1.isSome) = true := by rfl)
    (hks : (backToKw pos (keywordEach kws X.env)).filterMap (·.1) = ks := by rfl) (hdb : (x == ("__debug__" : Str)) = false := by decide) (hpl : ((backTo pos (starEach [] X.env)).any (·.1) || (backToKw pos (keywordEach kws X.env)).any (·.1.isNone)) = false := by rfl) :
    DE X (.Call (.Name x p) [] kws pos) (fCaK n F π g) := by
  refine pe_imp (pe_callKG Fk hG hR hg hm hk hb ha hall hks hdb hpl) ?_
  intro σ H Q h
  have h2 := tCall_of σ H Q h
  show rAs X.w X.K g σ H fun zs H1 => spD X.w X.K n F (permL π zs) H1 Q E0
  obtain ⟨G, ρ, ρ', as, R, hf, q⟩ := h2
  dsimp only at hf
  split at hf
  · rename_i as' ρ1 e1
    cases hf
    refine ⟨G, ρ, _, as', R, e1, fun vs G' H' R' s' pq => ?_⟩
    have z : spD X.w X.K n F (permL π vs ++ []) H' Q E0 := q (permL π vs) G' H' R' s' (permP pq π)
    rw [List.append_nil] at z
    exact z
  · cases hf
end
end DL

set_option Elab.async false
set_option linter.all false
set_option maxRecDepth 100000
set_option maxHeartbeats 4000000
/-! Short forms; callees; three names at once where a block sees some. -/
namespace DL
open PySem PySem.Spec PyProof.Rows L2 GX StX PySem.Calls
variable [DL.FT]
section
variable {X : Cx}
theorem ev (i : Nat) {x : Str} {pos : Pos} (hN : X.N[i]? = some x := by rfl) (hv : Vis X.env.scope x := by first | exact Or.inl rfl | exact Or.inr (Or.inl rfl) | exact Or.inr (Or.inr rfl))
    (hd : (x == ("__debug__" : Str)) = false := by decide) (hcd : (x == ("__classdict__" : Str)) = false := by decide) : DE X (.Name x pos) (fVar i) := de_var hN hv hd hcd
theorem gv (i : Nat) {x : Str} {pos : Pos} (hN : X.N[i]? = some x := by rfl) (hv : Vis X.env.scope x := by first | exact Or.inl rfl | exact Or.inr (Or.inl rfl) | exact Or.inr (Or.inr rfl))
    (hd : (x == ("__debug__" : Str)) = false := by decide) (hcd : (x == ("__classdict__" : Str)) = false := by decide) : DG X (.Name x pos) (gVar i) := dg_var hN hv hd hcd
theorem sv (i : Nat) {x : Str} {pos : Pos} (hN : X.N[i]? = some x := by rfl) (hv : Vis X.env.scope x := by first | exact Or.inl rfl | exact Or.inr (Or.inl rfl) | exact Or.inr (Or.inr rfl))
    (hd : (x == ("__debug__" : Str)) = false := by decide) (hcd : (x == ("__classdict__" : Str)) = false := by decide) : DG X (.Name x pos) (gScr i) := dg_scr hN hv hd hcd
theorem tn (i : Nat) {x : Str} {pos : Pos} (nd : X.N.Nodup) (hN : X.N[i]? = some x := by rfl) (hx : Loc X.env.scope x := by first | exact Or.inl rfl | exact Or.inr rfl)
    (hf : X.fn x = true ∨ X.env.scope.names.lookup x = some .local := by first | exact .inl rfl | exact .inr rfl) : DTg X (.Name x pos) (tName i) := dtg_name nd hN hx hf
theorem kn (i : Nat) {x : Str} {pos : Pos} (nd : X.N.Nodup) (hN : X.N[i]? = some x := by rfl) (hx : Loc X.env.scope x := by first | exact Or.inl rfl | exact Or.inr rfl)
    (hf : X.fn x = true ∨ X.env.scope.names.lookup x = some .local := by first | exact .inl rfl | exact .inr rfl) : PG X (.Name x pos) (gName i) := pg_name nd hN hx hf
theorem sset (i : Nat) {x : Str} {e : Expr} {f : EF} {pos pos' : Pos} (nd : X.N.Nodup) (he : DE X e f) (hN : X.N[i]? = some x := by rfl) (hx : Loc X.env.scope x := by first | exact Or.inl rfl | exact Or.inr rfl)
    (hs : swapsWith e (some (.Name x pos')) pos.line X.env = pure false := by rfl) (hf : X.fn x = true ∨ X.env.scope.names.lookup x = some .local := by first | exact .inl rfl | exact .inr rfl) :
    DS X (.Assign [.Name x pos'] e pos) (fAsg f (tName i)) := ds_set nd hN hx he hs hf
theorem shold (i : Nat) {x : Str} {e : Expr} {f : LF} {pos pos' : Pos} (nd : X.N.Nodup) (he : DN X e f) (hN : X.N[i]? = some x := by rfl) (hx : Loc X.env.scope x := by first | exact Or.inl rfl | exact Or.inr rfl)
    (hs : swapsWith e (some (.Name x pos')) pos.line X.env = pure false := by rfl) (hf : X.fn x = true ∨ X.env.scope.names.lookup x = some .local := by first | exact .inl rfl | exact .inr rfl) :
    DS X (.Assign [.Name x pos'] e pos) (fHold i f) := ds_hold nd hN hx he hs hf
theorem sapp (j : Nat) {x : Str} {e : Expr} {f : EF} {p apos cpos pos : Pos} (he : DE X e f) (hN : X.N[j]? = some x := by rfl) (hv : Vis X.env.scope x := by first | exact Or.inl rfl | exact Or.inr (Or.inl rfl) | exact Or.inr (Or.inr rfl))
    (hd : (x == ("__debug__" : Str)) = false := by decide) (hcd : (x == ("__classdict__" : Str)) = false := by decide)
    (hbase : attributeBase (.Name x p) "append" X.env (eval (.Name x p) X.env) = eval (.Name x p) X.env := by rfl)
    (hfew : ((backTo cpos (starEach [e] X.env)).all (fun x => !x.1) && (backToKw cpos (keywordEach [] X.env)).all (fun x => x.1.isSome)
      && decide ([e].length + ([] : List Keyword).length + (if ([] : List Keyword).isEmpty then 0 else 1) < 30)) = true := by rfl)
    (hline : (apos.endLine == cpos.line) = true := by rfl) (hs : starEach [e] X.env = (false, eval e X.env) :: starEach [] X.env := by rfl) (hplain : (backTo cpos (starEach [] X.env)).any (·.1) = false := by rfl)
    (hsw : swapsWith (.Call (.Attribute (.Name x p) "append" apos) [e] [] cpos) none pos.line X.env = pure false := by rfl) :
    DS X (.Expr (.Call (.Attribute (.Name x p) "append" apos) [e] [] cpos) pos) (fApp j f) := ds_app hN hv he hd hcd hbase hfew hline hs hplain hsw
theorem sext (j : Nat) {x : Str} {e : Expr} {f : EF} {p apos cpos pos : Pos} (he : DE X e f) (hN : X.N[j]? = some x := by rfl) (hv : Vis X.env.scope x := by first | exact Or.inl rfl | exact Or.inr (Or.inl rfl) | exact Or.inr (Or.inr rfl))
    (hd : (x == ("__debug__" : Str)) = false := by decide) (hcd : (x == ("__classdict__" : Str)) = false := by decide)
    (hbase : attributeBase (.Name x p) "extend" X.env (eval (.Name x p) X.env) = eval (.Name x p) X.env := by rfl)
    (hfew : ((backTo cpos (starEach [e] X.env)).all (fun x => !x.1) && (backToKw cpos (keywordEach [] X.env)).all (fun x => x.1.isSome)
      && decide ([e].length + ([] : List Keyword).length + (if ([] : List Keyword).isEmpty then 0 else 1) < 30)) = true := by rfl)
    (hline : (apos.endLine == cpos.line) = true := by rfl) (hs : starEach [e] X.env = (false, eval e X.env) :: starEach [] X.env := by rfl) (hplain : (backTo cpos (starEach [] X.env)).any (·.1) = false := by rfl)
    (hsw : swapsWith (.Call (.Attribute (.Name x p) "extend" apos) [e] [] cpos) none pos.line X.env = pure false := by rfl) :
    DS X (.Expr (.Call (.Attribute (.Name x p) "extend" apos) [e] [] cpos) pos) (fExt j f) := ds_ext hN hv he hd hcd hbase hfew hline hs hplain hsw
theorem tsub (j : Nat) {x : Str} {i : Expr} {f : EF} {p pos : Pos} (hi : DE X i f) (hN : X.N[j]? = some x := by rfl) (hv : Vis X.env.scope x := by first | exact Or.inl rfl | exact Or.inr (Or.inl rfl) | exact Or.inr (Or.inr rfl))
    (hd : (x == ("__debug__" : Str)) = false := by decide) (hcd : (x == ("__classdict__" : Str)) = false := by decide)
    (ha : ∀ v, assign (.Subscript (.Name x p) i pos) X.env v = (do
      let ov ← holding [v] (eval (.Name x p) X.env)
      let iv ← holding [v, ov] (eval i X.env)
      standAt pos
      holding [v, ov, iv] (setItem ov iv v)
      release [v, ov, iv] []) := by intro _; rfl) : DTg X (.Subscript (.Name x p) i pos) (tSub j f) := dtg_sub hN hv hi hd hcd ha
theorem eslen (i : Nat) {x : Str} {p p2 pos : Pos} (hm : X.mg "len" = none) (hN : X.N[i]? = some x := by rfl) (hv : Vis X.env.scope x := by first | exact Or.inl rfl | exact Or.inr (Or.inl rfl) | exact Or.inr (Or.inr rfl)) (hg : Gl X "len" := by rfl)
    (hd : (x == ("__debug__" : Str)) = false := by decide) (hcd : (x == ("__classdict__" : Str)) = false := by decide) (hs : starEach [.Name x p2] X.env = (false, eval (.Name x p2) X.env) :: starEach [] X.env := by rfl) :
    DE X (.Call (.Name "len" p) [.Name x p2] [] pos) (fScrLen i) := de_slen hN hv hg hm hd hcd hs
theorem esix (i : Nat) {x : Str} {e : Expr} {f : EF} {p2 pos : Pos} (he : DE X e f) (hN : X.N[i]? = some x := by rfl) (hv : Vis X.env.scope x := by first | exact Or.inl rfl | exact Or.inr (Or.inl rfl) | exact Or.inr (Or.inr rfl))
    (hd : (x == ("__debug__" : Str)) = false := by decide) (hcd : (x == ("__classdict__" : Str)) = false := by decide) (hs : PlainIx e := by exact fun _ _ => rfl) : DE X (.Subscript (.Name x p2) e pos) (fScrIx i f) := de_six hN hv he hd hcd hs
theorem essl (i : Nat) {x : Str} {hi : Int} {j} {p1 p2 p3 pos : Pos} (hN : X.N[i]? = some x := by rfl) (hv : Vis X.env.scope x := by first | exact Or.inl rfl | exact Or.inr (Or.inl rfl) | exact Or.inr (Or.inr rfl))
    (hd : (x == ("__debug__" : Str)) = false := by decide) (hcd : (x == ("__classdict__" : Str)) = false := by decide) :
    DE X (.Subscript (.Name x p1) (.Slice none (some (.Constant (.int hi) j p3)) none p2) pos) (fScrTo i hi) := de_ssl hN hv hd hcd
end
/-! ### callees -/
def Cal (P : Program) (w : World) (K : PySem.W.Frag) (mg : Str → Option Value) (base : Heap) (k : Nat) (x : Str) (ps : List Str) (sp : Sp) : Prop :=
  ∃ f fd, FnG P w K mg base k f fd ps sp ∧ mg x = some (.ref f) ∧ PySem.W.keepIn K (.ref f) = true ∧ Binds K fd ps []
theorem Cal.mono {P : Program} {w : World} {K : PySem.W.Frag} {mg : Str → Option Value} {base : Heap} {j k : Nat} {x : Str} {ps : List Str} {sp : Sp} (c : Cal P w K mg base j x ps sp) (h : j ≤ k) : Cal P w K mg base k x ps sp :=
  let ⟨f, fd, F, a, b, d⟩ := c
  ⟨f, fd, F.mono h, a, b, d⟩
def CalK (P : Program) (w : World) (K : PySem.W.Frag) (mg : Str → Option Value) (base : Heap) (k : Nat) (x : Str) (ps ks : List Str) (π : List Nat) (sp : Sp) : Prop :=
  ∃ f fd, FnG P w K mg base k f fd ps sp ∧ mg x = some (.ref f) ∧ PySem.W.keepIn K (.ref f) = true ∧ KBinds K fd ps ks (fun us ws => if us = [] then permL π ws else []) (fun vs zs => if vs = [] then permL π zs else [])
theorem CalK.mono {P : Program} {w : World} {K : PySem.W.Frag} {mg : Str → Option Value} {base : Heap} {j k : Nat} {x : Str} {ps ks : List Str} {π : List Nat} {sp : Sp} (c : CalK P w K mg base j x ps ks π sp) (h : j ≤ k) : CalK P w K mg base k x ps ks π sp :=
  let ⟨f, fd, F, a, b, d⟩ := c
  ⟨f, fd, F.mono h, a, b, d⟩
section
variable {X : Cx} {k n : Nat} {x : Str} {ps : List Str} {p pos : Pos} {e : Expr} {es : List Expr} {g : AF}
theorem ecall {F : FF} (c : Cal X.prog X.w X.K X.mg X.base k x ps (spD X.w X.K n F)) (hG : Gd X.A) (hR : Room k X.A) (ha : DAs X (e :: es) g) (hg : Gl X x := by rfl) (hdb : (x == ("__debug__" : Str)) = false := by decide)
    (he : starEach (e :: es) X.env = (false, eval e X.env) :: starEach es X.env := by rfl) (hpl : (backTo pos (starEach es X.env)).any (·.1) = false := by rfl) :
    DE X (.Call (.Name x p) (e :: es) [] pos) (fCa n F g) := by
  obtain ⟨f, fd, Fk, hm, hk, hb⟩ := c
  exact de_call Fk hG hR hg hm hk hb ha hdb he hpl
theorem ncall {F : FL} (c : Cal X.prog X.w X.K X.mg X.base k x ps (spL X.w X.K n F)) (hG : Gd X.A) (hR : Room k X.A) (ha : DAs X (e :: es) g) (hg : Gl X x := by rfl) (hdb : (x == ("__debug__" : Str)) = false := by decide)
    (he : starEach (e :: es) X.env = (false, eval e X.env) :: starEach es X.env := by rfl) (hpl : (backTo pos (starEach es X.env)).any (·.1) = false := by rfl) :
    DN X (.Call (.Name x p) (e :: es) [] pos) (fCaL n F g) := by
  obtain ⟨f, fd, Fk, hm, hk, hb⟩ := c
  exact dn_call Fk hG hR hg hm hk hb ha hdb he hpl
theorem kcall {F : FF} {ks : List Str} {kws : List Keyword} {π : List Nat} (c : CalK X.prog X.w X.K X.mg X.base k x ps ks π (spD X.w X.K n F)) (hG : Gd X.A) (hR : Room k X.A) (ha : DKs X kws g) (hg : Gl X x := by rfl)
    (hall : (backToKw pos (keywordEach kws X.env)).all (·.1.isSome) = true := by rfl)
    (hks : (backToKw pos (keywordEach kws X.env)).filterMap (·.1) = ks := by rfl) (hdb : (x == ("__debug__" : Str)) = false := by decide)
    (hpl : ((backTo pos (starEach [] X.env)).any (·.1) || (backToKw pos (keywordEach kws X.env)).any (·.1.isNone)) = false := by rfl) :
    DE X (.Call (.Name x p) [] kws pos) (fCaK n F π g) := by
  obtain ⟨f, fd, Fk, hm, hk, hb⟩ := c
  exact de_callK π Fk hG hR hg hm hk hb ha hall hks hdb hpl
end
/-! ### methods by name -/
def tIndexD : OpM := fun d ds => match d with | .tuple _ => indexD d ds | _ => none
def lIndexD : OpM := fun d ds => match d with | .list _ => indexD d ds | _ => none
def tCountD : OpM := fun d ds => match d with | .tuple _ => countD d ds | _ => none
section
variable {X : Cx} {o e : Expr} {es : List Expr} {f : GF} {g : AF} {apos cpos : Pos}
theorem mtindex (hu : X.A.units + 65 < cLine) (ho : DG X o f) (ha : DAs X (e :: es) g) (hbase : attributeBase o "index" X.env (eval o X.env) = eval o X.env := by rfl)
    (hfew : ((backTo cpos (starEach (e :: es) X.env)).all (fun x => !x.1) && (backToKw cpos (keywordEach [] X.env)).all (fun x => x.1.isSome)
      && decide ((e :: es).length + ([] : List Keyword).length + (if ([] : List Keyword).isEmpty then 0 else 1) < 30)) = true := by rfl)
    (hline : (apos.endLine == cpos.line) = true := by rfl) (hs : starEach (e :: es) X.env = (false, eval e X.env) :: starEach es X.env := by rfl) (hplain : (backTo cpos (starEach es X.env)).any (·.1) = false := by rfl) :
    DE X (.Call (.Attribute o "index" apos) (e :: es) [] cpos) (fMe "tuple" tIndexD f g) :=
  de_me PySem.F.plainAttrs_tuple PySem.F.slot_tuple_index PySem.F.type_tuple_index (me_tindex hu) ho ha hbase hfew hline hs hplain
theorem mlindex (hu : X.A.units + 65 < cLine) (ho : DG X o f) (ha : DAs X (e :: es) g) (hbase : attributeBase o "index" X.env (eval o X.env) = eval o X.env := by rfl)
    (hfew : ((backTo cpos (starEach (e :: es) X.env)).all (fun x => !x.1) && (backToKw cpos (keywordEach [] X.env)).all (fun x => x.1.isSome)
      && decide ((e :: es).length + ([] : List Keyword).length + (if ([] : List Keyword).isEmpty then 0 else 1) < 30)) = true := by rfl)
    (hline : (apos.endLine == cpos.line) = true := by rfl) (hs : starEach (e :: es) X.env = (false, eval e X.env) :: starEach es X.env := by rfl) (hplain : (backTo cpos (starEach es X.env)).any (·.1) = false := by rfl) :
    DE X (.Call (.Attribute o "index" apos) (e :: es) [] cpos) (fMe "list" lIndexD f g) :=
  de_me PySem.F.plainAttrs_list PySem.F.slot_list_index PySem.F.type_list_index (me_lindex hu) ho ha hbase hfew hline hs hplain
theorem mtcount (ho : DG X o f) (ha : DAs X (e :: es) g) (hbase : attributeBase o "count" X.env (eval o X.env) = eval o X.env := by rfl)
    (hfew : ((backTo cpos (starEach (e :: es) X.env)).all (fun x => !x.1) && (backToKw cpos (keywordEach [] X.env)).all (fun x => x.1.isSome)
      && decide ((e :: es).length + ([] : List Keyword).length + (if ([] : List Keyword).isEmpty then 0 else 1) < 30)) = true := by rfl)
    (hline : (apos.endLine == cpos.line) = true := by rfl) (hs : starEach (e :: es) X.env = (false, eval e X.env) :: starEach es X.env := by rfl) (hplain : (backTo cpos (starEach es X.env)).any (·.1) = false := by rfl) :
    DE X (.Call (.Attribute o "count" apos) (e :: es) [] cpos) (fMe "tuple" tCountD f g) :=
  de_me PySem.F.plainAttrs_tuple PySem.F.slot_tuple_count PySem.F.type_tuple_count me_tcount ho ha hbase hfew hline hs hplain
end
/-! ### three names at once, some of them seen by blocks -/
section
variable {X : Cx}
theorem ds_par3c {i j l : Nat} {x y z : Str} {a b c : Expr} {f g h : IF} {px py pz pt pos : Pos} {kt k2 pt2} (hc : X.calm = true) (nd : X.N.Nodup) (hij : i ≠ j) (hil : i ≠ l) (hjl : j ≠ l)
    (gx : PG X (.Name x px) (gName i)) (gy : PG X (.Name y py) (gName j)) (gz : PG X (.Name z pz) (gName l)) (ha : DX X a f) (hb : DX X b g) (hcc : DX X c h)
    (hs : swapsWithSole [.Tuple [.Name x px, .Name y py, .Name z pz] kt pt] (.Tuple [a, b, c] k2 pt2) pos.line X.env = pure false := by rfl)
    (hw : swappedStores [.Tuple [.Name x px, .Name y py, .Name z pz] kt pt] (.Tuple [a, b, c] k2 pt2) X.env = pure none := by rfl)
    (st1 : starEach [a, b, c] X.env = (false, eval a X.env) :: starEach [b, c] X.env := by rfl) (st2 : starEach [b, c] X.env = (false, eval b X.env) :: starEach [c] X.env := by rfl) (st3 : starEach [c] X.env = (false, eval c X.env) :: starEach [] X.env := by rfl)
    (h1 : (assignEach [.Tuple [.Name x px, .Name y py, .Name z pz] kt pt] X.env).map (·.2) = [assign (.Tuple [.Name x px, .Name y py, .Name z pz] kt pt) X.env] := by rfl)
    (hn : (assignEach [.Name x px, .Name y py, .Name z pz] X.env).length = 3 := by rfl) (hst : (assignEach [.Name x px, .Name y py, .Name z pz] X.env).findIdx? (·.1) = none := by rfl)
    (m1 : (assignEach [.Name x px, .Name y py, .Name z pz] X.env).map (·.2) = assign (.Name x px) X.env :: (assignEach [.Name y py, .Name z pz] X.env).map (·.2) := by rfl)
    (m2 : (assignEach [.Name y py, .Name z pz] X.env).map (·.2) = assign (.Name y py) X.env :: (assignEach [.Name z pz] X.env).map (·.2) := by rfl)
    (m3 : (assignEach [.Name z pz] X.env).map (·.2) = assign (.Name z pz) X.env :: (assignEach [] X.env).map (·.2) := by rfl) :
    DS X (.Assign [.Tuple [.Name x px, .Name y py, .Name z pz] kt pt] (.Tuple [a, b, c] k2 pt2) pos) (fPar3 i j l f g h) := by
  refine ps_imp (ps_asg (pe_tup (pa_cons ha (pa_cons hb (pa_cons hcc pa_nil st3) st2) st1)) (pg_tup hc (pgs_cons gx (pgs_cons gy (pgs_cons gz pgs_nil m3) m2) m1) hn hst) hs hw h1) ?_
  rintro D σ H ⟨G, ρ, o, R, hf, k⟩
  unfold fPar3 at hf
  split at hf
  · cases hf
  · rename_i ia ρ1 e1
    split at hf
    · cases hf
    · rename_i ib ρ2 e2
      split at hf
      · cases hf
      · rename_i ic ρ3 e3
        cases hf
        refine ⟨G, ρ, ρ1, ia, R, e1, fun v1 G1 H1 R1 s1 q1 => ⟨G1, ρ1, ρ2, ib, R1, e2, fun v2 G2 H2 R2 s2 q2 => ⟨G2, ρ2, ρ3, ic, R2, e3, fun v3 G3 H3 R3 s3 q3 => ?_⟩⟩⟩
        refine ⟨by show (3 : Nat) ≤ sizeLine; rw [sizeLine_eq]; omega, fun p np => ⟨p, [v1, v2, v3], rfl, .inl (.inl upd_same), rfl, ?_⟩⟩
        have a12 := q1.apart q2
        have a13 := (q1.keep s2).apart q3
        have a23 := q2.apart q3
        have p1 := (q1.keep s2).keep s3
        have p2 := (q2.keep s3).new (H0 := H) fun p n => backN s1 n
        have p3 := q3.new (H0 := H) fun p n => backN (s1.trans s2) n
        have st := (s1.trans s2).trans s3
        obtain ⟨Ra, sa, ka⟩ := ItR.store (i := i) R3 st p1
        have p2' := ka ib v2 a12 p2
        have p3' := ka ic v3 a13 p3
        obtain ⟨Rb, sb, kb⟩ := ItR.store (i := j) Ra sa p2'
        have p3'' := kb ic v3 a23 p3'
        obtain ⟨Rc, sc, _⟩ := ItR.store (i := l) Rb sb p3''
        have xm := Xt.more (p := p) (o := .tup [v1, v2, v3]) Rc.sub np
        have fin := k _ G3 _ (Rc.ext xm) (sc.trans (.ext xm))
        exact ⟨_, _, rfl, _, _, rfl, _, _, rfl, rfl, fin⟩
end
end DL

set_option Elab.async false
set_option linter.all false
set_option maxRecDepth 100000
set_option maxHeartbeats 4000000
/-! Calls with nothing given. -/
namespace DL
open PySem PySem.Spec PyProof.Rows L2 GX StX PySem.Calls
variable [DL.FT]
section
variable {X : Cx} {k n : Nat} {f : Addr} {fd : FuncData} {x : Str} {ps : List Str} {p pos : Pos} {sp : Sp}
theorem pe_call0G (F : FnG X.prog X.w X.K X.mg X.base k f fd ps sp) (hG : Gd X.A) (hR : Room k X.A) (hg : Gl X x) (hm : X.mg x = some (.ref f)) (hk : PySem.W.keepIn X.K (.ref f) = true) (hb : Binds X.K fd ps [])
    (hdb : (x == ("__debug__" : Str)) = false := by decide) : PE X (.Call (.Name x p) [] [] pos) (tCall sp [] E0 tNil) := by
  constructor
  intro pins s σ H Q I h
  apply wpAny_Call_Name_kw
  refine ld_glob I hg hm (PySem.W.callWith_K0 I.kIn hk ?_) hdb
  exact runG (us := []) F hG hR hb I .nil h
theorem ecall0 {F : FF} (c : Cal X.prog X.w X.K X.mg X.base k x ps (spD X.w X.K n F)) (hG : Gd X.A) (hR : Room k X.A) (hg : Gl X x := by rfl) (hdb : (x == ("__debug__" : Str)) = false := by decide) :
    DE X (.Call (.Name x p) [] [] pos) (fCa n F aNil) := by
  obtain ⟨f, fd, Fk, hm, hk, hb⟩ := c
  refine pe_imp (pe_call0G Fk hG hR hg hm hk hb hdb) ?_
  intro σ H Q h
  obtain ⟨G, ρ, ρ', as, R, hf, q⟩ := tCall_of σ H Q h
  cases hf
  exact q [] G H R (Sx.refl _ _ _ _) .nil
end
end DL

set_option Elab.async false
set_option linter.all false
set_option maxRecDepth 100000
set_option maxHeartbeats 4000000
/-! repr of a tuple. -/
namespace DL
open PySem PySem.Spec PyProof.Rows L2 GX StX PySem.Calls
variable [DL.FT]
section
variable {X : Cx}
def rReprT (K : PySem.W.Frag) : List V → Hp → VK → Prop := fun xs H Q => ∃ (p : Addr) (vs : List V) (ds : List PyData), xs = [.ref p] ∧ SqT K H p vs ∧ DdA K H vs ds ∧
  PyData.showableAll ds = true ∧ PyData.depthAll ds ≤ 60 ∧ (tupleText (PyData.shownAll ds)).length ≤ sizeLine ∧ Q (.str (tupleText (PyData.shownAll ds))) H
theorem call_reprT (hG : Gd X.A) (hu : X.A.units + 64 < cLine) : CallR X (.builtin "repr") (rReprT X.K) := by
  intro pins s σ H xs us Q I r h
  obtain ⟨p, vs, ds, rfl, hs, ha, hsh, hdep, hz, q⟩ := h
  cases r with
  | cons r1 r2 =>
    cases r2
    cases r1
    obtain ⟨its, rv, ⟨o, ho, hc, n, hd⟩, _⟩ := I.tuple hs
    obtain ⟨as, hr, hn⟩ := DdA.reads I ds _ its ha rv
    have hrl : ReadsAll s.heap its.toArray.toList ds as := by simpa using hr
    obtain ⟨bs, hb, hk⟩ := ReprAllK.of_readsAll (prog := X.prog) (w := X.w) hr hsh (fun _ => hn) (fun t ht => Nat.le_trans (tupleText_mem_le ht) hz)
    have hna : p ∉ bs := not_mem_of_deeper (Reads.tuple ho hc hd hrl) (n := PyData.depthAll ds) (by simp only [PyData.depth]; omega) hb
    refine call_repr_slot (T := "tuple") (idr := "tuple.__repr__") (by omega) ⟨o, ho, hc⟩ F.slot_tuple_repr ?_
    refine call_tuple_reprK (A := X.A.in1) (d := PyData.depthAll ds) ho hc hd hna (by simpa using hk) hG (fun b _ => Clear.nil b) (by show X.A.units + 1 + (PyData.depthAll ds + 1) < cLine; omega) (fun _ _ e => e) (fun h' u tk hkeep => ?_) hz
    exact ⟨_, _, rfl, .str _, H, I.kept (t' := tk) hkeep, ⟨_, rfl⟩, q⟩
def reprTD : OpN
  | [.tuple ds] => if (noLs ds && PyData.showableAll ds && decide (PyData.depthAll ds ≤ 60) && fits (tupleText (PyData.shownAll ds)).length) = true then some (.str (tupleText (PyData.shownAll ds))) else none
  | _ => none
theorem cl_reprT (hG : Gd X.A) (hu : X.A.units + 64 < cLine) : CallR X (.builtin "repr") (rCl X.w X.K reprTD) := by
  refine CallR.imp (call_reprT hG hu) ?_
  rintro xs H Q ⟨G, ds, r, sub, hd, h, k⟩
  unfold reprTD at h
  split at h
  · rename_i es
    split at h
    · rename_i hz
      cases h
      simp only [Bool.and_eq_true] at hz
      obtain ⟨⟨⟨z2, z3⟩, z4⟩, z5⟩ := hz
      obtain ⟨v, rfl, hv⟩ := pair1 hd
      obtain ⟨p, ys, rfl, hp, ha⟩ := bo_tup hv
      exact ⟨p, ys, es, rfl, (hp.same sub).sq, daa_dd (ha.same sub) z2, z3, of_decide_eq_true z4, fits_le z5, k _ G H (Xt.refl sub) (.str _)⟩
    · cases h
  · cases h
end
end DL

set_option Elab.async false
set_option linter.all false
set_option maxRecDepth 100000
set_option maxHeartbeats 4000000
/-! A box: a list of states and a list of lists of lines, changed in place. -/
namespace BX
open PySem PySem.Spec PyProof.Rows L2 GX StX DL
variable [DL.FT]
theorem ov_flat (o : Option Str) : flatV (ov o) = true := by cases o <;> rfl
theorem ovs_flat (l : List (Option Str)) : (l.map ov).all flatV = true := by
  rw [List.all_eq_true]
  intro x hx
  obtain ⟨o, _, rfl⟩ := List.mem_map.mp hx
  exact ov_flat o
theorem ov_eq (o : Option Str) (w : Str) : eqV (ov o) (.str w) = (o == some w) := by
  cases o with
  | none => rfl
  | some s => rfl
/-- where it stands -/
def wIx (w : Str) (l : List (Option Str)) : Option Nat := l.findIdx? (· == some w)
theorem in_ov (w : Str) (l : List (Option Str)) : inV (.str w) (l.map ov) = (wIx w l).isSome := by
  unfold inV wIx
  rw [List.any_map]
  rw [Bool.eq_iff_iff, List.any_eq_true, Option.isSome_iff_ne_none, ne_eq, List.findIdx?_eq_none_iff]
  constructor
  · rintro ⟨x, hx, h⟩ q
    have := q x hx
    simp only [Function.comp, ov_eq] at h
    rw [h] at this
    cases this
  · intro q
    apply Classical.byContradiction
    intro n
    apply q
    intro x hx
    cases e : (x == some w) with
    | false => rfl
    | true => exact (n ⟨x, hx, by simp only [Function.comp, ov_eq]; exact e⟩).elim
theorem wIx_facts {w : Str} {l : List (Option Str)} {j : Nat} (h : wIx w l = some j) : j < l.length ∧ (l.map ov)[j]? = some (.str w) ∧ ∀ (m : Nat) (z : V), m < j → (l.map ov)[m]? = some z → eqV z (.str w) = false := by
  obtain ⟨hj, h1, h2⟩ := List.findIdx?_eq_some_iff_getElem.mp h
  refine ⟨hj, ?_, fun m z hm hz => ?_⟩
  · rw [List.getElem?_map, List.getElem?_eq_getElem hj, eq_of_beq h1]
    rfl
  · rw [List.getElem?_map, List.getElem?_eq_getElem (Nat.lt_trans hm hj)] at hz
    cases hz
    rw [ov_eq]
    have := h2 m hm
    simpa using this
/-- all but these are as they were -/
def Fr (as : List Addr) (H H' : Hp) : Prop := ∀ c o, c ∉ as → H c = some o → H' c = some o
theorem Fr.refl (as : List Addr) (H : Hp) : Fr as H H := fun _ _ _ h => h
theorem Fr.trans {as : List Addr} {H H1 H2 : Hp} (a : Fr as H H1) (b : Fr as H1 H2) : Fr as H H2 := fun c o n h => b c o n (a c o n h)
theorem Fr.upd {as : List Addr} {H : Hp} {c : Addr} {o : HO} (h : c ∈ as ∨ H c = none) : Fr as H (upd H c o) := fun d u n e => by
  rw [upd_ne]
  · exact e
  · rintro rfl
    rcases h with h | h
    · exact n h
    · rw [h] at e; cases e
theorem sqT_fr {K : PySem.W.Frag} {as : List Addr} {H H' : Hp} {a : Addr} {xs : List V} (h : SqT K H a xs) (f : Fr as H H') (l : ∀ c ∈ as, ∃ ys, H c = some (.lst ys)) : SqT K H' a xs := by
  rcases h with (h | ⟨o, h⟩) | h
  · refine .inl (.inl (f _ _ (fun n => ?_) h))
    obtain ⟨ys, e⟩ := l a n
    rw [h] at e; cases e
  · refine .inl (.inr ⟨o, f _ _ (fun n => ?_) h⟩)
    obtain ⟨ys, e⟩ := l a n
    rw [h] at e; cases e
  · exact .inr h
/-- the row of a table at a state -/
structure Tb (K : PySem.W.Frag) (H : Hp) (t : Addr) (st v a : Int) (hs : List Int) : Prop where
  ex : ∃ (x : V) (rows row hh : Addr) (xs : List V), SqT K H t [x, .ref rows] ∧ SqT K H rows xs ∧ atI xs st = some (.ref row) ∧ SqT K H row [.int v, .int a, .ref hh] ∧ SqT K H hh (hs.map V.int)
theorem Bx.setS {H : Hp} {b p q : Addr} {rs : List Addr} {ss : List Int} {ls : List (List (Option Str))} (B : Bx H b p q rs ss ls) (ss' : List Int) (h : ss'.length = ls.length) : Bx (upd H p (.lst (ss'.map V.int))) b p q rs ss' ls := by
  have nd := B.nd
  simp only [List.nodup_cons, List.mem_cons, not_or] at nd
  obtain ⟨⟨n1, n2, n3⟩, ⟨n4, n5⟩, n6, n7⟩ := nd
  refine ⟨by rw [upd_ne n1]; exact B.hb, upd_same, by rw [upd_ne (Ne.symm n4)]; exact B.hq, fun k r l h1 h2 => ?_, B.l1, h, B.nd⟩
  have nr : r ≠ p := fun e => n5 (e ▸ List.mem_of_getElem? h1)
  rw [upd_ne nr]
  exact B.hr k r l h1 h2
theorem Bx.setL {H : Hp} {b p q : Addr} {rs : List Addr} {ss : List Int} {ls : List (List (Option Str))} (B : Bx H b p q rs ss ls) {k : Nat} {r : Addr} (hk : rs[k]? = some r) (l : List (Option Str)) : Bx (upd H r (.lst (l.map ov))) b p q rs ss (ls.set k l) := by
  have nd := B.nd
  have hm := List.mem_of_getElem? hk
  simp only [List.nodup_cons, List.mem_cons, not_or] at nd
  obtain ⟨⟨n1, n2, n3⟩, ⟨n4, n5⟩, n6, n7⟩ := nd
  have e1 : b ≠ r := fun e => n3 (e ▸ hm)
  have e2 : p ≠ r := fun e => n5 (e ▸ hm)
  have e3 : q ≠ r := fun e => n6 (e ▸ hm)
  refine ⟨by rw [upd_ne e1]; exact B.hb, by rw [upd_ne e2]; exact B.hp, by rw [upd_ne e3]; exact B.hq, fun j s m h1 h2 => ?_, by rw [List.length_set]; exact B.l1, by rw [List.length_set]; exact B.l2, B.nd⟩
  by_cases e : j = k
  · subst e
    rw [hk] at h1
    cases h1
    have hj : j < ls.length := by rw [← B.l1]; exact (List.getElem?_eq_some_iff.mp hk).1
    rw [List.getElem?_set_self hj] at h2
    cases h2
    exact upd_same
  · rw [List.getElem?_set_ne (Ne.symm e)] at h2
    have ns : s ≠ r := fun z => by
      subst z
      obtain ⟨a1, a2⟩ := List.getElem?_eq_some_iff.mp hk
      obtain ⟨b1, b2⟩ := List.getElem?_eq_some_iff.mp h1
      exact e ((List.getElem_inj n7).mp (b2.trans a2.symm))
    rw [upd_ne ns]
    exact B.hr j s m h1 h2
theorem Bx.fresh {H : Hp} {b p q : Addr} {rs : List Addr} {ss : List Int} {ls : List (List (Option Str))} (B : Bx H b p q rs ss ls) {r : Addr} {o : HO} (n : H r = none) : Bx (upd H r o) b p q rs ss ls := by
  have ne : ∀ c ∈ b :: p :: q :: rs, c ≠ r := fun c hc e => by
    obtain ⟨xs, h⟩ := B.lists hc
    rw [e, n] at h
    cases h
  refine ⟨?_, ?_, ?_, fun k s l h1 h2 => ?_, B.l1, B.l2, B.nd⟩
  · rw [upd_ne (ne b (by simp))]; exact B.hb
  · rw [upd_ne (ne p (by simp))]; exact B.hp
  · rw [upd_ne (ne q (by simp))]; exact B.hq
  · rw [upd_ne (ne s (by simp [List.mem_of_getElem? h1]))]; exact B.hr k s l h1 h2
/-! ### one level is asked -/
structure Post (H H' : Hp) (b p q : Addr) (rs : List Addr) (ss' : List Int) (ls' : List (List (Option Str))) (r : Addr) (ys : List V) : Prop where
  bx : Bx H' b p q rs ss' ls'
  new : H r = none
  at_ : H' r = some (.lst ys)
  fr : Fr (b :: p :: q :: rs) H H'
  up : ∀ c, H c ≠ none → H' c ≠ none
def spGo (K : PySem.W.Frag) : Sp := fun vs H Q _ => ∃ (t b p q : Addr) (rs : List Addr) (ss : List Int) (ls : List (List (Option Str))) (at_ : Nat) (w : Str) (l : List (Option Str)) (s v a : Int) (hs : List Int),
  vs = [.ref t, .ref b, .int (at_ : Nat), .str w] ∧ Bx H b p q rs ss ls ∧ ls[at_]? = some l ∧ ss[at_]? = some s ∧ Tb K H t s v a hs ∧ 0 ≤ v ∧ v < l.length ∧ l.length ≤ 1000 ∧ hs.length = l.length ∧
  ((∃ (j : Nat) (h : Int), wIx w l = some j ∧ hs[j]? = some h ∧ ∀ r H', Post H H' b p q rs (ss.set at_ h) ls r [.bl true, .non] → Q (.ref r) H') ∨
    (wIx w l = none ∧ ∃ gone, l[v.toNat]? = some gone ∧ ∀ r H', Post H H' b p q rs (ss.set at_ a) (ls.set at_ (l.set v.toNat (some w))) r [.bl false, ov gone] → Q (.ref r) H'))
abbrev tRw (K : PySem.W.Frag) : TE := tOp (rIxT K) (tOp (rIxT K) (tVar 0) (tC (.int 1))) (tOp (rIxL K) (tOp (rIxL K) (tVar 1) (tC (.int 0))) (tVar 2))
abbrev tLi (K : PySem.W.Frag) : TE := tOp (rIxL K) (tOp (rIxL K) (tVar 1) (tC (.int 1))) (tVar 2)
abbrev tSt (K : PySem.W.Frag) : TE := tOp (rIxL K) (tVar 1) (tC (.int 0))
def t_go (K : PySem.W.Frag) : TS :=
  tSeq (tPar 4 5 (tCons (tRw K) (tCons (tLi K) tNil)))
  (tSeq (tIfS (tTest (tOp (rIn K false) (tVar 3) (tVar 5)))
    (tSeq (tAsg (tOp (rIxT K) (tOp (rIxT K) (tVar 4) (tC (.int 2))) (tBM K "list" (rIndex K) (tVar 5) (tCons (tVar 3) tNil))) (gSub (tSt K) (tVar 2) rSetL)) (tRet (tLst (tCons (tC (.bl true)) (tCons (tC .non) tNil))))) tNext)
  (tSeq (tAsg (tOp (rIxL K) (tVar 5) (tOp (rIxT K) (tVar 4) (tC (.int 0)))) (gName 6))
  (tSeq (tAsg (tVar 3) (gSub (tVar 5) (tOp (rIxT K) (tVar 4) (tC (.int 0))) rSetL))
  (tSeq (tAsg (tOp (rIxT K) (tVar 4) (tC (.int 1))) (gSub (tSt K) (tVar 2) rSetL))
  (tRet (tLst (tCons (tC (.bl false)) (tCons (tVar 6) tNil))))))))
theorem atI_map' {α β : Type} (f : α → β) (xs : List α) {i : Nat} {x : α} (h : xs[i]? = some x) : atI (xs.map f) (i : Int) = some (f x) := by
  have hi := (List.getElem?_eq_some_iff.mp h).1
  unfold atI ixN
  rw [List.length_map, if_pos (by omega), if_pos (by omega)]
  simp [h]
theorem ixN_nat {n i : Nat} (h : i < n) : ixN n (i : Int) = some i := by
  unfold ixN
  rw [if_pos (by omega), if_pos (by omega)]
  simp
abbrev NGo : List Str := ["_law_table", "_law_box_here", "_law_at", "_law_who", "_law_row", "_law_lines", "_law_gone"]
theorem pure_go {K : PySem.W.Frag} (vs : List V) (H : Hp) (Q : VK) (E : XK) (h : spGo K vs H Q E) : t_go K { nx := fun _ H' => Q .non H', rt := Q } (start NGo vs) H := by
  obtain ⟨t, b, p, q, rs, ss, ls, at_, w, l, s, v, a, hs, rfl, B, hl, hs1, ⟨x, rows, row, hh, xs, q1, q2, e2, q3, q4⟩, v0, v1, lk, hlen, c⟩ := h
  have al : at_ < ls.length := (List.getElem?_eq_some_iff.mp hl).1
  obtain ⟨r, hr⟩ : ∃ r, rs[at_]? = some r := ⟨_, List.getElem?_eq_getElem (by rw [B.l1]; exact al)⟩
  have Hr := B.hr at_ r l hr hl
  have eS : atI (ss.map V.int) (at_ : Int) = some (.int s) := atI_map' _ _ hs1
  have eR : atI (rs.map V.ref) (at_ : Int) = some (.ref r) := atI_map' _ _ hr
  have rm : r ∈ b :: p :: q :: rs := by simp [List.mem_of_getElem? hr]
  have tin : ∀ {H'}, Fr (b :: p :: q :: rs) H H' → SqT K H' row [.int v, .int a, .ref hh] := fun f => sqT_fr q3 f fun c hc => B.lists hc
  show tPar 4 5 (tCons (tRw K) (tCons (tLi K) tNil)) _ [some (.ref t), some (.ref b), some (.int (at_ : Nat)), some (.str w), none, none, none] H
  refine ⟨_, rfl, t, _, 1, _, rfl, rfl, q1, rfl, ⟨_, rfl, b, _, 0, _, rfl, rfl, SqL.of B.hb, rfl, ⟨_, rfl, p, _, _, _, rfl, rfl, SqL.of B.hp, eS, rows, xs, s, _, rfl, rfl, q2, e2, ?_⟩⟩⟩
  refine ⟨_, rfl, b, _, 1, _, rfl, rfl, SqL.of B.hb, rfl, ⟨_, rfl, q, _, _, _, rfl, rfl, SqL.of B.hq, eR, ?_⟩⟩
  refine ⟨_, _, rfl, ?_⟩
  show tIfS (tTest (tOp (rIn K false) (tVar 3) (tVar 5))) _ _ _ [some (.ref t), some (.ref b), some (.int (at_ : Nat)), some (.str w), some (.ref row), some (.ref r), none] H
  refine ⟨_, rfl, _, rfl, r, _, rfl, .inl (SqL.of Hr), rfl, ovs_flat l, (wIx w l).isSome, by rw [if_neg Bool.false_ne_true, in_ov], ?_⟩
  rcases c with ⟨j, h, ej, eh, k⟩ | ⟨ej, gone, eg, k⟩
  · rw [ej]
    show (if true = true then _ else _)
    rw [if_pos rfl]
    obtain ⟨jl, f1, f2⟩ := wIx_facts ej
    show tAsg _ _ _ [some (.ref t), some (.ref b), some (.int (at_ : Nat)), some (.str w), some (.ref row), some (.ref r), none] H
    refine ⟨_, rfl, row, _, 2, _, rfl, rfl, q3, rfl, ⟨_, rfl, .inl ⟨rfl, _, SqL.of Hr⟩, ⟨_, rfl, r, _, _, j, _, rfl, rfl, SqL.of Hr, rfl, ovs_flat l, f1, beq_self_eq_true w, f2, ?_⟩⟩⟩
    refine ⟨hh, _, _, _, rfl, rfl, q4, atI_map' _ _ eh, ?_⟩
    refine ⟨_, rfl, b, _, 0, _, rfl, rfl, SqL.of B.hb, rfl, ⟨_, rfl, p, _, _, at_, rfl, rfl, B.hp, by rw [List.length_map]; exact ixN_nat (by rw [B.l2]; exact al), ?_⟩⟩
    have B2 := B.setS (ss.set at_ h) (by rw [List.length_set]; exact B.l2)
    have es : (ss.map V.int).set at_ (.int h) = (ss.set at_ h).map V.int := List.map_set.symm
    rw [es]
    refine ⟨by show (2 : Nat) ≤ sizeLine; rw [sizeLine_eq]; omega, fun nw hn => ?_⟩
    refine k nw _ ⟨B2.fresh hn, ?_, upd_same, (Fr.upd (.inl (by simp))).trans (Fr.upd (.inr hn)), fun c hc => ?_⟩
    · by_cases z : nw = p
      · rw [z, upd_same] at hn; cases hn
      · rwa [upd_ne z] at hn
    · by_cases z : c = nw
      · rw [z, upd_same]; simp
      · rw [upd_ne z]
        by_cases z2 : c = p
        · rw [z2, upd_same]; simp
        · rw [upd_ne z2]; exact hc
  · rw [ej]
    show (if false = true then _ else _)
    rw [if_neg Bool.false_ne_true]
    have vn : v.toNat < l.length := by omega
    have ev : atI (l.map ov) v = some (ov gone) := by
      have z := atI_map' ov l eg
      rwa [Int.toNat_of_nonneg v0] at z
    have iv : ixN (l.map ov).length v = some v.toNat := by
      rw [List.length_map]
      have z := ixN_nat vn
      rwa [Int.toNat_of_nonneg v0] at z
    show tAsg (tOp (rIxL K) (tVar 5) (tOp (rIxT K) (tVar 4) (tC (.int 0)))) (gName 6) { nx := _, rt := Q } [some (.ref t), some (.ref b), some (.int (at_ : Nat)), some (.str w), some (.ref row), some (.ref r), none] H
    refine ⟨_, rfl, _, rfl, row, _, 0, _, rfl, rfl, q3, rfl, r, _, _, _, rfl, rfl, SqL.of Hr, ev, ?_⟩
    refine ⟨_, rfl, _, rfl, _, rfl, row, _, 0, _, rfl, rfl, q3, rfl, r, _, _, _, rfl, rfl, Hr, iv, ?_⟩
    have B2 := B.setL hr (l.set v.toNat (some w))
    have el : (l.map ov).set v.toNat (.str w) = (l.set v.toNat (some w)).map ov := (List.map_set (f := ov) (l := l) (i := v.toNat) (a := some w)).symm
    rw [el]
    have f1 : Fr (b :: p :: q :: rs) H (upd H r (.lst ((l.set v.toNat (some w)).map ov))) := Fr.upd (.inl rm)
    generalize hH2 : upd H r (.lst ((l.set v.toNat (some w)).map ov)) = H2 at B2 f1 ⊢
    have up2 : ∀ c, H c ≠ none → H2 c ≠ none := fun c hc => by
      rw [← hH2]
      by_cases z : c = r
      · rw [z, upd_same]; simp
      · rw [upd_ne z]; exact hc
    refine ⟨_, rfl, row, _, 1, _, rfl, rfl, tin f1, rfl, ?_⟩
    refine ⟨_, rfl, b, _, 0, _, rfl, rfl, SqL.of B2.hb, rfl, ⟨_, rfl, p, _, _, at_, rfl, rfl, B2.hp, by rw [List.length_map]; exact ixN_nat (by rw [B.l2]; exact al), ?_⟩⟩
    have B3 := B2.setS (ss.set at_ a) (by rw [List.length_set]; exact B2.l2)
    have es : (ss.map V.int).set at_ (.int a) = (ss.set at_ a).map V.int := List.map_set.symm
    rw [es]
    refine ⟨_, rfl, by show (2 : Nat) ≤ sizeLine; rw [sizeLine_eq]; omega, fun nw hn => ?_⟩
    have hn2 : H2 nw = none := by
      by_cases z : nw = p
      · rw [z, upd_same] at hn; cases hn
      · rwa [upd_ne z] at hn
    have hn1 : H nw = none := by
      cases e : H nw with
      | none => rfl
      | some o => exact (up2 nw (by rw [e]; simp) hn2).elim
    refine k nw _ ⟨B3.fresh hn, hn1, upd_same, (f1.trans (Fr.upd (.inl (by simp)))).trans (Fr.upd (.inr hn)), fun c hc => ?_⟩
    by_cases z : c = nw
    · rw [z, upd_same]; simp
    · rw [upd_ne z]
      by_cases z2 : c = p
      · rw [z2, upd_same]; simp
      · rw [upd_ne z2]; exact up2 c hc
end BX

set_option Elab.async false
set_option linter.all false
set_option maxRecDepth 100000
set_option maxHeartbeats 4000000
/-! A box of two levels is asked. -/
namespace BX
open PySem PySem.Spec PyProof.Rows L2 GX StX DL
variable [DL.FT]
abbrev Ls : Type := List (Option Str)
def goP (v a : Int) (hs : List Int) (l : Ls) (w : Str) : Option (Bool × Option Str × Int × Ls) := match wIx w l with
  | some j => (hs[j]?).map fun h => (true, none, h, l)
  | none => (l[v.toNat]?).map fun g => (false, g, a, l.set v.toNat (some w))
/-- what the upper level gave goes below, where the name is not held there -/
def downP (v1 a1 : Int) (hs1 : List Int) (s1 : Int) (l1 : Ls) (w : Str) (gone : Option Str) : Option (Int × Ls) := match wIx w l1 with
  | some j => (match hs1[j]? with
    | some h => some (h, l1.set j gone)
    | none => none)
  | none => (match gone with
    | some g => (match goP v1 a1 hs1 l1 g with
      | some (_, _, s', l') => some (s', l')
      | none => none)
    | none => some (s1, l1))
def inclP (mode : Str) (out : Option Str) (l0 : Ls) : Ls := if mode = ("inclusive" : Str) then (match out with | some x => (match wIx x l0 with | some i => l0.set i none | none => l0) | none => l0) else l0
def askP (mode : Str) (v0 a0 : Int) (hs0 : List Int) (v1 a1 : Int) (hs1 : List Int) (s0 s1 : Int) (l0 l1 : Ls) (w : Str) : Option (Int × Int × Ls × Ls) := match goP v0 a0 hs0 l0 w with
  | none => none
  | some (true, _, s, l) => some (s, s1, l, l1)
  | some (false, gone, s, l) => if mode = ("victim" : Str) then (match downP v1 a1 hs1 s1 l1 w gone with
      | some (s', l') => some (s, s', l, l')
      | none => none)
    else (match goP v1 a1 hs1 l1 w with
      | some (_, out, s', l') => some (s, s', inclP mode out l, l')
      | none => none)
structure PostA (H H' : Hp) (b p q : Addr) (rs : List Addr) (ss' : List Int) (ls' : List Ls) : Prop where
  bx : Bx H' b p q rs ss' ls'
  fr : Fr (b :: p :: q :: rs) H H'
  up : ∀ c, H c ≠ none → H' c ≠ none
theorem Post.a {H H' : Hp} {b p q : Addr} {rs : List Addr} {ss' : List Int} {ls' : List Ls} {r : Addr} {ys : List V} (h : Post H H' b p q rs ss' ls' r ys) : PostA H H' b p q rs ss' ls' := ⟨h.bx, h.fr, h.up⟩
theorem PostA.trans {H H1 H2 : Hp} {b p q : Addr} {rs : List Addr} {ss1 ss2 : List Int} {ls1 ls2 : List Ls} (x : PostA H H1 b p q rs ss1 ls1) (y : PostA H1 H2 b p q rs ss2 ls2) : PostA H H2 b p q rs ss2 ls2 := ⟨y.bx, x.fr.trans y.fr, fun c h => y.up c (x.up c h)⟩
/-- asked so, it goes so -/
theorem go_sp {K : PySem.W.Frag} {H : Hp} {Q : VK} {E : XK} {t b p q : Addr} {rs : List Addr} {ss : List Int} {ls : List Ls} {at_ : Nat} {w : Str} {l l' : Ls} {s v a s' : Int} {hs : List Int} {hit : Bool} {gone : Option Str}
    (B : Bx H b p q rs ss ls) (hl : ls[at_]? = some l) (hs1 : ss[at_]? = some s) (T : Tb K H t s v a hs) (v0 : 0 ≤ v) (v1 : v < l.length) (lk : l.length ≤ 1000) (hh : hs.length = l.length) (g : goP v a hs l w = some (hit, gone, s', l'))
    (k : ∀ r H', Post H H' b p q rs (ss.set at_ s') (ls.set at_ l') r [.bl hit, ov gone] → Q (.ref r) H') : spGo K [.ref t, .ref b, .int (at_ : Nat), .str w] H Q E := by
  refine ⟨t, b, p, q, rs, ss, ls, at_, w, l, s, v, a, hs, rfl, B, hl, hs1, T, v0, v1, lk, hh, ?_⟩
  unfold goP at g
  split at g
  · rename_i j ej
    cases e : hs[j]? with
    | none => rw [e] at g; cases g
    | some h =>
      rw [e] at g
      cases g
      refine .inl ⟨j, _, ej, e, fun r H' po => k r H' ?_⟩
      have z : ls.set at_ l = ls := by
        obtain ⟨a1, a2⟩ := List.getElem?_eq_some_iff.mp hl
        rw [← a2]
        exact List.set_getElem_self a1
      rw [z]
      exact po
  · rename_i ej
    cases e : l[v.toNat]? with
    | none => rw [e] at g; cases g
    | some x =>
      rw [e] at g
      cases g
      exact .inr ⟨ej, _, rfl, k⟩
def spAsk (K : PySem.W.Frag) : Sp := fun vs H Q _ => ∃ (rg b p q r0 r1 t1 t2 : Addr) (s0 s1 : Int) (l0 l1 : Ls) (mode w : Str) (v0 a0 : Int) (hs0 : List Int) (v1 a1 : Int) (hs1 : List Int) (s0' s1' : Int) (l0' l1' : Ls),
  vs = [.ref rg, .ref b, .str w] ∧ SqT K H rg [.str mode, .ref t1, .ref t2] ∧ Bx H b p q [r0, r1] [s0, s1] [l0, l1] ∧ Tb K H t1 s0 v0 a0 hs0 ∧ Tb K H t2 s1 v1 a1 hs1 ∧
  (0 ≤ v0 ∧ v0 < l0.length ∧ l0.length ≤ 1000 ∧ hs0.length = l0.length) ∧ (0 ≤ v1 ∧ v1 < l1.length ∧ l1.length ≤ 1000 ∧ hs1.length = l1.length) ∧
  askP mode v0 a0 hs0 v1 a1 hs1 s0 s1 l0 l1 w = some (s0', s1', l0', l1') ∧ ∀ H', PostA H H' b p q [r0, r1] [s0', s1'] [l0', l1'] → Q (.bl ((wIx w l0).isSome || (wIx w l1).isSome)) H'
def rNotNone : R2 := fun x y H Q => y = .non ∧ Q (.bl (!decide (x = .non))) H
def rLn (K : PySem.W.Frag) : List V → Hp → VK → Prop := fun xs H Q => ∃ p ys, xs = [.ref p] ∧ (SqL K H p ys ∨ SqT K H p ys) ∧ Q (.int ys.length) H
abbrev tHeld (K : PySem.W.Frag) : TE := tCB (rAny K) (tCons (tLc (iList K (tOp (rIxL K) (tVar 1) (tC (.int 1)))) (gName 4) tYes (tOp (rIn K false) (tVar 2) (tVar 4)) [4]) tNil)
abbrev tL (K : PySem.W.Frag) (i : Int) : TE := tOp (rIxL K) (tOp (rIxL K) (tVar 1) (tC (.int 1))) (tC (.int i))
abbrev tGo (K : PySem.W.Frag) (i : Int) (at_ : Int) (w : Nat) : TE := tCall (spGo K) [] E0 (tCons (tOp (rIxT K) (tVar 0) (tC (.int i))) (tCons (tVar 1) (tCons (tC (.int at_)) (tCons (tVar w) tNil))))
abbrev gTwo (K : PySem.W.Frag) (i j : Nat) : TG := gUnl K 2 (gCons (gName i) (gCons (gName j) gNil))
def tIncl (K : PySem.W.Frag) : TS := tIfS (tAnd (tTest (tOp rEq (tOp (rIxT K) (tVar 0) (tC (.int 0))) (tC (.str "inclusive")))) (tAnd (tTest (tOp rNotNone (tVar 7) (tC .non))) (tTest (tOp (rIn K false) (tVar 7) (tL K 0)))))
  (tAsg (tC .non) (gSub (tL K 0) (tBM K "list" (rIndex K) (tL K 0) (tCons (tVar 7) tNil)) rSetL)) tNext
def tVict (K : PySem.W.Frag) : TS := tIfS (tTest (tOp (rIn K false) (tVar 2) (tL K 1)))
  (tSeq (tPar 8 9 (tCons (tBM K "list" (rIndex K) (tL K 1) (tCons (tVar 2) tNil)) (tCons (tOp (rIxT K) (tOp (rIxT K) (tOp (rIxT K) (tVar 0) (tC (.int 2))) (tC (.int 1))) (tOp (rIxL K) (tOp (rIxL K) (tVar 1) (tC (.int 0))) (tC (.int 1)))) tNil)))
  (tSeq (tAsg (tVar 6) (gSub (tL K 1) (tVar 8) rSetL))
  (tAsg (tOp (rIxT K) (tOp (rIxT K) (tVar 9) (tC (.int 2))) (tVar 8)) (gSub (tOp (rIxL K) (tVar 1) (tC (.int 0))) (tC (.int 1)) rSetL))))
  (tIfS (tTest (tOp rNotNone (tVar 6) (tC .non))) (tDrop (tGo K 2 1 6)) tNext)
def t_ask (K : PySem.W.Frag) : TS :=
  tSeq (tAsg (tHeld K) (gName 3))
  (tSeq (tAsg (tGo K 1 0 2) (gTwo K 5 6))
  (tSeq (tIfS (tOr (tB (tVar 5)) (tTest (tOp rEq (tCB (rLn K) (tCons (tVar 0) tNil)) (tC (.int 2))))) (tRet (tVar 3)) tNext)
  (tSeq (tIfS (tTest (tOp rNe (tOp (rIxT K) (tVar 0) (tC (.int 0))) (tC (.str "victim")))) (tSeq (tAsg (tGo K 2 1 2) (gTwo K 5 7)) (tIncl K)) (tVict K))
  (tRet (tVar 3)))))
abbrev NAsk : List Str := ["_law_rig", "_law_box_here", "_law_who", "_law_is_held", "_law_lines", "_law_is_hit", "_law_gone", "_law_out", "_law_line", "_law_row"]
theorem Tb.fr {K : PySem.W.Frag} {H H' : Hp} {t : Addr} {s v a : Int} {hs : List Int} {as : List Addr} (T : Tb K H t s v a hs) (f : Fr as H H') (l : ∀ c ∈ as, ∃ ys, H c = some (.lst ys)) : Tb K H' t s v a hs := by
  obtain ⟨x, rows, row, hh, xs, q1, q2, e, q3, q4⟩ := T
  exact ⟨x, rows, row, hh, xs, sqT_fr q1 f l, sqT_fr q2 f l, e, sqT_fr q3 f l, sqT_fr q4 f l⟩
theorem upd_upd {H : Hp} {D : Addr} {o u : HO} : upd (upd H D o) D u = upd H D u := by
  funext c
  by_cases h : c = D
  · rw [h, upd_same, upd_same]
  · rw [upd_ne h, upd_ne h, upd_ne h]
theorem yes_go {σ : L2.St} {H : Hp} {A B : Hp → Prop} (h : A H) : tYes σ H (fun b H3 => if b = true then A H3 else B H3) := by
  show (if true = true then A H else B H)
  rw [if_pos rfl]
  exact h
theorem held_ok {K : PySem.W.Frag} {H : Hp} {rg b p q r0 r1 : Addr} {ss : List Int} {l0 l1 : Ls} {w : Str} {Q : VK} (B : Bx H b p q [r0, r1] ss [l0, l1])
    (k : ∀ H', Fr [] H H' → (∀ c, H c ≠ none → H' c ≠ none) → Q (.bl ((wIx w l0).isSome || (wIx w l1).isSome)) H') : tHeld K [some (.ref rg), some (.ref b), some (.str w), none, none, none, none, none, none, none] H Q := by
  have h0 := B.hr 0 r0 l0 rfl rfl
  have h1 := B.hr 1 r1 l1 rfl rfl
  refine ⟨_, rfl, b, _, 1, _, rfl, rfl, SqL.of B.hb, rfl, q, rfl, ⟨_, SqL.of B.hq⟩, fun D hD => ?_⟩
  have nD : ∀ {acc : List V} {r : Addr} {xs : List V}, H r = some (.lst xs) → upd H D (.lst acc) r = some (.lst xs) := fun {acc r xs} h => by
    rw [upd_ne (fun z => by rw [z, hD] at h; cases h)]
    exact h
  refine lc_list (xs := [V.ref r0, V.ref r1]) (fun i H' => H' = upd H D (.lst ([V.bl (wIx w l0).isSome, V.bl (wIx w l1).isSome].take i))) rfl (fun i H' _ e => ?_) (fun i x H' hx e => ?_) (fun H' e => ?_)
  · rw [e]
    exact SqL.of (nD B.hq)
  · subst e
    match i, hx with
    | 0, hx =>
      cases hx
      refine ⟨rfl, ?_⟩
      refine yes_go ?_
      refine ⟨_, rfl, _, rfl, r0, _, rfl, .inl (SqL.of (nD h0)), rfl, ovs_flat l0, [], upd_same, by show (0 : Nat) < sizeLine; rw [sizeLine_eq]; omega, ?_⟩
      rw [upd_upd, if_neg Bool.false_ne_true, in_ov]
      rfl
    | 1, hx =>
      cases hx
      refine ⟨rfl, ?_⟩
      refine yes_go ?_
      refine ⟨_, rfl, _, rfl, r1, _, rfl, .inl (SqL.of (nD h1)), rfl, ovs_flat l1, [V.bl (wIx w l0).isSome], upd_same, by show (1 : Nat) < sizeLine; rw [sizeLine_eq]; omega, ?_⟩
      rw [upd_upd, if_neg Bool.false_ne_true, in_ov]
      rfl
    | i + 2, hx => cases hx
  · subst e
    refine ⟨D, [(wIx w l0).isSome, (wIx w l1).isSome], rfl, SqL.of upd_same, ?_⟩
    have z : ([(wIx w l0).isSome, (wIx w l1).isSome].any id) = ((wIx w l0).isSome || (wIx w l1).isSome) := by simp
    rw [z]
    refine k _ (Fr.upd (.inr hD)) fun c hc => ?_
    by_cases e : c = D
    · rw [e, upd_same]; simp
    · rw [upd_ne e]; exact hc
end BX

set_option Elab.async false
set_option linter.all false
set_option maxRecDepth 100000
set_option maxHeartbeats 4000000
/-! A box of two levels is asked: the reading. -/
namespace BX
open PySem PySem.Spec PyProof.Rows L2 GX StX DL
variable [DL.FT]
section
variable {K : PySem.W.Frag} {H : Hp} {D : Ends} {rg b p q r0 r1 t1 t2 : Addr} {mode w : Str} {ss : List Int} {l0 l1 : Ls}
theorem Bx.same {b p q : Addr} {rs : List Addr} {ss : List Int} {ls : List Ls} {H' : Hp} (B : Bx H b p q rs ss ls) (f : Fr [] H H') : Bx H' b p q rs ss ls :=
  ⟨f _ _ (by simp) B.hb, f _ _ (by simp) B.hp, f _ _ (by simp) B.hq, fun k r l h1 h2 => f _ _ (by simp) (B.hr k r l h1 h2), B.l1, B.l2, B.nd⟩
theorem Fr.weak {as : List Addr} {H' : Hp} (f : Fr [] H H') : Fr as H H' := fun c o _ e => f c o (by simp) e
/-- the i-th list of lines -/
theorem tL_ok (B : Bx H b p q [r0, r1] ss [l0, l1]) {σ : L2.St} {Q : VK} (h1 : σ[1]? = some (some (.ref b))) {i : Nat} {r : Addr} (hr : ([r0, r1] : List Addr)[i]? = some r) (k : Q (.ref r) H) : tL K (i : Nat) σ H Q :=
  ⟨_, h1, b, _, 1, _, rfl, rfl, SqL.of B.hb, rfl, q, _, _, _, rfl, rfl, SqL.of B.hq, atI_map' V.ref [r0, r1] hr, k⟩
theorem dec_t {x y : V} (h : x = y) : decide (x = y) = true := decide_eq_true h
theorem dec_f {x y : V} (h : x ≠ y) : decide (x = y) = false := decide_eq_false h
theorem s3_hit {σ : L2.St} {v : V} (h5 : σ[5]? = some (some (.bl true))) (h3 : σ[3]? = some (some v)) (k : D.rt v H) : tIfS (tOr (tB (tVar 5)) (tTest (tOp rEq (tCB (rLn K) (tCons (tVar 0) tNil)) (tC (.int 2))))) (tRet (tVar 3)) tNext D σ H := by
  refine ⟨_, h5, true, rfl, ?_⟩
  simp only [↓reduceIte]
  exact ⟨_, h3, k⟩
theorem s3_miss {σ : L2.St} {x y z : V} (h5 : σ[5]? = some (some (.bl false))) (h0 : σ[0]? = some (some (.ref rg))) (sq : SqT K H rg [x, y, z]) (k : D.nx σ H) : tIfS (tOr (tB (tVar 5)) (tTest (tOp rEq (tCB (rLn K) (tCons (tVar 0) tNil)) (tC (.int 2))))) (tRet (tVar 3)) tNext D σ H := by
  refine ⟨_, h5, false, rfl, ?_⟩
  simp only [Bool.false_eq_true, ↓reduceIte]
  refine ⟨_, h0, rg, _, rfl, .inr sq, rfl, _, rfl, ?_⟩
  have e : decide (V.int (([x, y, z] : List V).length : Nat) = V.int 2) = false := dec_f (by intro h; injection h with h; simp at h)
  rw [e]
  simp only [Bool.false_eq_true, ↓reduceIte]
  exact k
/-- where inclusive and a name fell out below -/
theorem incl_ok {σ : L2.St} {x y : V} {out : Option Str} {l0' : Ls} (B : Bx H b p q [r0, r1] ss [l0, l1]) (h0 : σ[0]? = some (some (.ref rg))) (h1 : σ[1]? = some (some (.ref b))) (h7 : σ[7]? = some (some (ov out))) (sq : SqT K H rg [.str mode, x, y])
    (e : l0' = inclP mode out l0)
    (k : ∀ H', PostA H H' b p q [r0, r1] ss [l0', l1] → D.nx σ H') : tIncl K D σ H := by
  unfold inclP at e
  have hr0 := B.hr 0 r0 l0 rfl rfl
  have idl : PostA H H b p q [r0, r1] ss [l0, l1] := ⟨B, Fr.refl _ _, fun _ h => h⟩
  refine ⟨_, h0, rg, _, 0, _, rfl, rfl, sq, rfl, rfl, _, rfl, ?_⟩
  by_cases hm : mode = ("inclusive" : Str)
  · rw [if_pos hm] at e
    rw [dec_t (by rw [hm])]
    simp only [↓reduceIte]
    cases out with
    | none =>
      dsimp only at e
      subst e
      refine ⟨_, h7, rfl, _, rfl, ?_⟩
      rw [dec_t (show ov none = V.non from rfl)]
      simp only [Bool.not_true, Bool.false_eq_true, ↓reduceIte]
      exact k H idl
    | some x =>
      dsimp only at e
      replace h7 : σ[7]? = some (some (V.str x)) := h7
      refine ⟨_, h7, rfl, _, rfl, ?_⟩
      rw [dec_f (show V.str x ≠ V.non from by intro h; cases h)]
      simp only [Bool.not_false, ↓reduceIte]
      refine ⟨_, h7, tL_ok (i := 0) B h1 rfl ⟨r0, _, rfl, .inl (SqL.of hr0), rfl, ovs_flat l0, _, rfl, ?_⟩⟩
      rw [if_neg Bool.false_ne_true, in_ov]
      cases ej : wIx x l0 with
      | none =>
        rw [ej] at e
        dsimp only at e
        subst e
        simp only [Option.isSome_none, Bool.false_eq_true, ↓reduceIte]
        exact k H idl
      | some j =>
        rw [ej] at e
        dsimp only at e
        subst e
        simp only [Option.isSome_some, ↓reduceIte]
        obtain ⟨jl, f1, f2⟩ := wIx_facts ej
        refine tL_ok (i := 0) B h1 rfl (tL_ok (i := 0) B h1 rfl ⟨.inl ⟨rfl, _, SqL.of hr0⟩, ⟨_, h7, r0, _, _, j, _, rfl, rfl, SqL.of hr0, rfl, ovs_flat l0, f1, beq_self_eq_true x, f2, r0, _, _, j, rfl, rfl, hr0, by rw [List.length_map]; exact ixN_nat jl, ?_⟩⟩)
        have el : (l0.map ov).set j .non = (l0.set j none).map ov := (List.map_set (f := ov) (l := l0) (i := j) (a := none)).symm
        rw [el]
        have B2 := B.setL (k := 0) rfl (l0.set j none)
        refine k _ ⟨B2, Fr.upd (.inl (by simp)), fun c hc => ?_⟩
        by_cases z : c = r0
        · rw [z, upd_same]; simp
        · rw [upd_ne z]; exact hc
  · rw [if_neg hm] at e
    subst e
    rw [dec_f (by intro h; injection h with h; exact hm h)]
    simp only [Bool.false_eq_true, ↓reduceIte]
    exact k H idl
theorem tGo_ok {σ : L2.St} {Q : VK} {t : Addr} {xs : List V} {i : Int} {at_ : Nat} {j : Nat} (h0 : σ[0]? = some (some (.ref rg))) (sq : SqT K H rg xs) (hi : atI xs i = some (.ref t)) (h1 : σ[1]? = some (some (.ref b))) (hw : σ[j]? = some (some (.str w)))
    (h : spGo K [.ref t, .ref b, .int (at_ : Nat), .str w] H Q E0) : tGo K i (at_ : Nat) j σ H Q := by
  refine ⟨_, h0, rg, xs, i, _, rfl, rfl, sq, hi, _, h1, _, hw, ?_⟩
  show spGo K [.ref t, .ref b, .int (at_ : Nat), .str w] H Q E0
  exact h
/-- where it is a victim device: what the upper level gave goes below -/
theorem vict_ok {σ : L2.St} {gone : Option Str} {s0 s1 v1 a1 : Int} {hs1 : List Int} {s1' : Int} {l1' : Ls} (B : Bx H b p q [r0, r1] [s0, s1] [l0, l1]) (T : Tb K H t2 s1 v1 a1 hs1) (bd : 0 ≤ v1 ∧ v1 < l1.length ∧ l1.length ≤ 1000 ∧ hs1.length = l1.length) (hl : σ.length = 10)
    (h0 : σ[0]? = some (some (.ref rg))) (h1 : σ[1]? = some (some (.ref b))) (h2 : σ[2]? = some (some (.str w))) (h6 : σ[6]? = some (some (ov gone))) (sq : SqT K H rg [.str mode, .ref t1, .ref t2])
    (e : downP v1 a1 hs1 s1 l1 w gone = some (s1', l1'))
    (k : ∀ σ' H', PostA H H' b p q [r0, r1] [s0, s1'] [l0, l1'] → (∀ i, i < 8 → σ'[i]? = σ[i]?) → D.nx σ' H') : tVict K D σ H := by
  unfold downP at e
  have hr1 := B.hr 1 r1 l1 rfl rfl
  refine ⟨_, h2, tL_ok (i := 1) B h1 rfl ⟨r1, _, rfl, .inl (SqL.of hr1), rfl, ovs_flat l1, _, rfl, ?_⟩⟩
  rw [if_neg Bool.false_ne_true, in_ov]
  cases ej : wIx w l1 with
  | some j =>
    rw [ej] at e
    dsimp only at e
    cases eh : hs1[j]? with
    | none => rw [eh] at e; cases e
    | some h =>
      rw [eh] at e
      cases e
      obtain ⟨jl, f1, f2⟩ := wIx_facts ej
      obtain ⟨x, rows, row, hh, xs, q1, q2, e2, q3, q4⟩ := T
      simp only [Option.isSome_some, ↓reduceIte]
      refine tL_ok (i := 1) B h1 rfl ⟨.inl ⟨rfl, _, SqL.of hr1⟩, ⟨_, h2, r1, _, _, j, _, rfl, rfl, SqL.of hr1, rfl, ovs_flat l1, f1, beq_self_eq_true w, f2, ?_⟩⟩
      refine ⟨_, h0, rg, _, 2, _, rfl, rfl, sq, rfl, t2, _, 1, _, rfl, rfl, q1, rfl, _, h1, b, _, 0, _, rfl, rfl, SqL.of B.hb, rfl, p, _, 1, _, rfl, rfl, SqL.of B.hp, rfl, rows, xs, s1, _, rfl, rfl, q2, e2, _, _, rfl, ?_⟩
      have g : ∀ i, i < 8 → ((σ.set 8 (some (V.int (j : Nat)))).set 9 (some (V.ref row)))[i]? = σ[i]? := fun i hi => by
        rw [List.getElem?_set_ne (by omega), List.getElem?_set_ne (by omega)]
      have g8 : ((σ.set 8 (some (V.int (j : Nat)))).set 9 (some (V.ref row)))[8]? = some (some (V.int (j : Nat))) := by
        rw [List.getElem?_set_ne (by omega), List.getElem?_set_self (by omega)]
      have g9 : ((σ.set 8 (some (V.int (j : Nat)))).set 9 (some (V.ref row)))[9]? = some (some (V.ref row)) := by
        rw [List.getElem?_set_self (by rw [List.length_set]; omega)]
      generalize (σ.set 8 (some (V.int (j : Nat)))).set 9 (some (V.ref row)) = τ at g g8 g9
      have k1 := (g 1 (by omega)).trans h1
      have k6 := (g 6 (by omega)).trans h6
      refine ⟨_, k6, tL_ok (i := 1) B k1 rfl ⟨_, g8, r1, _, _, j, rfl, rfl, hr1, by rw [List.length_map]; exact ixN_nat jl, ?_⟩⟩
      have el : (l1.map ov).set j (ov gone) = (l1.set j gone).map ov := (List.map_set (f := ov) (l := l1) (i := j) (a := gone)).symm
      rw [el]
      have B2 := B.setL (k := 1) rfl (l1.set j gone)
      have f1' : Fr (b :: p :: q :: [r0, r1]) H (upd H r1 (.lst ((l1.set j gone).map ov))) := Fr.upd (.inl (by simp))
      have up1 : ∀ c, H c ≠ none → upd H r1 (.lst ((l1.set j gone).map ov)) c ≠ none := fun c hc => by
        by_cases z : c = r1
        · rw [z, upd_same]; simp
        · rw [upd_ne z]; exact hc
      have q3' := sqT_fr q3 f1' fun c hc => B.lists hc
      have q4' := sqT_fr q4 f1' fun c hc => B.lists hc
      generalize upd H r1 (.lst ((l1.set j gone).map ov)) = H2 at B2 f1' up1 q3' q4'
      refine ⟨_, g9, row, _, 2, _, rfl, rfl, q3', rfl, _, g8, hh, _, _, _, rfl, rfl, q4', atI_map' V.int hs1 eh, _, k1, b, _, 0, _, rfl, rfl, SqL.of B2.hb, rfl, p, _, 1, 1, rfl, rfl, B2.hp, rfl, ?_⟩
      have B3 := B2.setS [s0, s1'] rfl
      refine k τ _ ⟨B3, f1'.trans (Fr.upd (.inl (by simp))), fun c hc => ?_⟩ g
      by_cases z : c = p
      · rw [z]; exact fun y => by rw [show ((([s0, s1] : List Int).map V.int).set 1 (V.int s1')) = [s0, s1'].map V.int from rfl, upd_same] at y; cases y
      · exact fun y => by rw [upd_ne z] at y; exact up1 c hc y
  | none =>
    rw [ej] at e
    dsimp only at e
    simp only [Option.isSome_none, Bool.false_eq_true, ↓reduceIte]
    cases gone with
    | none =>
      cases e
      refine ⟨_, h6, rfl, _, rfl, ?_⟩
      rw [dec_t (show ov none = V.non from rfl)]
      simp only [Bool.not_true, Bool.false_eq_true, ↓reduceIte]
      exact k σ H ⟨B, Fr.refl _ _, fun _ h => h⟩ fun _ _ => rfl
    | some gn =>
      dsimp only at e
      replace h6 : σ[6]? = some (some (V.str gn)) := h6
      refine ⟨_, h6, rfl, _, rfl, ?_⟩
      rw [dec_f (show V.str gn ≠ V.non from by intro h; cases h)]
      simp only [Bool.not_false, ↓reduceIte]
      cases eg : goP v1 a1 hs1 l1 gn with
      | none => rw [eg] at e; cases e
      | some r =>
        obtain ⟨hit, out, s', l'⟩ := r
        rw [eg] at e
        cases e
        refine ⟨_, h0, rg, _, 2, _, rfl, rfl, sq, rfl, _, h1, _, h6, ?_⟩
        show spGo K [.ref t2, .ref b, .int ((1 : Nat) : Int), .str gn] H (fun _ H' => D.nx σ H') E0
        exact go_sp (at_ := 1) B rfl rfl T bd.1 bd.2.1 bd.2.2.1 bd.2.2.2 eg fun r H' po => k σ H' po.a fun _ _ => rfl
theorem pure_ask (vs : List V) (H : Hp) (Q : VK) (E : XK) (h : spAsk K vs H Q E) : t_ask K { nx := fun _ H' => Q .non H', rt := Q } (start NAsk vs) H := by
  obtain ⟨rg, b, p, q, r0, r1, t1, t2, s0, s1, l0, l1, mode, w, v0, a0, hs0, v1, a1, hs1, s0', s1', l0', l1', rfl, sq, B, T1, T2, b0, b1, ea, k⟩ := h
  refine held_ok (rg := rg) B fun H1 f1 u1 => ?_
  have B1 := B.same f1
  have g1 : Fr (b :: p :: q :: [r0, r1]) H H1 := f1.weak
  have ll := fun c (hc : c ∈ b :: p :: q :: [r0, r1]) => B.lists hc
  have sq1 := sqT_fr sq g1 ll
  have T11 := T1.fr g1 ll
  have T21 := T2.fr g1 ll
  unfold askP at ea
  cases eg : goP v0 a0 hs0 l0 w with
  | none => rw [eg] at ea; cases ea
  | some r =>
    obtain ⟨hit, gone, s, l⟩ := r
    rw [eg] at ea
    refine tGo_ok (i := 1) (at_ := 0) (j := 2) (rg := rg) (b := b) (w := w) (t := t1) rfl sq1 rfl rfl rfl (go_sp (at_ := 0) B1 rfl rfl T11 b0.1 b0.2.1 b0.2.2.1 b0.2.2.2 eg fun r H2 po => ?_)
    refine ⟨r, _, rfl, SqL.of po.at_, rfl, _, _, rfl, _, _, rfl, rfl, ?_⟩
    have P2 : PostA H H2 b p q [r0, r1] [s, s1] [l, l1] := ⟨po.bx, g1.trans po.fr, fun c hc => po.up c (u1 c hc)⟩
    have sq2 := sqT_fr sq P2.fr ll
    have T22 := T2.fr P2.fr ll
    cases hit with
    | true =>
      dsimp only at ea
      cases ea
      exact s3_hit rfl rfl (k H2 P2)
    | false =>
      dsimp only at ea
      refine s3_miss (rg := rg) rfl rfl sq2 ?_
      refine ⟨_, rfl, rg, _, 0, _, rfl, rfl, sq2, rfl, rfl, _, rfl, ?_⟩
      by_cases hm : mode = ("victim" : Str)
      · rw [if_pos hm] at ea
        rw [dec_t (show V.str mode = V.str "victim" by rw [hm])]
        simp only [Bool.not_true, Bool.false_eq_true, ↓reduceIte]
        cases e2 : downP v1 a1 hs1 s1 l1 w gone with
        | none => rw [e2] at ea; cases ea
        | some xx =>
        obtain ⟨x1, x2⟩ := xx
        rw [e2] at ea
        cases ea
        refine vict_ok (rg := rg) (w := w) po.bx T22 b1 rfl rfl rfl rfl rfl sq2 e2 fun σ' H3 P3 hσ => ?_
        have h3 := hσ 3 (by omega)
        exact ⟨_, h3, k H3 (P2.trans P3)⟩
      · rw [if_neg hm] at ea
        rw [dec_f (show V.str mode ≠ V.str "victim" from fun h => hm (by injection h))]
        simp only [Bool.not_false, ↓reduceIte]
        cases eg2 : goP v1 a1 hs1 l1 w with
        | none => rw [eg2] at ea; cases ea
        | some r2 =>
          obtain ⟨hit2, out, s', l'⟩ := r2
          rw [eg2] at ea
          dsimp only at ea
          refine tGo_ok (i := 2) (at_ := 1) (j := 2) (rg := rg) (b := b) (w := w) (t := t2) rfl sq2 rfl rfl rfl (go_sp (at_ := 1) po.bx rfl rfl T22 b1.1 b1.2.1 b1.2.2.1 b1.2.2.2 eg2 fun rr H3 po3 => ?_)
          refine ⟨rr, _, rfl, SqL.of po3.at_, rfl, _, _, rfl, _, _, rfl, rfl, ?_⟩
          have P3 : PostA H H3 b p q [r0, r1] [s, s'] [l, l'] := P2.trans ⟨po3.bx, po3.fr, po3.up⟩
          have sq3 := sqT_fr sq P3.fr ll
          cases ea
          refine incl_ok (rg := rg) po3.bx rfl rfl rfl sq3 rfl fun H4 P4 => ?_
          exact ⟨_, rfl, k H4 (P3.trans P4)⟩
end
end BX

set_option Elab.async false
set_option linter.all false
set_option maxRecDepth 100000
set_option maxHeartbeats 4000000
/-! A new box of two levels; a history told by it. -/
namespace BX
open PySem PySem.Spec PyProof.Rows L2 GX StX DL
variable [DL.FT]
abbrev rSubI : R2 := rI0 fun i j => .int (i - j)
abbrev tLen0 (K : PySem.W.Frag) : TE := tCB (rLn K) (tCons (tVar 0) tNil)
def t_box (K : PySem.W.Frag) : TS := tRet (tLst (tCons (tOp rRep (tLst (tCons (tC (.int 0)) tNil)) (tOp rSubI (tLen0 K) (tC (.int 1))))
  (tCons (tLc (iTup K (L2.tSl (rSlN K) (tVar 0) (tPart (tC (.int 1))) tNoPart)) (gName 1) tYes (tOp rRep (tLst (tCons (tC .non) tNil)) (tOp (rIxT K) (tVar 1) (tC (.int 0)))) [1]) tNil)))
def nones (n : Int) : Ls := List.replicate n.toNat none
theorem nones_ov (n : Int) : (List.replicate n.toNat [V.non]).flatten = (nones n).map ov := by
  unfold nones
  rw [List.map_replicate]
  show _ = List.replicate n.toNat V.non
  generalize n.toNat = m
  induction m with
  | zero => rfl
  | succ m ih => rw [List.replicate_succ, List.flatten_cons, ih]; rfl
structure NewB (H H' : Hp) (b p q r0 r1 : Addr) (n1 n2 : Int) : Prop where
  bx : Bx H' b p q [r0, r1] [0, 0] [nones n1, nones n2]
  new : ∀ c ∈ b :: p :: q :: [r0, r1], H c = none
  fr : Fr [] H H'
def spBox (K : PySem.W.Frag) : Sp := fun vs H Q _ => ∃ (rg t1 t2 : Addr) (x y z : V) (n1 n2 : Int), vs = [.ref rg] ∧ SqT K H rg [x, .ref t1, .ref t2] ∧ SqT K H t1 [.int n1, y] ∧ SqT K H t2 [.int n2, z] ∧ (0 ≤ n1 ∧ n1 ≤ 1000) ∧ (0 ≤ n2 ∧ n2 ≤ 1000) ∧
  ∀ b p q r0 r1 H', NewB H H' b p q r0 r1 n1 n2 → Q (.ref b) H'
theorem fr_new {H : Hp} {c : Addr} {o : HO} (h : H c = none) : Fr [] H (upd H c o) := Fr.upd (.inr h)
theorem Fr.free {H H' : Hp} (f : Fr [] H H') {c : Addr} (h : H' c = none) : H c = none := by
  cases e : H c with
  | none => rfl
  | some o => rw [f c o (by simp) e] at h; cases h
theorem Fr.ne {H : Hp} {c d : Addr} {o : HO} (h : H c = none) (g : H d = some o) : c ≠ d := fun z => by rw [z, g] at h; cases h
abbrev NBox : List Str := ["_law_rig", "_law_table"]
theorem sqT_same' {K : PySem.W.Frag} {H H' : Hp} {a : Addr} {xs : List V} (h : SqT K H a xs) (f : Fr [] H H') : SqT K H' a xs := sqT_fr h f (by simp)
theorem pure_box {K : PySem.W.Frag} (vs : List V) (H : Hp) (Q : VK) (E : XK) (h : spBox K vs H Q E) : t_box K { nx := fun _ H' => Q .non H', rt := Q } (start NBox vs) H := by
  obtain ⟨rg, t1, t2, x, y, z, n1, n2, rfl, sq, q1, q2, b1, b2, k⟩ := h
  refine ⟨by show (1 : Nat) ≤ sizeLine; rw [sizeLine_eq]; omega, fun a0 h0 => ?_⟩
  have f1 := fr_new (o := .lst [V.int 0]) h0
  have e1 : upd H a0 (.lst [V.int 0]) a0 = some (.lst [V.int 0]) := upd_same
  generalize upd H a0 (.lst [V.int 0]) = H1 at f1 e1
  refine ⟨_, rfl, rg, _, rfl, .inr (sqT_same' sq f1), _, _, rfl, rfl, a0, _, _, rfl, rfl, e1, (by show (-(2 ^ 63) : Int) ≤ (3 : Int) - 1; omega), (by show (3 : Int) - 1 < 2 ^ 63; omega), ?_, fun p hp => ?_⟩
  · show (1 : Nat) * ((3 : Int) - 1).toNat ≤ sizeLine
    rw [sizeLine_eq]
    decide
  have f2 := f1.trans (fr_new (o := .lst ([0, 0].map V.int)) hp)
  have e2 : upd H1 p (.lst (([0, 0] : List Int).map V.int)) p = some (.lst (([0, 0] : List Int).map V.int)) := upd_same
  have np : H p = none := f1.free hp
  show tLc _ _ _ _ _ [some (.ref rg), none] (upd H1 p (.lst (([0, 0] : List Int).map V.int))) _
  generalize upd H1 p (.lst (([0, 0] : List Int).map V.int)) = H2 at f2 e2
  refine ⟨_, rfl, 1, rfl, rg, _, rfl, sqT_same' sq f2, fun hw => ?_, fun _ s o hs od => ?_⟩
  · exact absurd hw.1 (by show ¬ HT.sIx 3 0 (some ((1 : Nat) : Int)) = 0; rw [HT.sIx_nat]; decide)
  have ec : cutV [x, V.ref t1, V.ref t2] (some 1) none = [V.ref t1, V.ref t2] := rfl
  rw [ec]
  have f3 := f2.trans (fr_new (o := .frz o (.tup [V.ref t1, V.ref t2])) hs)
  have e3 : upd H2 s (.frz o (.tup [V.ref t1, V.ref t2])) p = some (.lst (([0, 0] : List Int).map V.int)) := by
    rw [upd_ne (fun z => by rw [← z, e2] at hs; cases hs)]
    exact e2
  have es : upd H2 s (.frz o (.tup [V.ref t1, V.ref t2])) s = some (.frz o (.tup [V.ref t1, V.ref t2])) := upd_same
  generalize upd H2 s (.frz o (.tup [V.ref t1, V.ref t2])) = H3 at f3 e3 es
  refine ⟨s, rfl, ⟨_, .inl (.inr ⟨o, es⟩)⟩, fun D hD => ?_⟩
  have nD : H D = none := f3.free hD
  refine lc_tup (xs := [V.ref t1, V.ref t2]) (fun i H' => Fr [] H3 H' ∧ ∃ rs : List Addr, rs.length = i ∧ H' D = some (.lst (rs.map V.ref)) ∧ rs.Nodup ∧ (∀ r ∈ rs, H3 r = none ∧ r ≠ D) ∧ ∀ (j : Nat) (r : Addr) (l : Ls), rs[j]? = some r → [nones n1, nones n2][j]? = some l → H' r = some (.lst (l.map ov)))
    ⟨fr_new hD, [], rfl, upd_same, .nil, by simp, by simp⟩ (fun i H' _ ⟨f, _⟩ => sqT_same' (.inl (.inr ⟨o, es⟩)) f) (fun i v H' hv ⟨f, rs, rl, rD, rn, rf, rr⟩ => ?_) (fun H' ⟨f, rs, rl, rD, rn, rf, rr⟩ => ?_)
  · have step : ∀ (t : Addr) (n : Int) (u : V), v = .ref t → SqT K H t [.int n, u] → (0 ≤ n ∧ n ≤ 1000) → [nones n1, nones n2][i]? = some (nones n) → gName 1 v (wipe [some (V.ref rg), none] [1]) H' fun σ2 H2 => wipe σ2 [1] = wipe [some (V.ref rg), none] [1] ∧ tYes σ2 H2 fun b H3' => if b = true then tOp rRep (tLst (tCons (tC .non) tNil)) (tOp (rIxT K) (tVar 1) (tC (.int 0))) σ2 H3' fun y H4 => ∃ acc, H4 D = some (.lst acc) ∧ acc.length < sizeLine ∧
        (Fr [] H3 (upd H4 D (.lst (acc ++ [y]))) ∧ ∃ rs : List Addr, rs.length = i + 1 ∧ (upd H4 D (.lst (acc ++ [y]))) D = some (.lst (rs.map V.ref)) ∧ rs.Nodup ∧ (∀ r ∈ rs, H3 r = none ∧ r ≠ D) ∧ ∀ (j : Nat) (r : Addr) (l : Ls), rs[j]? = some r → [nones n1, nones n2][j]? = some l → (upd H4 D (.lst (acc ++ [y]))) r = some (.lst (l.map ov))) else
        (Fr [] H3 H3' ∧ ∃ rs : List Addr, rs.length = i + 1 ∧ H3' D = some (.lst (rs.map V.ref)) ∧ rs.Nodup ∧ (∀ r ∈ rs, H3 r = none ∧ r ≠ D) ∧ ∀ (j : Nat) (r : Addr) (l : Ls), rs[j]? = some r → [nones n1, nones n2][j]? = some l → H3' r = some (.lst (l.map ov))) := by
      rintro t n u rfl qt bn en
      refine ⟨rfl, yes_go ?_⟩
      refine ⟨by show (1 : Nat) ≤ sizeLine; rw [sizeLine_eq]; omega, fun m hm => ?_⟩
      have g1 := f.trans (fr_new (o := .lst [V.non]) hm)
      have g0 : Fr [] H' (upd H' m (.lst [V.non])) := fr_new hm
      have m1 : upd H' m (.lst [V.non]) m = some (.lst [V.non]) := upd_same
      generalize upd H' m (.lst [V.non]) = J1 at g1 g0 m1
      refine ⟨_, rfl, t, _, 0, _, rfl, rfl, sqT_same' qt (f3.trans g1), rfl, m, n, _, rfl, rfl, m1, by omega, by omega, ?_, fun r hr => ?_⟩
      · show (1 : Nat) * n.toNat ≤ sizeLine
        rw [sizeLine_eq]
        omega
      rw [nones_ov]
      have g2 : Fr [] J1 (upd J1 r (.lst ((nones n).map ov))) := fr_new hr
      have r1 : upd J1 r (.lst ((nones n).map ov)) r = some (.lst ((nones n).map ov)) := upd_same
      generalize upd J1 r (.lst ((nones n).map ov)) = J2 at g2 r1
      have rD2 := g2 _ _ (by simp) (g0 _ _ (by simp) rD)
      have rne : r ≠ D := fun z => by rw [z, g0 _ _ (by simp) rD] at hr; cases hr
      have r3 : H3 r = none := g1.free hr
      have rnot : r ∉ rs := fun hm2 => by
        obtain ⟨j, hj, ej⟩ := List.getElem_of_mem hm2
        have jl : j < ([nones n1, nones n2] : List Ls).length := by
          have := (List.getElem?_eq_some_iff.mp en).1
          omega
        have z := rr j r _ (by rw [List.getElem?_eq_getElem hj, ej]) (List.getElem?_eq_getElem jl)
        rw [g0 _ _ (by simp) z] at hr
        cases hr
      refine ⟨_, rD2, ?_, ?_, rs ++ [r], by simp [rl], by rw [upd_same]; simp, ?_, ?_, ?_⟩
      · rw [List.length_map, rl, sizeLine_eq]
        have := (List.getElem?_eq_some_iff.mp en).1
        simp at this
        omega
      · exact fun c o hc e => by
          rw [upd_ne (fun z => by rw [z, hD] at e; cases e)]
          exact g2 _ _ hc (g1 _ _ hc e)
      · rw [List.nodup_append]
        exact ⟨rn, by simp, fun a ha b hb => by simp at hb; subst hb; exact fun e => rnot (e ▸ ha)⟩
      · intro c hc
        rcases List.mem_append.mp hc with hc | hc
        · exact rf c hc
        · rw [List.mem_singleton.mp hc]
          exact ⟨r3, rne⟩
      · intro j c l hj hl
        have cD : c ≠ D := by
          have hc := List.mem_of_getElem? hj
          rcases List.mem_append.mp hc with hc | hc
          · exact (rf c hc).2
          · rw [List.mem_singleton.mp hc]
            exact rne
        rw [upd_ne cD]
        by_cases jl : j < rs.length
        · rw [List.getElem?_append_left jl] at hj
          exact g2 _ _ (by simp) (g0 _ _ (by simp) (rr j c l hj hl))
        · rw [List.getElem?_append_right (by omega)] at hj
          have j0 : j - rs.length = 0 := by
            cases q : j - rs.length with
            | zero => rfl
            | succ m => rw [q] at hj; simp at hj
          rw [j0] at hj
          cases hj
          have ji : j = i := by omega
          rw [ji, en] at hl
          cases hl
          exact r1
    match i, hv with
    | 0, hv => cases hv; exact step t1 n1 y rfl q1 b1 rfl
    | 1, hv => cases hv; exact step t2 n2 z rfl q2 b2 rfl
    | i + 2, hv => cases hv
  · obtain ⟨r0, r1, rfl⟩ : ∃ r0 r1, rs = [r0, r1] := by
      match rs, rl with
      | [a, b], _ => exact ⟨a, b, rfl⟩
    have ep := f _ _ (by simp) e3
    refine ⟨by show (2 : Nat) ≤ sizeLine; rw [sizeLine_eq]; omega, fun b hb => ?_⟩
    have f4 := f3.trans f
    have nb : H b = none := f4.free hb
    have er0 := rr 0 r0 _ rfl rfl
    have er1 := rr 1 r1 _ rfl rfl
    have k0 := rf r0 (by simp)
    have k1 := rf r1 (by simp)
    have d1 : b ≠ p := Fr.ne hb ep
    have d2 : b ≠ D := Fr.ne hb rD
    have d3 : b ≠ r0 := Fr.ne hb er0
    have d4 : b ≠ r1 := Fr.ne hb er1
    have d5 : p ≠ D := fun z => by rw [z, hD] at e3; cases e3
    have d6 : p ≠ r0 := fun z => by rw [z, k0.1] at e3; cases e3
    have d7 : p ≠ r1 := fun z => by rw [z, k1.1] at e3; cases e3
    have d8 : r0 ≠ r1 := by
      have := rn
      simp at this
      exact this
    refine k b p D r0 r1 _ ⟨⟨upd_same, ?_, ?_, ?_, rfl, rfl, ?_⟩, ?_, f4.trans (fr_new hb)⟩
    · rw [upd_ne (Ne.symm d1)]; exact ep
    · rw [upd_ne (Ne.symm d2)]; exact rD
    · intro j r l hj hl
      match j, hj, hl with
      | 0, hj, hl => cases hj; cases hl; rw [upd_ne (Ne.symm d3)]; exact er0
      | 1, hj, hl => cases hj; cases hl; rw [upd_ne (Ne.symm d4)]; exact er1
      | j + 2, hj, _ => cases hj
    · simp only [List.nodup_cons, List.mem_cons, List.not_mem_nil, or_false, not_or, List.nodup_nil, and_true, not_false_eq_true]
      exact ⟨⟨d1, d2, d3, d4⟩, ⟨d5, d6, d7⟩, ⟨Ne.symm k0.2, Ne.symm k1.2⟩, d8⟩
    · intro c hc
      simp only [List.mem_cons, List.not_mem_nil, or_false] at hc
      rcases hc with rfl | rfl | rfl | rfl | rfl
      · exact nb
      · exact np
      · exact nD
      · exact f3.free k0.1
      · exact f3.free k1.1
end BX

set_option Elab.async false
set_option linter.all false
set_option maxRecDepth 100000
set_option maxHeartbeats 4000000
/-! Boxes of one level and of two; asking one, as a function of data. -/
namespace BX
open PySem PySem.Spec PyProof.Rows L2 GX StX DL
variable [DL.FT]
def rowP (t : PyData) (st : Int) : Option (Int × Int × List Int) := match t with
  | .tuple [.int _, .tuple rows] => (match atI rows st with
    | some (.tuple [.int v, .int a, .tuple hs]) => (match intsOf hs with
      | some is => some (v, a, is)
      | none => none)
    | _ => none)
  | _ => none
def okB (v : Int) (hs : List Int) (l : Ls) : Bool := decide (0 ≤ v) && (decide (v < l.length) && (decide (l.length ≤ 1000) && decide (hs.length = l.length)))
theorem okB_of {v : Int} {hs : List Int} {l : Ls} (h : okB v hs l = true) : 0 ≤ v ∧ v < l.length ∧ l.length ≤ 1000 ∧ hs.length = l.length := by
  simpa [okB] using h
structure St2 where
  s0 : Int
  s1 : Int
  l0 : Ls
  l1 : Ls
def stepP (mode : Str) (t1 t2 : PyData) (S : St2) (w : Str) : Option (Bool × St2) := match rowP t1 S.s0 with
  | none => none
  | some (v0, a0, hs0) => match rowP t2 S.s1 with
    | none => none
    | some (v1, a1, hs1) => if (okB v0 hs0 S.l0 && okB v1 hs1 S.l1) = true then (match askP mode v0 a0 hs0 v1 a1 hs1 S.s0 S.s1 S.l0 S.l1 w with
      | some (s0, s1, l0, l1) => some ((wIx w S.l0).isSome || (wIx w S.l1).isSome, ⟨s0, s1, l0, l1⟩)
      | none => none) else none
def toldP (mode : Str) (t1 t2 : PyData) : St2 → List Str → Option (List Bool)
  | _, [] => some []
  | S, w :: ws => match stepP mode t1 t2 S w with
    | none => none
    | some (h, S') => match toldP mode t1 t2 S' ws with
      | none => none
      | some bs => some (h :: bs)
def strsOf : List PyData → Option (List Str)
  | [] => some []
  | .str x :: ds => match strsOf ds with
    | some xs => some (x :: xs)
    | none => none
  | _ => none
theorem strsOf_eq : ∀ {ds : List PyData} {ns : List Str}, strsOf ds = some ns → ds = ns.map PyData.str
  | [], _, h => by cases h; rfl
  | d :: ds, ns, h => by
    cases d with
    | str x =>
      unfold strsOf at h
      split at h
      · rename_i xs e
        cases h
        rw [strsOf_eq e]
        rfl
      · cases h
    | _ => cases h
theorem tb_of {K : PySem.W.Frag} {G H : Hp} {t : Addr} {d : PyData} {s v a : Int} {hs : List Int} (h : Da K G (.ref t) d) (sm : Same G H) (e : rowP d s = some (v, a, hs)) : Tb K H t s v a hs := by
  unfold rowP at e
  split at e
  · rename_i n rows
    split at e
    · rename_i v' a' hs' er
      split at e
      · rename_i is ei
        cases e
        have eh := intsOf_eq ei
        subst eh
        cases h with
        | @tup _ _ xs _ hx ha =>
          cases ha with
          | @cons _ x0 _ _ _ h0 ha =>
            cases ha with
            | @cons _ x1 _ _ _ h1 ha =>
              cases ha
              cases h1 with
              | @tup _ rr ys _ hy hb =>
                have er2 : ∃ j : Nat, ixN rows.length s = some j ∧ rows[j]? = some (PyData.tuple [.int v, .int a, .tuple (hs.map PyData.int)]) := by
                  unfold atI at er
                  cases q : ixN rows.length s with
                  | none => rw [q] at er; cases er
                  | some j => rw [q] at er; exact ⟨j, rfl, er⟩
                obtain ⟨j, ej, er3⟩ := er2
                obtain ⟨y, ey, hd⟩ := hb.get er3
                cases hd with
                | @tup _ row zs _ hz hc =>
                  cases hc with
                  | @cons _ z0 _ _ _ c0 hc =>
                    cases hc with
                    | @cons _ z1 _ _ _ c1 hc =>
                      cases hc with
                      | @cons _ z2 _ _ _ c2 hc =>
                        cases hc
                        cases c0
                        cases c1
                        cases c2 with
                        | @tup _ hh ws _ hw he =>
                          have ew := he.ints
                          subst ew
                          refine ⟨x0, rr, row, hh, ys, (hx.same sm).sq, (hy.same sm).sq, ?_, (hz.same sm).sq, (hw.same sm).sq⟩
                          unfold atI
                          rw [hb.len, ej]
                          exact ey
      · cases e
    · cases e
  · cases e
theorem Bx.off {H : Hp} {b p q : Addr} {rs : List Addr} {ss : List Int} {ls : List Ls} (B : Bx H b p q rs ss ls) {D : Addr} {o : HO} (ne : ∀ c ∈ b :: p :: q :: rs, c ≠ D) : Bx (upd H D o) b p q rs ss ls := by
  refine ⟨?_, ?_, ?_, fun k s l h1 h2 => ?_, B.l1, B.l2, B.nd⟩
  · rw [upd_ne (ne b (by simp))]; exact B.hb
  · rw [upd_ne (ne p (by simp))]; exact B.hp
  · rw [upd_ne (ne q (by simp))]; exact B.hq
  · rw [upd_ne (ne s (by simp [List.mem_of_getElem? h1]))]; exact B.hr k s l h1 h2
theorem held_ok1 {K : PySem.W.Frag} {H : Hp} {rg b p q r0 : Addr} {ss : List Int} {l0 : Ls} {w : Str} {Q : VK} (B : Bx H b p q [r0] ss [l0])
    (k : ∀ H', Fr [] H H' → (∀ c, H c ≠ none → H' c ≠ none) → Q (.bl (wIx w l0).isSome) H') : tHeld K [some (.ref rg), some (.ref b), some (.str w), none, none, none, none, none, none, none] H Q := by
  have h0 := B.hr 0 r0 l0 rfl rfl
  refine ⟨_, rfl, b, _, 1, _, rfl, rfl, SqL.of B.hb, rfl, q, rfl, ⟨_, SqL.of B.hq⟩, fun D hD => ?_⟩
  have nD : ∀ {acc : List V} {r : Addr} {xs : List V}, H r = some (.lst xs) → upd H D (.lst acc) r = some (.lst xs) := fun {acc r xs} h => by
    rw [upd_ne (fun z => by rw [z, hD] at h; cases h)]
    exact h
  refine lc_list (xs := [V.ref r0]) (fun i H' => H' = upd H D (.lst ([V.bl (wIx w l0).isSome].take i))) rfl (fun i H' _ e => ?_) (fun i x H' hx e => ?_) (fun H' e => ?_)
  · rw [e]
    exact SqL.of (nD B.hq)
  · subst e
    match i, hx with
    | 0, hx =>
      cases hx
      refine ⟨rfl, ?_⟩
      refine yes_go ?_
      refine ⟨_, rfl, _, rfl, r0, _, rfl, .inl (SqL.of (nD h0)), rfl, ovs_flat l0, [], upd_same, by show (0 : Nat) < sizeLine; rw [sizeLine_eq]; omega, ?_⟩
      rw [upd_upd, if_neg Bool.false_ne_true, in_ov]
      rfl
    | i + 1, hx => cases hx
  · subst e
    refine ⟨D, [(wIx w l0).isSome], rfl, SqL.of upd_same, ?_⟩
    have z : ([(wIx w l0).isSome].any id) = (wIx w l0).isSome := by simp
    rw [z]
    refine k _ (Fr.upd (.inr hD)) fun c hc => ?_
    by_cases e : c = D
    · rw [e, upd_same]; simp
    · rw [upd_ne e]; exact hc
def spAsk1 (K : PySem.W.Frag) : Sp := fun vs H Q _ => ∃ (rg b p q r0 t1 : Addr) (s0 : Int) (l0 : Ls) (mode w : Str) (v0 a0 : Int) (hs0 : List Int) (hit : Bool) (gone : Option Str) (s0' : Int) (l0' : Ls),
  vs = [.ref rg, .ref b, .str w] ∧ SqT K H rg [.str mode, .ref t1] ∧ Bx H b p q [r0] [s0] [l0] ∧ Tb K H t1 s0 v0 a0 hs0 ∧
  (0 ≤ v0 ∧ v0 < l0.length ∧ l0.length ≤ 1000 ∧ hs0.length = l0.length) ∧
  goP v0 a0 hs0 l0 w = some (hit, gone, s0', l0') ∧ ∀ H', PostA H H' b p q [r0] [s0'] [l0'] → Q (.bl (wIx w l0).isSome) H'
theorem s3_one {K : PySem.W.Frag} {H : Hp} {D : Ends} {rg : Addr} {σ : L2.St} {x y v : V} {h : Bool} (h5 : σ[5]? = some (some (.bl h))) (h0 : σ[0]? = some (some (.ref rg))) (sq : SqT K H rg [x, y]) (h3 : σ[3]? = some (some v)) (k : D.rt v H) : tIfS (tOr (tB (tVar 5)) (tTest (tOp rEq (tCB (rLn K) (tCons (tVar 0) tNil)) (tC (.int 2))))) (tRet (tVar 3)) tNext D σ H := by
  cases h with
  | true => exact s3_hit h5 h3 k
  | false =>
    refine ⟨_, h5, false, rfl, ?_⟩
    simp only [Bool.false_eq_true, ↓reduceIte]
    refine ⟨_, h0, rg, _, rfl, .inr sq, rfl, _, rfl, ?_⟩
    have e : decide (V.int (([x, y] : List V).length : Nat) = V.int 2) = true := dec_t rfl
    rw [e]
    simp only [↓reduceIte]
    exact ⟨_, h3, k⟩
theorem pure_ask1 {K : PySem.W.Frag} (vs : List V) (H : Hp) (Q : VK) (E : XK) (h : spAsk1 K vs H Q E) : t_ask K { nx := fun _ H' => Q .non H', rt := Q } (start NAsk vs) H := by
  obtain ⟨rg, b, p, q, r0, t1, s0, l0, mode, w, v0, a0, hs0, hit, gone, s0', l0', rfl, sq, B, T1, b0, eg, k⟩ := h
  refine held_ok1 (rg := rg) B fun H1 f1 u1 => ?_
  have B1 := B.same f1
  have g1 : Fr (b :: p :: q :: [r0]) H H1 := f1.weak
  have ll := fun c (hc : c ∈ b :: p :: q :: [r0]) => B.lists hc
  have sq1 := sqT_fr sq g1 ll
  have T11 := T1.fr g1 ll
  refine tGo_ok (i := 1) (at_ := 0) (j := 2) (rg := rg) (b := b) (w := w) (t := t1) rfl sq1 rfl rfl rfl (go_sp (at_ := 0) B1 rfl rfl T11 b0.1 b0.2.1 b0.2.2.1 b0.2.2.2 eg fun r H2 po => ?_)
  refine ⟨r, _, rfl, SqL.of po.at_, rfl, _, _, rfl, _, _, rfl, rfl, ?_⟩
  have P2 : PostA H H2 b p q [r0] [s0'] [l0'] := ⟨po.bx, g1.trans po.fr, fun c hc => po.up c (u1 c hc)⟩
  have sq2 := sqT_fr sq P2.fr ll
  exact s3_one (rg := rg) rfl rfl sq2 rfl (k H2 P2)
structure NewB1 (H H' : Hp) (b p q r0 : Addr) (n1 : Int) : Prop where
  bx : Bx H' b p q [r0] [0] [nones n1]
  new : ∀ c ∈ b :: p :: q :: [r0], H c = none
  fr : Fr [] H H'
def spBox1 (K : PySem.W.Frag) : Sp := fun vs H Q _ => ∃ (rg t1 : Addr) (x y : V) (n1 : Int), vs = [.ref rg] ∧ SqT K H rg [x, .ref t1] ∧ SqT K H t1 [.int n1, y] ∧ (0 ≤ n1 ∧ n1 ≤ 1000) ∧
  ∀ b p q r0 H', NewB1 H H' b p q r0 n1 → Q (.ref b) H'
theorem pure_box1 {K : PySem.W.Frag} (vs : List V) (H : Hp) (Q : VK) (E : XK) (h : spBox1 K vs H Q E) : t_box K { nx := fun _ H' => Q .non H', rt := Q } (start NBox vs) H := by
  obtain ⟨rg, t1, x, y, n1, rfl, sq, q1, b1, k⟩ := h
  refine ⟨by show (1 : Nat) ≤ sizeLine; rw [sizeLine_eq]; omega, fun a0 h0 => ?_⟩
  have f1 := fr_new (o := .lst [V.int 0]) h0
  have e1 : upd H a0 (.lst [V.int 0]) a0 = some (.lst [V.int 0]) := upd_same
  generalize upd H a0 (.lst [V.int 0]) = H1 at f1 e1
  refine ⟨_, rfl, rg, _, rfl, .inr (sqT_same' sq f1), _, _, rfl, rfl, a0, _, _, rfl, rfl, e1, (by show (-(2 ^ 63) : Int) ≤ (2 : Int) - 1; omega), (by show (2 : Int) - 1 < 2 ^ 63; omega), ?_, fun p hp => ?_⟩
  · show (1 : Nat) * ((2 : Int) - 1).toNat ≤ sizeLine
    rw [sizeLine_eq]
    decide
  have f2 := f1.trans (fr_new (o := .lst ([0].map V.int)) hp)
  have e2 : upd H1 p (.lst (([0] : List Int).map V.int)) p = some (.lst (([0] : List Int).map V.int)) := upd_same
  have np : H p = none := f1.free hp
  show tLc _ _ _ _ _ [some (.ref rg), none] (upd H1 p (.lst (([0] : List Int).map V.int))) _
  generalize upd H1 p (.lst (([0] : List Int).map V.int)) = H2 at f2 e2
  refine ⟨_, rfl, 1, rfl, rg, _, rfl, sqT_same' sq f2, fun hw => ?_, fun _ s o hs od => ?_⟩
  · exact absurd hw.1 (by show ¬ HT.sIx 2 0 (some ((1 : Nat) : Int)) = 0; rw [HT.sIx_nat]; decide)
  have ec : cutV [x, V.ref t1] (some 1) none = [V.ref t1] := rfl
  rw [ec]
  have f3 := f2.trans (fr_new (o := .frz o (.tup [V.ref t1])) hs)
  have e3 : upd H2 s (.frz o (.tup [V.ref t1])) p = some (.lst (([0] : List Int).map V.int)) := by
    rw [upd_ne (fun z => by rw [← z, e2] at hs; cases hs)]
    exact e2
  have es : upd H2 s (.frz o (.tup [V.ref t1])) s = some (.frz o (.tup [V.ref t1])) := upd_same
  generalize upd H2 s (.frz o (.tup [V.ref t1])) = H3 at f3 e3 es
  refine ⟨s, rfl, ⟨_, .inl (.inr ⟨o, es⟩)⟩, fun D hD => ?_⟩
  have nD : H D = none := f3.free hD
  refine lc_tup (xs := [V.ref t1]) (fun i H' => Fr [] H3 H' ∧ ∃ rs : List Addr, rs.length = i ∧ H' D = some (.lst (rs.map V.ref)) ∧ rs.Nodup ∧ (∀ r ∈ rs, H3 r = none ∧ r ≠ D) ∧ ∀ (j : Nat) (r : Addr) (l : Ls), rs[j]? = some r → [nones n1][j]? = some l → H' r = some (.lst (l.map ov)))
    ⟨fr_new hD, [], rfl, upd_same, .nil, by simp, by simp⟩ (fun i H' _ ⟨f, _⟩ => sqT_same' (.inl (.inr ⟨o, es⟩)) f) (fun i v H' hv ⟨f, rs, rl, rD, rn, rf, rr⟩ => ?_) (fun H' ⟨f, rs, rl, rD, rn, rf, rr⟩ => ?_)
  · have step : ∀ (t : Addr) (n : Int) (u : V), v = .ref t → SqT K H t [.int n, u] → (0 ≤ n ∧ n ≤ 1000) → [nones n1][i]? = some (nones n) → gName 1 v (wipe [some (V.ref rg), none] [1]) H' fun σ2 H2 => wipe σ2 [1] = wipe [some (V.ref rg), none] [1] ∧ tYes σ2 H2 fun b H3' => if b = true then tOp rRep (tLst (tCons (tC .non) tNil)) (tOp (rIxT K) (tVar 1) (tC (.int 0))) σ2 H3' fun y H4 => ∃ acc, H4 D = some (.lst acc) ∧ acc.length < sizeLine ∧
        (Fr [] H3 (upd H4 D (.lst (acc ++ [y]))) ∧ ∃ rs : List Addr, rs.length = i + 1 ∧ (upd H4 D (.lst (acc ++ [y]))) D = some (.lst (rs.map V.ref)) ∧ rs.Nodup ∧ (∀ r ∈ rs, H3 r = none ∧ r ≠ D) ∧ ∀ (j : Nat) (r : Addr) (l : Ls), rs[j]? = some r → [nones n1][j]? = some l → (upd H4 D (.lst (acc ++ [y]))) r = some (.lst (l.map ov))) else
        (Fr [] H3 H3' ∧ ∃ rs : List Addr, rs.length = i + 1 ∧ H3' D = some (.lst (rs.map V.ref)) ∧ rs.Nodup ∧ (∀ r ∈ rs, H3 r = none ∧ r ≠ D) ∧ ∀ (j : Nat) (r : Addr) (l : Ls), rs[j]? = some r → [nones n1][j]? = some l → H3' r = some (.lst (l.map ov))) := by
      rintro t n u rfl qt bn en
      refine ⟨rfl, yes_go ?_⟩
      refine ⟨by show (1 : Nat) ≤ sizeLine; rw [sizeLine_eq]; omega, fun m hm => ?_⟩
      have g1 := f.trans (fr_new (o := .lst [V.non]) hm)
      have g0 : Fr [] H' (upd H' m (.lst [V.non])) := fr_new hm
      have m1 : upd H' m (.lst [V.non]) m = some (.lst [V.non]) := upd_same
      generalize upd H' m (.lst [V.non]) = J1 at g1 g0 m1
      refine ⟨_, rfl, t, _, 0, _, rfl, rfl, sqT_same' qt (f3.trans g1), rfl, m, n, _, rfl, rfl, m1, by omega, by omega, ?_, fun r hr => ?_⟩
      · show (1 : Nat) * n.toNat ≤ sizeLine
        rw [sizeLine_eq]
        omega
      rw [nones_ov]
      have g2 : Fr [] J1 (upd J1 r (.lst ((nones n).map ov))) := fr_new hr
      have r1 : upd J1 r (.lst ((nones n).map ov)) r = some (.lst ((nones n).map ov)) := upd_same
      generalize upd J1 r (.lst ((nones n).map ov)) = J2 at g2 r1
      have rD2 := g2 _ _ (by simp) (g0 _ _ (by simp) rD)
      have rne : r ≠ D := fun z => by rw [z, g0 _ _ (by simp) rD] at hr; cases hr
      have r3 : H3 r = none := g1.free hr
      have rnot : r ∉ rs := fun hm2 => by
        obtain ⟨j, hj, ej⟩ := List.getElem_of_mem hm2
        have jl : j < ([nones n1] : List Ls).length := by
          have := (List.getElem?_eq_some_iff.mp en).1
          omega
        have z := rr j r _ (by rw [List.getElem?_eq_getElem hj, ej]) (List.getElem?_eq_getElem jl)
        rw [g0 _ _ (by simp) z] at hr
        cases hr
      refine ⟨_, rD2, ?_, ?_, rs ++ [r], by simp [rl], by rw [upd_same]; simp, ?_, ?_, ?_⟩
      · rw [List.length_map, rl, sizeLine_eq]
        have := (List.getElem?_eq_some_iff.mp en).1
        simp at this
        omega
      · exact fun c o hc e => by
          rw [upd_ne (fun z => by rw [z, hD] at e; cases e)]
          exact g2 _ _ hc (g1 _ _ hc e)
      · rw [List.nodup_append]
        exact ⟨rn, by simp, fun a ha b hb => by simp at hb; subst hb; exact fun e => rnot (e ▸ ha)⟩
      · intro c hc
        rcases List.mem_append.mp hc with hc | hc
        · exact rf c hc
        · rw [List.mem_singleton.mp hc]
          exact ⟨r3, rne⟩
      · intro j c l hj hl
        have cD : c ≠ D := by
          have hc := List.mem_of_getElem? hj
          rcases List.mem_append.mp hc with hc | hc
          · exact (rf c hc).2
          · rw [List.mem_singleton.mp hc]
            exact rne
        rw [upd_ne cD]
        by_cases jl : j < rs.length
        · rw [List.getElem?_append_left jl] at hj
          exact g2 _ _ (by simp) (g0 _ _ (by simp) (rr j c l hj hl))
        · rw [List.getElem?_append_right (by omega)] at hj
          have j0 : j - rs.length = 0 := by
            cases q : j - rs.length with
            | zero => rfl
            | succ m => rw [q] at hj; simp at hj
          rw [j0] at hj
          cases hj
          have ji : j = i := by omega
          rw [ji, en] at hl
          cases hl
          exact r1
    match i, hv with
    | 0, hv => cases hv; exact step t1 n1 y rfl q1 b1 rfl
    | i + 1, hv => cases hv
  · obtain ⟨r0, rfl⟩ : ∃ r0, rs = [r0] := by
      match rs, rl with
      | [a], _ => exact ⟨a, rfl⟩
    have ep := f _ _ (by simp) e3
    refine ⟨by show (2 : Nat) ≤ sizeLine; rw [sizeLine_eq]; omega, fun b hb => ?_⟩
    have f4 := f3.trans f
    have nb : H b = none := f4.free hb
    have er0 := rr 0 r0 _ rfl rfl
    have k0 := rf r0 (by simp)
    have d1 : b ≠ p := Fr.ne hb ep
    have d2 : b ≠ D := Fr.ne hb rD
    have d3 : b ≠ r0 := Fr.ne hb er0
    have d5 : p ≠ D := fun z => by rw [z, hD] at e3; cases e3
    have d6 : p ≠ r0 := fun z => by rw [z, k0.1] at e3; cases e3
    refine k b p D r0 _ ⟨⟨upd_same, ?_, ?_, ?_, rfl, rfl, ?_⟩, ?_, f4.trans (fr_new hb)⟩
    · rw [upd_ne (Ne.symm d1)]; exact ep
    · rw [upd_ne (Ne.symm d2)]; exact rD
    · intro j r l hj hl
      match j, hj, hl with
      | 0, hj, hl => cases hj; cases hl; rw [upd_ne (Ne.symm d3)]; exact er0
      | j + 1, hj, _ => cases hj
    · simp only [List.nodup_cons, List.mem_cons, List.not_mem_nil, or_false, not_or, List.nodup_nil, and_true, not_false_eq_true]
      exact ⟨⟨d1, d2, d3⟩, ⟨d5, d6⟩, Ne.symm k0.2⟩
    · intro c hc
      simp only [List.mem_cons, List.not_mem_nil, or_false] at hc
      rcases hc with rfl | rfl | rfl | rfl
      · exact nb
      · exact np
      · exact nD
      · exact f3.free k0.1
/-! ### one level or two -/
def spAskG (K : PySem.W.Frag) : Sp := fun vs H Q E => spAsk1 K vs H Q E ∨ spAsk K vs H Q E
theorem pure_askG {K : PySem.W.Frag} (vs : List V) (H : Hp) (Q : VK) (E : XK) (h : spAskG K vs H Q E) : t_ask K { nx := fun _ H' => Q .non H', rt := Q } (start NAsk vs) H :=
  h.elim (pure_ask1 vs H Q E) (pure_ask vs H Q E)
def spBoxG (K : PySem.W.Frag) : Sp := fun vs H Q E => spBox1 K vs H Q E ∨ spBox K vs H Q E
theorem pure_boxG {K : PySem.W.Frag} (vs : List V) (H : Hp) (Q : VK) (E : XK) (h : spBoxG K vs H Q E) : t_box K { nx := fun _ H' => Q .non H', rt := Q } (start NBox vs) H :=
  h.elim (pure_box1 vs H Q E) (pure_box vs H Q E)
/-- a box asked: what the parameters hold behind it -/
def F_ask : FF := fun sls => match sls with
  | [.dat (.tuple [.str _, t1]), .own true (.b p q rs [s0] [l0]), .dat (.str w)] => (match rowP t1 s0 with
    | some (v0, a0, hs0) => if okB v0 hs0 l0 = true then (match goP v0 a0 hs0 l0 w with
      | some (_, _, s, l) => some (.bool (wIx w l0).isSome, [.un, .own true (.b p q rs [s] [l]), .un])
      | none => none) else none
    | none => none)
  | [.dat (.tuple [.str mode, t1, t2]), .own true (.b p q rs [s0, s1] [l0, l1]), .dat (.str w)] => (match stepP mode t1 t2 ⟨s0, s1, l0, l1⟩ w with
    | some (h, S) => some (.bool h, [.un, .own true (.b p q rs [S.s0, S.s1] [S.l0, S.l1]), .un])
    | none => none)
  | _ => none
theorem ask_back {ww : World} {K : PySem.W.Frag} {G H H' : Hp} {v0 v2 : V} {x y : Sl} {b p q : Addr} {rs : List Addr} {ss ss' : List Int} {ls ls' : List Ls} (R : Rl ww K G ([v0, .ref b, v2].map some) [x, .own true (.b p q rs ss ls), y] H) (P : PostA H H' b p q rs ss' ls') :
    Rl ww K G ([v0, .ref b, v2].map some) [.un, .own true (.b p q rs ss' ls'), .un] H' ∧ Sx G ([v0, .ref b, v2].map some) [x, .own true (.b p q rs ss ls), y] H G ([v0, .ref b, v2].map some) [.un, .own true (.b p q rs ss' ls'), .un] H' := by
  obtain ⟨b', e, eg, B⟩ := R.own (i := 1) rfl
  cases e
  refine ⟨⟨rfl, fun c o e => P.fr c o (fun m => ?_) (R.sub c o e), fun {i d} e => ?_, fun {i bb c} e => ?_, fun {i j bb c ds es p1 p2 a} e1 e2 _ _ _ _ => ?_, fun {i ns} e => ?_, R.tb.step (Same.refl _) fun P' ps h1 h2 => ⟨h2, P.fr P' _ (fun m => Cr.noT B m h1 ps rfl) h1⟩⟩, ⟨Same.refl _, fun _ h => .inl h, fun c o e _ n => P.fr c o (fun m => n ⟨1, true, _, b, rfl, rfl, m⟩) e, fun c ⟨i, bb, ds, r, e1, e2, e3⟩ => ?_, P.up, fun i ds e => ?_⟩⟩
  · rw [eg c m] at e; cases e
  · match i, e with
    | 0, e => cases e
    | 1, e => cases e
    | 2, e => cases e
    | i + 3, e => cases e
  · match i, e with
    | 0, e => cases e
    | 1, e => cases e; exact ⟨b, rfl, eg, P.bx⟩
    | 2, e => cases e
    | i + 3, e => cases e
  · match i, j, e1, e2 with
    | 0, _, e1, _ => cases e1
    | 1, 0, _, e2 => cases e2
    | 1, 1, _, _ => rfl
    | 1, 2, _, e2 => cases e2
    | 1, j + 3, _, e2 => cases e2
    | 2, _, e1, _ => cases e1
    | i + 3, _, e1, _ => cases e1
  · match i, e with
    | 0, e => cases e
    | 1, e => cases e
    | 2, e => cases e
    | i + 3, e => cases e
  · match i, e1 with
    | 0, e1 => cases e1
    | 1, e1 => cases e1; exact .inl ⟨1, true, _, r, rfl, e2, e3⟩
    | 2, e1 => cases e1
    | i + 3, e1 => cases e1
  · match i, e with
    | 0, e => cases e
    | 1, e => cases e; exact ⟨⟨_, rfl, fun _ => rfl⟩, rfl⟩
    | 2, e => cases e
    | i + 3, e => cases e
theorem ask_sp {ww : World} {K : PySem.W.Frag} (vs : List V) (H : Hp) (Q : VK) (E : XK) (h : spD ww K 3 F_ask vs H Q E) : spAskG K vs H Q E := by
  obtain ⟨hl, G, sls, sls', d, R, hf, k⟩ := h
  obtain ⟨x0, x1, x2, rfl⟩ : ∃ x0 x1 x2, vs = [x0, x1, x2] := by
    match vs, hl with
    | [a, b, c], _ => exact ⟨a, b, c, rfl⟩
  unfold F_ask at hf
  have sm := R.sub
  split at hf
  · rename_i mode t1 p q rs s0 l0 w
    split at hf
    · rename_i v0 a0 hs0 er0
      split at hf
      · rename_i ok
        split at hf
        · rename_i hit gone s l eg
          cases hf
          obtain ⟨y0, e0, d0⟩ := R.dat (i := 0) rfl
          cases e0
          obtain ⟨b, e1, g1, B⟩ := R.own (i := 1) rfl
          cases e1
          obtain ⟨y2, e2, d2⟩ := R.dat (i := 2) rfl
          cases e2
          cases d2
          obtain ⟨r0, rfl⟩ : ∃ r0, rs = [r0] := by
            have := B.l1
            match rs, this with
            | [a], _ => exact ⟨a, rfl⟩
          cases d0 with
          | @tup _ rg xs _ hx ha =>
            cases ha with
            | @cons _ m0 _ _ _ h0 ha =>
              cases ha with
              | @cons _ m1 _ _ _ h1 ha =>
                cases ha
                cases h0
                obtain ⟨at1, rfl⟩ : ∃ a, m1 = .ref a := by
                  unfold rowP at er0
                  split at er0
                  · cases h1 with
                    | tup _ _ => exact ⟨_, rfl⟩
                  · cases er0
                refine .inl ⟨rg, b, p, q, r0, at1, s0, l0, mode, w, v0, a0, hs0, hit, gone, s, l, rfl, (hx.same sm).sq, B, tb_of h1 sm er0, okB_of ok, eg, fun H' P => ?_⟩
                obtain ⟨R', s'⟩ := ask_back R P
                exact k _ G H' R' s' (.bl _)
        · cases hf
      · cases hf
    · cases hf
  · rename_i mode t1 t2 p q rs s0 s1 l0 l1 w
    split at hf
    · rename_i hh S est
      cases hf
      unfold stepP at est
      split at est
      · cases est
      · rename_i v0 a0 hs0 er0
        split at est
        · cases est
        · rename_i v1 a1 hs1 er1
          split at est
          · rename_i ok
            rw [Bool.and_eq_true] at ok
            split at est
            · rename_i s0' s1' l0' l1' ea
              cases est
              obtain ⟨y0, e0, d0⟩ := R.dat (i := 0) rfl
              cases e0
              obtain ⟨b, e1, g1, B⟩ := R.own (i := 1) rfl
              cases e1
              obtain ⟨y2, e2, d2⟩ := R.dat (i := 2) rfl
              cases e2
              cases d2
              obtain ⟨r0, r1, rfl⟩ : ∃ r0 r1, rs = [r0, r1] := by
                have := B.l1
                match rs, this with
                | [a, b], _ => exact ⟨a, b, rfl⟩
              cases d0 with
              | @tup _ rg xs _ hx ha =>
                cases ha with
                | @cons _ m0 _ _ _ h0 ha =>
                  cases ha with
                  | @cons _ m1 _ _ _ h1 ha =>
                    cases ha with
                    | @cons _ m2 _ _ _ h2 ha =>
                      cases ha
                      cases h0
                      have isr : ∀ {m : V} {t : PyData} {s : Int} {r : Int × Int × List Int}, Da K G m t → rowP t s = some r → ∃ a, m = .ref a := fun {m t s r} hm er => by
                        unfold rowP at er
                        split at er
                        · cases hm with
                          | tup _ _ => exact ⟨_, rfl⟩
                        · cases er
                      obtain ⟨at1, rfl⟩ := isr h1 er0
                      obtain ⟨at2, rfl⟩ := isr h2 er1
                      refine .inr ⟨rg, b, p, q, r0, r1, at1, at2, s0, s1, l0, l1, mode, w, v0, a0, hs0, v1, a1, hs1, s0', s1', l0', l1', rfl, (hx.same sm).sq, B, tb_of h1 sm er0, tb_of h2 sm er1, okB_of ok.1, okB_of ok.2, ea, fun H' P => ?_⟩
                      obtain ⟨R', s'⟩ := ask_back R P
                      exact k _ G H' R' s' (.bl _)
            · cases est
          · cases est
    · cases hf
  · cases hf
end BX

set_option Elab.async false
set_option linter.all false
set_option maxRecDepth 100000
set_option maxHeartbeats 4000000
/-! Own dicts and boxes as statements; two names at once; name += e. -/
namespace DL
open PySem PySem.Spec PyProof.Rows L2 GX StX PySem.Calls
variable [DL.FT]
section
variable {X : Cx}
/-! ### d = {} -/
def fDic (i : Nat) : SF := fun ρ => some (.nx (ρ.set i (.own false (.k []))))
theorem ds_dic (i : Nat) {x : Str} {dpos pos pos' : Pos} (nd : X.N.Nodup) (hN : X.N[i]? = some x := by rfl) (hx : Loc X.env.scope x := by first | exact Or.inl rfl | exact Or.inr rfl)
    (hs : swapsWith (.Dict [] [] dpos) (some (.Name x pos')) pos.line X.env = pure false := by rfl) (hf : X.fn x = true ∨ X.env.scope.names.lookup x = some .local := by first | exact .inl rfl | exact .inr rfl) :
    DS X (.Assign [.Name x pos'] (.Dict [] [] dpos) pos) (fDic i) := by
  refine ps_imp (ps_set nd hN hx pe_newK hs hf) ?_
  rintro D σ H ⟨G, ρ, o, R, hf, k⟩
  cases hf
  intro p n
  have x1 := Xt.more (p := p) (o := .ext (DicP X.w p [])) R.sub n
  have R1 := R.ext x1
  have one : ∀ {A : Addr → Prop}, A p → ∀ a ∈ reg p (.k []), A a := fun {A} h a ha => by
    simp only [reg, List.mem_singleton] at ha
    rw [ha]; exact h
  exact k _ G _ (R1.holdC (ds := .k []) (one (Same.free R.sub n)) (one (noOw R n)) ⟨[], upd_same, .nil⟩) (Sx.holdC (ds := .k []) (Sx.ext x1) (one n))
/-! ### d[k] = v -/
def tSubK (j : Nat) (f : EF) : GT := fun d ρ => match f ρ with
  | some (.tuple es, ρ1) => match ρ[j]?, ρ1[j]?, keyD (.tuple es) with
    | some (.own _ (.k _)), some (.own b (.k kvs)), some k => if (decide (NestedKey.depth k ≤ 8) && fits kvs.length) = true then some (ρ1.set j (.own b (.k (kPut kvs k d)))) else none
    | _, _, _ => none
  | _ => none
theorem dtg_subK (hu : X.A.units + 64 < cLine) (j : Nat) {x : Str} {i : Expr} {f : EF} {p pos : Pos} (hi : DE X i f) (hN : X.N[j]? = some x := by rfl) (hv : Vis X.env.scope x := by first | exact Or.inl rfl | exact Or.inr (Or.inl rfl) | exact Or.inr (Or.inr rfl)) (hd : (x == ("__debug__" : Str)) = false := by decide) (hcd : (x == ("__classdict__" : Str)) = false := by decide)
    (ha : ∀ v, assign (.Subscript (.Name x p) i pos) X.env v = (do
      let ov ← holding [v] (eval (.Name x p) X.env)
      let iv ← holding [v, ov] (eval i X.env)
      standAt pos
      holding [v, ov, iv] (setItem ov iv v)
      release [v, ov, iv] []) := by intro _; rfl) : DTg X (.Subscript (.Name x p) i pos) (tSubK j f) := by
  refine pg_imp (pg_sub (pe_var hN hv hd hcd) hi (set_K hu) ha) ?_
  rintro v σ H Q ⟨G, ρ, ρ', d, R, hd, ht, k⟩
  unfold tSubK at ht
  split at ht
  · rename_i es ρ1 h1
    split at ht
    · rename_i c kvs0 b kvs key e0 e1 e2
      split at ht
      · rename_i hz
        rw [Bool.and_eq_true] at hz
        cases ht
        obtain ⟨p, ep, _, _⟩ := R.own e0
        refine ⟨_, ep, ⟨G, ρ, ρ1, .tuple es, R, h1, fun w G1 H1 R1 s1 q1 => ?_⟩⟩
        obtain ⟨p', ep', gp, xs, hp, hx⟩ := R1.own e1
        rw [ep] at ep'
        cases ep'
        obtain ⟨a, ea, hka⟩ : ∃ a, w = .ref a ∧ KeyAt X.K G1 a key := by
          cases q1 with
          | tup h1 h2 => exact ⟨_, rfl, ⟨_, e2, .tup h1 h2⟩, of_decide_eq_true hz.1⟩
        obtain ⟨R2, s2⟩ := R1.mutateC (es := .k (kPut kvs key d)) (o' := .ext (DicP X.w p (xPut xs key a v))) e1 ep (fun _ => rfl) ⟨_, upd_same, storedA hx hka (hd.same s1.gr)⟩
        exact ⟨G1, p, a, key, xs, kvs, rfl, ea, R1.sub, hka, hp, hx, of_decide_eq_true hz.2, k _ _ _ R2 (s1.trans s2)⟩
      · cases ht
    · cases ht
  · cases ht
/-! ### x += e -/
def fAugI (i : Nat) (f : EF) : SF := fun ρ => match ρ[i]? with
  | some (.dat (.int a)) => match f ρ with
    | some (.int b, ρ1) => some (.nx (ρ1.set i (.dat (.int (a + b)))))
    | _ => none
  | _ => none
theorem ds_augI (i : Nat) {x : Str} {e : Expr} {f : EF} {pos pos' : Pos} (nd : X.N.Nodup) (he : DE X e f) (hN : X.N[i]? = some x := by rfl) (hx : Loc X.env.scope x := by first | exact Or.inl rfl | exact Or.inr rfl)
    (hf : X.fn x = true ∨ X.env.scope.names.lookup x = some .local := by first | exact .inl rfl | exact .inr rfl) : DS X (.AugAssign (.Name x pos') .Add e pos) (fAugI i f) := by
  refine ps_imp (ps_aug nd hN hx he ip_add hf) ?_
  rintro D σ H ⟨G, ρ, o, R, hf, k⟩
  unfold fAugI at hf
  split at hf
  · rename_i a e0
    split at hf
    · rename_i b ρ1 e1
      cases hf
      obtain ⟨v, ev, hv⟩ := R.dat e0
      cases hv
      refine ⟨_, ev, ⟨G, ρ, ρ1, _, R, e1, fun v G1 H1 R1 s1 q1 => ?_⟩⟩
      cases q1
      exact ⟨a, b, rfl, rfl, k _ _ _ (R1.put (.int _)) (s1.trans (Sx.put R1))⟩
    · cases hf
  · cases hf
/-! ### x, y = .., data or new lists -/
def fPar2 (i j : Nat) (f g : IF) : SF := fun ρ => match f ρ with
  | none => none
  | some (a, ρ1) => match g ρ1 with
    | none => none
    | some (b, ρ2) => some (.nx (setX (setX ρ2 i a) j b))
theorem ds_par2 {i j : Nat} {x y : Str} {a b : Expr} {f g : IF} {px py pt pos : Pos} {kt k2 pt2} (hc : X.calm = true) (hN : X.N.Nodup) (hi : X.N[i]? = some x) (hj : X.N[j]? = some y) (hij : i ≠ j)
    (hx : X.env.scope.names.lookup x = some .local) (hy : X.env.scope.names.lookup y = some .local) (ha : DX X a f) (hb : DX X b g)
    (hw : swappedStores [.Tuple [.Name x px, .Name y py] kt pt] (.Tuple [a, b] k2 pt2) X.env = pure (some [x, y]))
    (hs : swapsWithSole [.Tuple [.Name x px, .Name y py] kt pt] (.Tuple [a, b] k2 pt2) pos.line X.env = pure false := by rfl)
    (st1 : starEach [a, b] X.env = (false, eval a X.env) :: starEach [b] X.env := by rfl) (st2 : starEach [b] X.env = (false, eval b X.env) :: starEach [] X.env := by rfl) :
    DS X (.Assign [.Tuple [.Name x px, .Name y py] kt pt] (.Tuple [a, b] k2 pt2) pos) (fPar2 i j f g) := by
  refine ps_imp (ps_par hc hN hi hj hij hx hy (pa_cons ha (pa_cons hb pa_nil st2) st1) hw hs) ?_
  rintro D σ H ⟨G, ρ, o, R, hf, k⟩
  unfold fPar2 at hf
  split at hf
  · cases hf
  · rename_i ia ρ1 e1
    split at hf
    · cases hf
    · rename_i ib ρ2 e2
      cases hf
      refine ⟨G, ρ, ρ1, ia, R, e1, fun v1 G1 H1 R1 s1 q1 => ⟨G1, ρ1, ρ2, ib, R1, e2, fun v2 G2 H2 R2 s2 q2 => ⟨v1, v2, rfl, ?_⟩⟩⟩
      have a12 := q1.apart q2
      have p1 := q1.keep s2
      have p2 := q2.new (H0 := H) fun p n => backN s1 n
      have st := s1.trans s2
      obtain ⟨Ra, sa, ka⟩ := ItR.store (i := i) R2 st p1
      have p2' := ka ib v2 a12 p2
      obtain ⟨Rb, sb, _⟩ := ItR.store (i := j) Ra sa p2'
      exact k _ G2 _ Rb sb
/-! ### a box -/
def gBox (i : Nat) : GF := fun ρ => match ρ[i]? with
  | some (.own _ (.b _ _ _ _ _)) => some (.v i, ρ)
  | _ => none
theorem bv (i : Nat) {x : Str} {pos : Pos} (hN : X.N[i]? = some x := by rfl) (hv : Vis X.env.scope x := by first | exact Or.inl rfl | exact Or.inr (Or.inl rfl) | exact Or.inr (Or.inr rfl)) (hd : (x == ("__debug__" : Str)) = false := by decide) (hcd : (x == ("__classdict__" : Str)) = false := by decide) : DG X (.Name x pos) (gBox i) := by
  refine pe_imp (pe_var hN hv hd hcd) ?_
  rintro σ H Q ⟨G, ρ, ρ', a, R, hf, k⟩
  unfold gBox at hf
  split at hf
  · rename_i c p q rs ss ls e
    cases hf
    obtain ⟨b, e', _⟩ := R.own e
    exact ⟨_, e', k _ G H R (Sx.refl _ _ _ _) e'⟩
  · cases hf
/-! ### repr of nested lists -/
mutual
theorem Da.reads0 {pins : List (Addr × Obj)} {σ : L2.St} {H : Hp} {s : Shared} (I : Inv X pins σ H s) : ∀ (d : PyData) (v : V) (u : Value), Da X.K H v d → PyData.hasDict d = false → RelV v u → ∃ as, Reads s.heap u d as
  | .none, _, _, h, _, r => by cases h; cases r; exact ⟨_, .none⟩
  | .bool b, _, _, h, _, r => by cases h; cases r; exact ⟨_, .bool b⟩
  | .int i, _, _, h, _, r => by cases h; obtain ⟨t, rfl⟩ := r; exact ⟨_, .int i t⟩
  | .str x, _, _, h, _, r => by cases h; obtain ⟨t, rfl⟩ := r; exact ⟨_, .str x t⟩
  | .list ds, _, _, h, c, r => by
    cases h with
    | lst hs ha =>
      cases r
      obtain ⟨its, rv, ⟨o, n, ho, hc, _, hd⟩, _⟩ := I.list (SqL.of hs)
      obtain ⟨as, hr⟩ := DaA.reads0 I ds _ its ha (by simpa [PyData.hasDict] using c) rv
      exact ⟨_, .list ho hc hd hr⟩
  | .tuple ds, _, _, h, c, r => by
    cases h with
    | tup hs ha =>
      cases r
      obtain ⟨its, rv, ⟨o, ho, hc, n, hd⟩, _⟩ := I.tuple hs.sq
      obtain ⟨as, hr⟩ := DaA.reads0 I ds _ its ha (by simpa [PyData.hasDict] using c) rv
      exact ⟨_, .tuple ho hc hd hr⟩
  | .dict kvs, _, _, h, c, r => by simp [PyData.hasDict] at c
theorem DaA.reads0 {pins : List (Addr × Obj)} {σ : L2.St} {H : Hp} {s : Shared} (I : Inv X pins σ H s) : ∀ (ds : List PyData) (vs : List V) (us : List Value), DaA X.K H vs ds → PyData.hasDictAll ds = false → Vals vs us → ∃ as, ReadsAll s.heap us ds as
  | [], _, _, h, _, r => by cases h; cases r; exact ⟨_, .nil⟩
  | d :: ds, _, _, h, c, r => by
    cases h with
    | cons h1 h2 =>
      cases r with
      | cons r1 r2 =>
        simp only [PyData.hasDictAll, Bool.or_eq_false_iff] at c
        obtain ⟨as, q1⟩ := Da.reads0 I d _ _ h1 c.1 r1
        obtain ⟨bs, q2⟩ := DaA.reads0 I ds _ _ h2 c.2 r2
        exact ⟨_, .cons q1 q2⟩
end
def rReprN (K : PySem.W.Frag) : List V → Hp → VK → Prop := fun xs H Q => ∃ (p : Addr) (vs : List V) (ds : List PyData), xs = [.ref p] ∧ vs ≠ [] ∧ H p = some (.lst vs) ∧ DaA K H vs ds ∧ PyData.hasDictAll ds = false ∧
  PyData.showableAll ds = true ∧ PyData.depthAll ds ≤ 60 ∧ (listText (PyData.shownAll ds)).length ≤ sizeLine ∧ Q (.str (listText (PyData.shownAll ds))) H
theorem call_reprN (hG : Gd X.A) (hu : X.A.units + 64 < cLine) : CallR X (.builtin "repr") (rReprN X.K) := by
  intro pins s σ H xs us Q I r h
  obtain ⟨p, vs, ds, rfl, hne, hs, ha, hdi, hsh, hdep, hz, q⟩ := h
  cases r with
  | cons r1 r2 =>
    cases r2
    cases r1
    obtain ⟨its, rv, ⟨o, n, ho, hc, _, hd⟩, _⟩ := I.list (SqL.of hs)
    obtain ⟨as, hr⟩ := DaA.reads0 I ds _ its ha hdi rv
    cases its with
    | nil => cases rv; exact (hne rfl).elim
    | cons y l =>
      have hrl : ReadsAll s.heap (y :: l).toArray.toList ds as := by simpa using hr
      obtain ⟨bs, hb, hk⟩ := ReprAllK.of_readsAll (prog := X.prog) (w := X.w) hr hsh (fun z => by rw [hdi] at z; cases z) (fun t ht => Nat.le_trans (listText_mem_le ht) hz)
      have hna : p ∉ bs := not_mem_of_deeper (Reads.list ho hc hd hrl) (n := PyData.depthAll ds) (by simp only [PyData.depth]; omega) hb
      refine call_repr_slot (T := "list") (idr := "list.__repr__") (by omega) ⟨o, ho, hc⟩ F.slot_list_repr.toG ?_
      refine call_list_reprK (A := X.A.in1) (d := PyData.depthAll ds) ho hc hd hna (by simpa using hk.length_eq) (fun i z e => hk.item i z (by simpa using e)) hG (fun b _ => Clear.nil b) (by show X.A.units + 1 + (PyData.depthAll ds + 1) < cLine; omega) (fun _ _ e => e) (fun h' u tk hkeep => ?_) hz
      exact ⟨_, _, rfl, .str _, H, I.kept (t' := tk) hkeep, ⟨_, rfl⟩, q⟩
/-- a list's repr, lists in it too -/
def reprN : OpN
  | [.list ds] => if (!ds.isEmpty && !PyData.hasDictAll ds && PyData.showableAll ds && decide (PyData.depthAll ds ≤ 60) && fits (listText (PyData.shownAll ds)).length) = true then some (.str (listText (PyData.shownAll ds))) else none
  | _ => none
theorem cl_reprN (hG : Gd X.A) (hu : X.A.units + 64 < cLine) : CallR X (.builtin "repr") (rCl X.w X.K reprN) := by
  refine CallR.imp (call_reprN hG hu) ?_
  rintro xs H Q ⟨G, ds, r, sub, hd, h, k⟩
  unfold reprN at h
  split at h
  · rename_i es
    split at h
    · rename_i hz
      cases h
      simp only [Bool.and_eq_true, Bool.not_eq_true'] at hz
      obtain ⟨⟨⟨⟨z1, z2⟩, z3⟩, z4⟩, z5⟩ := hz
      obtain ⟨v, rfl, hv⟩ := pair1 hd
      obtain ⟨p, ys, rfl, hp, ha⟩ := bo_list hv sub
      refine ⟨p, ys, es, rfl, ?_, hp, ha.same sub, z2, z3, of_decide_eq_true z4, fits_le z5, k _ G H (Xt.refl sub) (.str _)⟩
      rintro rfl
      cases ha
      cases z1
    · cases h
  · cases h
/-- a box as data -/
def oD : Option Str → PyData
  | none => .none
  | some x => .str x
def boxDs (ss : List Int) (ls : List (List (Option Str))) : List PyData := [.list (ss.map PyData.int), .list (ls.map fun l => .list (l.map oD))]
theorem ovs_da {K : PySem.W.Frag} {H : Hp} : ∀ l : List (Option Str), DaA K H (l.map BX.ov) (l.map oD)
  | [] => .nil
  | none :: l => .cons .non (ovs_da l)
  | some x :: l => .cons (.str x) (ovs_da l)
theorem bx_da {K : PySem.W.Frag} {H : Hp} {b p q : Addr} {rs : List Addr} {ss : List Int} {ls : List (List (Option Str))} (B : BX.Bx H b p q rs ss ls) : DaA K H [.ref p, .ref q] (boxDs ss ls) := by
  refine .cons (.lst B.hp (DaA.ofInts ss)) (.cons (.lst B.hq ?_) .nil)
  have go : ∀ (rs : List Addr) (ls : List (List (Option Str))), rs.length = ls.length → (∀ (k : Nat) (r : Addr) (l : List (Option Str)), rs[k]? = some r → ls[k]? = some l → H r = some (.lst (l.map BX.ov))) → DaA K H (rs.map V.ref) (ls.map fun l => PyData.list (l.map oD)) := by
    intro rs
    induction rs with
    | nil =>
      intro ls h _
      cases ls with
      | nil => exact .nil
      | cons _ _ => simp at h
    | cons r rs ih =>
      intro ls h g
      cases ls with
      | nil => simp at h
      | cons l ls => exact .cons (.lst (g 0 r l rfl rfl) (ovs_da l)) (ih ls (by simpa using h) fun k r' l' h1 h2 => g (k + 1) r' l' (by simpa using h1) (by simpa using h2))
  exact go rs ls B.l1 B.hr
def boxOk (ss : List Int) (ls : List (List (Option Str))) : Bool := !PyData.hasDictAll (boxDs ss ls) && PyData.showableAll (boxDs ss ls) && decide (PyData.depthAll (boxDs ss ls) ≤ 60) && fits (listText (PyData.shownAll (boxDs ss ls))).length
def fReprB (i : Nat) : EF := fun ρ => match ρ[i]? with
  | some (.own _ (.b _ _ _ ss ls)) => if boxOk ss ls = true then some (.str (listText (PyData.shownAll (boxDs ss ls))), ρ) else none
  | _ => none
theorem de_reprB (i : Nat) {e : Expr} (h : PE X e (tCB (rReprN X.K) (tCons (tVar i) tNil))) : DE X e (fReprB i) := by
  refine pe_imp h ?_
  rintro σ H Q ⟨G, ρ, ρ', d, R, hf, k⟩
  unfold fReprB at hf
  split at hf
  · rename_i c p q rs ss ls e0
    split at hf
    · rename_i hz
      cases hf
      simp only [boxOk, Bool.and_eq_true, Bool.not_eq_true'] at hz
      obtain ⟨⟨⟨z1, z2⟩, z3⟩, z4⟩ := hz
      obtain ⟨b, eb, _, B⟩ := R.own e0
      refine ⟨_, eb, b, _, _, rfl, by simp, B.hb, bx_da B, z1, z2, of_decide_eq_true z3, fits_le z4, k _ G H R (Sx.refl _ _ _ _) (.str _)⟩
    · cases hf
  · cases hf
theorem de_neg {n : Int} {j p1 p2} : DE X (.UnaryOp .USub (.Constant (.int n) j p1) p2) (fC (.int (-n))) := by
  refine pe_imp (pe_un un_neg pe_int) ?_
  rintro σ H Q ⟨G, ρ, ρ', d', R, hf, k⟩
  cases hf
  exact ⟨n, rfl, k _ G H R (Sx.refl _ _ _ _) (.int _)⟩
/-! ### list.count -/
section
variable {o e : Expr} {es : List Expr} {f : GF} {g : AF} {apos cpos : Pos}
def lCountD : OpM := fun d ds => match d with | .list _ => countD d ds | _ => none
theorem mlcount (ho : DG X o f) (ha : DAs X (e :: es) g) (hbase : attributeBase o "count" X.env (eval o X.env) = eval o X.env := by rfl)
    (hfew : ((backTo cpos (starEach (e :: es) X.env)).all (fun x => !x.1) && (backToKw cpos (keywordEach [] X.env)).all (fun x => x.1.isSome)
      && decide ((e :: es).length + ([] : List Keyword).length + (if ([] : List Keyword).isEmpty then 0 else 1) < 30)) = true := by rfl)
    (hline : (apos.endLine == cpos.line) = true := by rfl) (hs : starEach (e :: es) X.env = (false, eval e X.env) :: starEach es X.env := by rfl) (hplain : (backTo cpos (starEach es X.env)).any (·.1) = false := by rfl) :
    DE X (.Call (.Attribute o "count" apos) (e :: es) [] cpos) (fMe "list" lCountD f g) :=
  de_me PySem.F.plainAttrs_list PySem.F.slot_list_count PySem.F.type_list_count me_lcount ho ha hbase hfew hline hs hplain
theorem mdget (hu : X.A.units + 64 < cLine) (ho : DG X o f) (ha : DAs X (e :: es) g) (hbase : attributeBase o "get" X.env (eval o X.env) = eval o X.env := by rfl)
    (hfew : ((backTo cpos (starEach (e :: es) X.env)).all (fun x => !x.1) && (backToKw cpos (keywordEach [] X.env)).all (fun x => x.1.isSome)
      && decide ((e :: es).length + ([] : List Keyword).length + (if ([] : List Keyword).isEmpty then 0 else 1) < 30)) = true := by rfl)
    (hline : (apos.endLine == cpos.line) = true := by rfl) (hs : starEach (e :: es) X.env = (false, eval e X.env) :: starEach es X.env := by rfl) (hplain : (backTo cpos (starEach es X.env)).any (·.1) = false := by rfl) :
    DE X (.Call (.Attribute o "get" apos) (e :: es) [] cpos) (fMe "dict" dGetD f g) :=
  de_me PySem.F.plainAttrs_dict PySem.F.slot_dict_get PySem.F.type_dict_get (mt_dget hu) ho ha hbase hfew hline hs hplain
end
end
end DL

set_option Elab.async false
set_option linter.all false
set_option maxRecDepth 100000
set_option maxHeartbeats 4000000
/-! A def whose first row makes a new box, to be changed in it. -/
namespace DL
open PySem PySem.Spec PyProof.Rows L2 GX StX PySem.Calls BX
variable [DL.FT]
theorem new_hold {ww : World} {K : PySem.W.Frag} {G H H1 : Hp} {σ : L2.St} {ρ : Rho} {i : Nat} {b p q : Addr} {rs : List Addr} {ss : List Int} {ls : List (List (Option Str))} (R : Rl ww K G σ ρ H) (f : Fr [] H H1) (B : Bx H1 b p q rs ss ls) (hn : ∀ c ∈ b :: p :: q :: rs, H c = none) :
    Rl ww K G (σ.set i (some (.ref b))) (ρ.set i (.own false (.b p q rs ss ls))) H1 ∧ Sx G σ ρ H G (σ.set i (some (.ref b))) (ρ.set i (.own false (.b p q rs ss ls))) H1 := by
  have x : Xt G H G H1 := ⟨fun a o e _ => f a o (by simp) e, fun a h z => h (by
    cases e : H a with
    | none => rfl
    | some o => rw [f a o (by simp) e] at z; cases z), fun t => t.step (Same.refl _) fun P ps h1 h2 => ⟨h2, f P _ (by simp) h1⟩, fun a o e => f a o (by simp) (R.sub a o e), Same.refl _, fun a h => .inl h⟩
  exact ⟨(R.ext x).holdC (ds := .b p q rs ss ls) (fun a ha => Same.free R.sub (hn a ha)) (fun a ha => noOw R (hn a ha)) B, (Sx.ext x).holdC (ds := .b p q rs ss ls) hn⟩
def allDat (sls : List Sl) : Prop := ∀ (i : Nat) (s : Sl), sls[i]? = some s → ∃ d, s = .dat d
def NewG (m : Nat) (g : SF) (d : PyData) (sls : List Sl) : Prop := allDat sls ∧
  ((∃ (x u1 : PyData) (n1 : Int), sls[0]? = some (.dat (.tuple [x, .tuple [.int n1, u1]])) ∧ (0 ≤ n1 ∧ n1 ≤ 1000) ∧ ∀ (p q r0 : Addr), ∃ ρ', g (sls ++ .own false (.b p q [r0] [0] [nones n1]) :: List.replicate m .un) = some (.rt d ρ')) ∨
  ∃ (x u1 u2 : PyData) (n1 n2 : Int), sls[0]? = some (.dat (.tuple [x, .tuple [.int n1, u1], .tuple [.int n2, u2]])) ∧ (0 ≤ n1 ∧ n1 ≤ 1000) ∧ (0 ≤ n2 ∧ n2 ≤ 1000) ∧ ∀ (p q r0 r1 : Addr), ∃ ρ', g (sls ++ .own false (.b p q [r0, r1] [0, 0] [nones n1, nones n2]) :: List.replicate m .un) = some (.rt d ρ'))
open Classical in
noncomputable def fNewB (m : Nat) (g : SF) : FF := fun sls => if h : ∃ d, NewG m g d sls then some (Classical.choose h, List.replicate sls.length .un) else none
theorem newG_one {m : Nat} {g : SF} {d d' : PyData} {sls : List Sl} (h : NewG m g d sls) (h' : NewG m g d' sls) : d = d' := by
  rcases h.2 with ⟨x, u1, n1, e, _, k⟩ | ⟨x, u1, u2, n1, n2, e, _, _, k⟩
  · rcases h'.2 with ⟨x', u1', n1', e', _, k'⟩ | ⟨x', u1', u2', n1', n2', e', _, _, k'⟩
    · rw [e] at e'
      simp only [Option.some.injEq, Sl.dat.injEq, PyData.tuple.injEq, List.cons.injEq, PyData.int.injEq, and_true] at e'
      obtain ⟨_, rfl, _⟩ := e'
      obtain ⟨s1, a⟩ := k 0 0 0
      obtain ⟨s2, b⟩ := k' 0 0 0
      rw [a] at b
      cases b
      rfl
    · rw [e] at e'
      simp at e'
  · rcases h'.2 with ⟨x', u1', n1', e', _, k'⟩ | ⟨x', u1', u2', n1', n2', e', _, _, k'⟩
    · rw [e] at e'
      simp at e'
    · rw [e] at e'
      simp only [Option.some.injEq, Sl.dat.injEq, PyData.tuple.injEq, List.cons.injEq, PyData.int.injEq, and_true] at e'
      obtain ⟨_, ⟨rfl, _⟩, rfl, _⟩ := e'
      obtain ⟨s1, a⟩ := k 0 0 0 0
      obtain ⟨s2, b⟩ := k' 0 0 0 0
      rw [a] at b
      cases b
      rfl
theorem fNewB_eq {m : Nat} {g : SF} {d : PyData} {sls : List Sl} (h : NewG m g d sls) : fNewB m g sls = some (d, List.replicate sls.length .un) := by
  unfold fNewB
  rw [dif_pos ⟨d, h⟩]
  exact congrArg (fun z => some (z, List.replicate sls.length Sl.un)) (newG_one (Classical.choose_spec (⟨d, h⟩ : ∃ d, NewG m g d sls)) h)
theorem fNewB_of {m : Nat} {g : SF} {d : PyData} {sls sls' : List Sl} (h : fNewB m g sls = some (d, sls')) : NewG m g d sls ∧ sls' = List.replicate sls.length .un := by
  unfold fNewB at h
  split at h
  · rename_i h2
    cases h
    exact ⟨Classical.choose_spec h2, rfl⟩
  · cases h
theorem pure_new {w : World} {K : PySem.W.Frag} {n m : Nat} {N : List Str} {g : SF} (hN : N.length = n + (m + 1)) (vs : List V) (H : Hp) (Q : VK) (E : XK) (h : spD w K n (fNewB m g) vs H Q E) :
    tSeq (tAsg (tCall (spBoxG K) [] E0 (tCons (tVar 0) tNil)) (gName n)) (rS w K g) { nx := fun _ H' => Q .non H', rt := Q } (start N vs) H := by
  obtain ⟨hl, G, sls, sls', d, R, hf, k⟩ := h
  obtain ⟨⟨ad, hc⟩, rfl⟩ := fNewB_of hf
  have hls : vs.length = sls.length := by have := R.len; rwa [List.length_map] at this
  have es : start N vs = vs.map some ++ List.replicate (m + 1) none := by
    show vs.map some ++ List.replicate (N.length - vs.length) none = _
    rw [hl, hN]
    congr 2
    omega
  have R0 : Rl w K G (vs.map some ++ List.replicate (m + 1) none) (sls ++ List.replicate (m + 1) .un) H := by
    refine R.alike (by simp [hls]) fun i s hs h => ?_
    have z := app_un hs h
    have li : i < sls.length := (List.getElem?_eq_some_iff.mp z).1
    exact ⟨z, by rw [List.getElem?_append_left (by simp [hls, li])]⟩
  rw [es]
  have ln : n = sls.length := hl.symm.trans hls
  have r0 : ∀ {s : Sl}, (sls ++ List.replicate (m + 1) Sl.un).set n s = sls ++ s :: List.replicate m .un := fun {s} => by
    rw [ln, List.set_append_right _ _ (Nat.le_refl _), Nat.sub_self]
    rfl
  have fin : ∀ (b p q : Addr) (rs : List Addr) (ss : List Int) (ls : List (List (Option Str))) (H1 : Hp), Fr [] H H1 → Bx H1 b p q rs ss ls → (∀ c ∈ b :: p :: q :: rs, H c = none) → (∃ ρ', g (sls ++ .own false (.b p q rs ss ls) :: List.replicate m .un) = some (.rt d ρ')) →
      rS w K g { nx := fun _ H' => Q .non H', rt := Q } ((vs.map some ++ List.replicate (m + 1) none).set n (some (.ref b))) H1 := by
    rintro b p q rs ss ls H1 f B hn ⟨ρ', eg⟩
    obtain ⟨R1, s1⟩ := new_hold (i := n) R0 f B hn
    rw [r0] at R1 s1
    refine ⟨G, _, .rt d ρ', R1, eg, fun σ' v G' H' R' s' hd => ?_⟩
    obtain ⟨z1, z2⟩ := fin_of (m := m + 1) hls R' (s1.trans s')
    have un : ∀ (i : Nat) (s : Sl), s ≠ Sl.un → (List.replicate sls.length Sl.un)[i]? = some s → (backP sls.length ρ')[i]? = some s ∧ (vs.map some)[i]? = (vs.map some)[i]? := fun i s hs h => (hs (not_un h)).elim
    exact k v G' H' (z1.alike (by simp [hls]) un) (z2.trans (Sx.alike un)) hd
  have rl := R.sub
  have at0 : ∀ {rig : PyData}, sls[0]? = some (.dat rig) → ∃ v, vs[0]? = some v ∧ (vs.map some ++ List.replicate (m + 1) none)[0]? = some (some v) ∧ Da K G v rig := fun {rig} e => by
    obtain ⟨v, ev, hv⟩ := R.dat e
    have l0 : 0 < sls.length := (List.getElem?_eq_some_iff.mp e).1
    refine ⟨v, ?_, ?_, hv⟩
    · rw [List.getElem?_map] at ev
      cases q : vs[0]? with
      | none => rw [q] at ev; cases ev
      | some u => rw [q] at ev; cases ev; rfl
    · rw [List.getElem?_append_left (by simp [hls, l0])]
      exact ev
  rcases hc with ⟨x, u1, n1, e0, b1, kk⟩ | ⟨x, u1, u2, n1, n2, e0, b1, b2, kk⟩
  · obtain ⟨v0, _, ev0, d0⟩ := at0 e0
    cases d0 with
    | @tup _ rg xs _ hx ha =>
      cases ha with
      | @cons _ m0 _ _ _ h0 ha =>
        cases ha with
        | @cons _ m1 _ _ _ h1 ha =>
          cases ha
          cases h1 with
          | @tup _ t1 as1 _ ht1 hat1 =>
            cases hat1 with
            | @cons _ a1 _ _ _ ha1 hat1 =>
              cases hat1 with
              | @cons _ c1 _ _ _ hc1 hat1 =>
                cases hat1
                cases ha1
                refine ⟨_, ev0, .inl ⟨rg, t1, m0, c1, n1, rfl, (hx.same rl).sq, (ht1.same rl).sq, b1, fun b p q r0 H1 NB => ?_⟩⟩
                exact fin b p q [r0] [0] [nones n1] H1 NB.fr NB.bx NB.new (kk p q r0)
  · obtain ⟨v0, _, ev0, d0⟩ := at0 e0
    cases d0 with
    | @tup _ rg xs _ hx ha =>
      cases ha with
      | @cons _ m0 _ _ _ h0 ha =>
        cases ha with
        | @cons _ m1 _ _ _ h1 ha =>
          cases ha with
          | @cons _ m2 _ _ _ h2 ha =>
            cases ha
            cases h1 with
            | @tup _ t1 as1 _ ht1 hat1 =>
              cases hat1 with
              | @cons _ a1 _ _ _ ha1 hat1 =>
                cases hat1 with
                | @cons _ c1 _ _ _ hc1 hat1 =>
                  cases hat1
                  cases ha1
                  cases h2 with
                  | @tup _ t2 as2 _ ht2 hat2 =>
                    cases hat2 with
                    | @cons _ a2 _ _ _ ha2 hat2 =>
                      cases hat2 with
                      | @cons _ c2 _ _ _ hc2 hat2 =>
                        cases hat2
                        cases ha2
                        refine ⟨_, ev0, .inr ⟨rg, t1, t2, m0, c1, c2, n1, n2, rfl, (hx.same rl).sq, (ht1.same rl).sq, (ht2.same rl).sq, b1, b2, fun b p q r0 r1 H1 NB => ?_⟩⟩
                        exact fin b p q [r0, r1] [0, 0] [nones n1, nones n2] H1 NB.fr NB.bx NB.new (kk p q r0 r1)
end DL

set_option Elab.async false
set_option linter.all false
set_option maxRecDepth 100000
set_option maxHeartbeats 4000000
/-! zip; d.setdefault(k, v); max and min of a list. -/
namespace DL
open PySem PySem.Spec PyProof.Rows L2 GX StX PySem.Calls
variable [DL.FT]
/-! ### zip -/
def zipD (xs ys : List PyData) : List PyData := List.zipWith (fun x y => PyData.tuple [x, y]) xs ys
def iZipD (f g : EF) : LF := fun ρ => match f ρ with
  | some (.list xs, ρ1) => (match g ρ1 with
    | some (.list ys, ρ2) => some (zipD xs ys, ρ2)
    | _ => none)
  | some (.tuple xs, ρ1) => (match g ρ1 with
    | some (.tuple ys, ρ2) => some (zipD xs ys, ρ2)
    | _ => none)
  | _ => none
theorem zip_at {xs ys : List PyData} {i : Nat} {d : PyData} (h : (zipD xs ys)[i]? = some d) : ∃ x y, xs[i]? = some x ∧ ys[i]? = some y ∧ d = .tuple [x, y] := by
  unfold zipD at h
  rw [List.getElem?_zipWith] at h
  cases ex : xs[i]? with
  | none => rw [ex] at h; cases h
  | some x =>
    cases ey : ys[i]? with
    | none => rw [ex, ey] at h; cases h
    | some y =>
      rw [ex, ey] at h
      exact ⟨x, y, rfl, rfl, (Option.some.inj h).symm⟩
theorem zip_len (xs ys : List PyData) : (zipD xs ys).length = min xs.length ys.length := by simp [zipD]
section
variable {X : Cx}
theorem dip_zip {e e2 : Expr} {f g : EF} {p pos tpos : Pos} {elts : List Expr} {kk : Nat} (hg : Gl X "zip") (hm : X.mg "zip" = none) (ha : DE X e f) (hb : DE X e2 g)
    (hs : starEach [e, e2] X.env = (false, eval e X.env) :: starEach [e2] X.env := by rfl) (hs2 : starEach [e2] X.env = (false, eval e2 X.env) :: starEach [] X.env := by rfl) (hpl : (backTo pos (starEach [e2] X.env)).any (·.1) = false := by rfl) :
    DIP X (.Tuple elts kk tpos) (.Call (.Name "zip" p) [e, e2] [] pos) (iZipD f g) := by
  refine pi_imp (RZ.pi_zipA hg hm (pa_cons ha (pa_cons hb pa_nil hs2) hs) hs hpl) ?_
  rintro σ H R ⟨G, ρ, ρ', ds, Rr, hf, k⟩
  unfold iZipD at hf
  split at hf
  · rename_i xs ρ1 e1
    split at hf
    · rename_i ys ρ2 e2
      cases hf
      refine ⟨G, ρ, ρ1, _, Rr, e1, fun v1 G1 H1 R1 s1 q1 => ⟨G1, ρ1, _, _, R1, e2, fun v2 G2 H2 R2 s2 q2 => ?_⟩⟩
      have q1 := q1.same s2.gr
      cases q1 with
      | @lst _ a us _ ha hda =>
        cases q2 with
        | @lst _ b ws _ hb hdb =>
          refine ⟨a, b, us, ws, rfl, .inl ⟨SqL.of (R2.sub _ _ ha), SqL.of (R2.sub _ _ hb), k _ _ _ R2 (s1.trans s2) ⟨fun i H3 sm hi => ?_, fun i H3 sm hi => ?_, fun i G3 H3 x H4 d sm sm2 hy hd => ?_⟩⟩⟩
          · rw [zip_len] at hi
            obtain ⟨u, eu, _⟩ := hda.get (List.getElem?_eq_getElem (show i < xs.length by omega))
            obtain ⟨w, ew, _⟩ := hdb.get (List.getElem?_eq_getElem (show i < ys.length by omega))
            exact ⟨us, ws, u, w, SqL.of (sm _ _ ha), SqL.of (sm _ _ hb), eu, ew⟩
          · rw [zip_len] at hi
            refine ⟨us, ws, SqL.of (sm _ _ ha), SqL.of (sm _ _ hb), ?_⟩
            rw [hda.len, hdb.len]
            omega
          · obtain ⟨T, x', y', rfl, nT, rfl, hx, hy⟩ := hy
            obtain ⟨dx, dy, ex, ey, rfl⟩ := zip_at hd
            obtain ⟨u, eu, du⟩ := hda.get ex
            obtain ⟨w, ew, dw⟩ := hdb.get ey
            have z1 := hx us (SqL.of (sm2 _ _ (sm _ _ ha)))
            have z2 := hy ws (SqL.of (sm2 _ _ (sm _ _ hb)))
            rw [eu] at z1
            rw [ew] at z2
            cases z1
            cases z2
            exact ⟨T, _, _, rfl, nT, rfl, rfl, .cons (du.same sm) (.cons (dw.same sm) .nil)⟩
    · cases hf
  · rename_i xs ρ1 e1
    split at hf
    · rename_i ys ρ2 e2
      cases hf
      refine ⟨G, ρ, ρ1, _, Rr, e1, fun v1 G1 H1 R1 s1 q1 => ⟨G1, ρ1, _, _, R1, e2, fun v2 G2 H2 R2 s2 q2 => ?_⟩⟩
      have q1 := q1.same s2.gr
      cases q1 with
      | @tup _ a us _ ha hda =>
        cases q2 with
        | @tup _ b ws _ hb hdb =>
          have sa := (ha.same R2.sub).sq
          have sb := (hb.same R2.sub).sq
          refine ⟨a, b, us, ws, rfl, .inr ⟨sa, sb, k _ _ _ R2 (s1.trans s2) ⟨fun i H3 sm hi => ?_, fun i H3 sm hi => ?_, fun i G3 H3 x H4 d sm sm2 hy hd => ?_⟩⟩⟩
          · rw [zip_len] at hi
            obtain ⟨u, eu, _⟩ := hda.get (List.getElem?_eq_getElem (show i < xs.length by omega))
            obtain ⟨w, ew, _⟩ := hdb.get (List.getElem?_eq_getElem (show i < ys.length by omega))
            exact ⟨us, ws, u, w, (ha.same sm).sq, (hb.same sm).sq, eu, ew⟩
          · rw [zip_len] at hi
            refine ⟨us, ws, (ha.same sm).sq, (hb.same sm).sq, ?_⟩
            rw [hda.len, hdb.len]
            omega
          · obtain ⟨T, x', y', rfl, nT, rfl, hx, hy⟩ := hy
            obtain ⟨dx, dy, ex, ey, rfl⟩ := zip_at hd
            obtain ⟨u, eu, du⟩ := hda.get ex
            obtain ⟨w, ew, dw⟩ := hdb.get ey
            have z1 := hx us ((ha.same sm).same sm2).sq
            have z2 := hy ws ((hb.same sm).same sm2).sq
            rw [eu] at z1
            rw [ew] at z2
            cases z1
            cases z2
            exact ⟨T, _, _, rfl, nT, rfl, rfl, .cons (du.same sm) (.cons (dw.same sm) .nil)⟩
    · cases hf
  · cases hf
/-! ### d.setdefault(k, v) as a row -/
def fDefK (j : Nat) (f g : EF) : SF := fun ρ => match ρ[j]? with
  | some (.own _ (.k _)) => (match f ρ with
    | some (.tuple es, ρ1) => (match g ρ1 with
      | some (d, ρ2) => (match ρ2[j]?, keyD (.tuple es) with
        | some (.own b (.k kvs)), some k => if (decide (NestedKey.depth k ≤ 8) && fits kvs.length) = true then some (.nx (if (kGet kvs k).isSome = true then ρ2 else ρ2.set j (.own b (.k (kPut kvs k d))))) else none
        | _, _ => none)
      | none => none)
    | _ => none)
  | _ => none
theorem ds_defK (hu : X.A.units + 64 < cLine) (j : Nat) {x : Str} {e e2 : Expr} {f g : EF} {p apos cpos pos : Pos} (hf : DE X e f) (hg : DE X e2 g) (hN : X.N[j]? = some x := by rfl) (hv : Vis X.env.scope x := by first | exact Or.inl rfl | exact Or.inr (Or.inl rfl) | exact Or.inr (Or.inr rfl))
    (hd : (x == ("__debug__" : Str)) = false := by decide) (hcd : (x == ("__classdict__" : Str)) = false := by decide)
    (hbase : attributeBase (.Name x p) "setdefault" X.env (eval (.Name x p) X.env) = eval (.Name x p) X.env := by rfl)
    (hfew : ((backTo cpos (starEach [e, e2] X.env)).all (fun x => !x.1) && (backToKw cpos (keywordEach [] X.env)).all (fun x => x.1.isSome)
      && decide ([e, e2].length + ([] : List Keyword).length + (if ([] : List Keyword).isEmpty then 0 else 1) < 30)) = true := by rfl)
    (hline : (apos.endLine == cpos.line) = true := by rfl) (hs : starEach [e, e2] X.env = (false, eval e X.env) :: starEach [e2] X.env := by rfl) (hs2 : starEach [e2] X.env = (false, eval e2 X.env) :: starEach [] X.env := by rfl) (hplain : (backTo cpos (starEach [e2] X.env)).any (·.1) = false := by rfl)
    (hsw : swapsWith (.Call (.Attribute (.Name x p) "setdefault" apos) [e, e2] [] cpos) none pos.line X.env = pure false := by rfl) :
    DS X (.Expr (.Call (.Attribute (.Name x p) "setdefault" apos) [e, e2] [] cpos) pos) (fDefK j f g) := by
  refine ps_imp (ps_expr (pe_me PySem.F.plainAttrs_dict PySem.F.slot_dict_setdefault PySem.F.type_dict_setdefault (mt_defK hu) (pe_var hN hv hd hcd) (pa_cons hf (pa_cons hg pa_nil hs2) hs) hbase hfew hline hs hplain) hsw) ?_
  rintro D σ H ⟨G, ρ, o, R, hf, k⟩
  unfold fDefK at hf
  split at hf
  · rename_i c0 kvs0 e0
    split at hf
    · rename_i es ρ1 e1
      split at hf
      · rename_i d ρ2 e2
        split at hf
        · rename_i b kvs key e3 ek
          split at hf
          · rename_i hz
            rw [Bool.and_eq_true] at hz
            cases hf
            obtain ⟨q, eq, _, xs0, hq0, _⟩ := R.own e0
            refine ⟨_, eq, .inr (.inr ⟨rfl, X.w, q, xs0, rfl, hq0⟩), ⟨G, ρ, ρ1, _, R, e1, fun v1 G1 H1 R1 s1 q1 => ⟨G1, ρ1, ρ2, d, R1, e2, fun v2 G2 H2 R2 s2 q2 => ?_⟩⟩⟩
            obtain ⟨q', eq', gq, xs, hq, hx⟩ := R2.own e3
            rw [eq] at eq'
            cases eq'
            have q1 := q1.same s2.gr
            obtain ⟨a, rfl, hka⟩ : ∃ a, v1 = .ref a ∧ KeyAt X.K G2 a key := by
              cases q1 with
              | tup h1 h2 => exact ⟨_, rfl, ⟨_, ek, .tup h1 h2⟩, of_decide_eq_true hz.1⟩
            refine ⟨G2, q, a, v2, key, xs, kvs, rfl, rfl, R2.sub, hka, hq, hx, of_decide_eq_true hz.2, fun d' z hk _ => ?_, fun hk => ?_⟩
            · rw [hk] at k
              exact k _ _ _ R2 (s1.trans s2)
            · rw [hk] at k
              obtain ⟨R3, s3⟩ := R2.mutateC (es := .k (kPut kvs key d)) (o' := .ext (DicP X.w q (xPut xs key a v2))) e3 eq (fun _ => rfl) ⟨_, upd_same, storedA hx hka q2⟩
              exact k _ _ _ R3 ((s1.trans s2).trans s3)
          · cases hf
        · cases hf
      · cases hf
    · cases hf
  · cases hf
end
end DL

set_option Elab.async false
set_option linter.all false
set_option maxRecDepth 100000
set_option maxHeartbeats 4000000
/-! Functions as data: a call of one. -/
namespace DL
open PySem PySem.Spec PyProof.Rows L2 GX StX NdefX
variable [DL.FT]
/-! ### cells that are tracked, and are not -/
theorem prd_at {α β : Type} {R : α → β → Prop} : ∀ {xs : List α} {ys : List β} {i : Nat} {x : α}, Paired R xs ys → xs[i]? = some x → ∃ y, ys[i]? = some y ∧ R x y
  | _, _, _, _, .nil, e => by simp at e
  | _, _, 0, _, .cons h _, e => by
    simp at e; subst e
    exact ⟨_, rfl, h⟩
  | _, _, i + 1, _, .cons _ t, e => by
    obtain ⟨y, h1, h2⟩ := prd_at (i := i) t (by simpa using e)
    exact ⟨y, by simpa using h1, h2⟩
theorem prd_len {α β : Type} {R : α → β → Prop} : ∀ {xs : List α} {ys : List β}, Paired R xs ys → xs.length = ys.length
  | _, _, .nil => rfl
  | _, _, .cons _ t => congrArg Nat.succ (prd_len t)
theorem celsH_mem {H : Hp} {cs : List Addr} {ws : List V} (h : CelsH H cs ws) {c : Addr} (hc : c ∈ cs) : ∃ v, CelH H c v := by
  obtain ⟨i, hi⟩ := List.mem_iff_getElem?.mp hc
  obtain ⟨v, _, z⟩ := prd_at h hi
  exact ⟨v, z⟩
/-- the tracked cells are put back -/
def put (X : Hp) (cs : List Addr) (Y : Hp) : Hp := fun b => if b ∈ cs then Y b else X b
theorem put_in {X Y : Hp} {cs : List Addr} {b : Addr} (h : b ∈ cs) : put X cs Y b = Y b := if_pos h
theorem put_out {X Y : Hp} {cs : List Addr} {b : Addr} (h : b ∉ cs) : put X cs Y b = X b := if_neg h
section
variable {P : Program} {w : World} {H H' : Hp} {h h' : Heap} {cs : List Addr} {fs : List Addr}
def Frz (H : Hp) (cs : List Addr) : Prop := ∀ c ∈ cs, ∃ o, H c = some (.frz o (.own c))
theorem CelsH.frz {ws : List V} (x : CelsH H cs ws) : Frz H cs := fun c hc => by
  obtain ⟨v, o, u, e, _⟩ := celsH_mem x hc
  exact ⟨o, e⟩
theorem HOk.drp (ok : HOk P w H h) (z : Frz H cs) : HOk P w (DL.drp H cs) h := fun a o e => by
  obtain ⟨_, e⟩ := drp_some e
  refine (ok a o e).stay (fun b u _ q => q) (fun b q => ?_) fun b xs q => ?_
  · rw [drp_out fun hb => ?_]; exact q
    obtain ⟨o, e⟩ := z b hb
    rw [e] at q; cases q
  · rw [drp_out fun hb => ?_]; exact q
    obtain ⟨o, e⟩ := z b hb
    rw [e] at q; cases q
theorem env0_drp {K : PySem.W.Frag} {mg : Str → Option Value} {base : Heap} {A : Around} {outer : List Env} {s : Shared} (e : Env0 P w K mg base A outer s H) (z : Frz H cs) : Env0 P w K mg base A outer s (drp H cs) := by
  have n : ∀ b, H b = none → drp H cs b = none := fun b q => by
    by_cases hb : b ∈ cs
    · exact drp_in hb
    · rw [drp_out hb]; exact q
  exact ⟨e.frames, e.mod, fun b o q => ⟨(e.bs b o q).1, n b (e.bs b o q).2⟩, e.bsz, e.funs, fun b q => n b (e.frf b q), HOk.drp e.hok z, e.bare⟩
/-- the cells are as they were -/
theorem un_put (u : Un fs [] (drp H cs) H' h h') (ok : HOk P w H h) (ok' : HOk P w H' h') (z : Frz H cs) (nf : ∀ b ∈ fs, H b = none) : Un fs [] H (put H' cs H) h h' ∧ HOk P w (put H' cs H) h' ∧ ∀ c ∈ cs, H' c = none := by
  have nx : ∀ b : Addr, b ∉ ([] : List Addr) := fun b q => by simp at q
  have obj : ∀ c ∈ cs, ∃ o, H c = some (.frz o (.own c)) ∧ h.get? c = some o := fun c hc => by
    obtain ⟨o, e⟩ := z c hc
    exact ⟨o, e, (ok c _ e).1⟩
  have no : ∀ c ∈ cs, H' c = none := fun c hc => by
    obtain ⟨o, _, e⟩ := obj c hc
    exact u.free c o e (drp_in hc) (nx c)
  have outs : ∀ b, H b = none → b ∉ cs := fun b q hb => by
    obtain ⟨o, e⟩ := z b hb
    rw [e] at q; cases q
  have tag : ∀ b o, H b = some o → (∀ ob, o ≠ .frz ob (.own b)) → b ∉ cs := fun b o q n hb => by
    obtain ⟨ob, e⟩ := z b hb
    rw [e] at q
    exact n ob (Option.some.inj q).symm
  refine ⟨⟨fun b o e n hf hx => u.keep b o e (by rw [drp_out (outs b n)]; exact n) hf hx, fun b o e n hf hx => u.slot b o e (by rw [drp_out (outs b n)]; exact n) hf hx,
    fun b o e n hx => by rw [put_out (outs b n)]; exact u.free b o e (by rw [drp_out (outs b n)]; exact n) hx, u.there, fun b xs q => ?_, fun b o v q => ?_, fun b ps q => ?_⟩, fun a o e => ?_, no⟩
  · have hb := tag b _ q (fun ob => by intro y; cases y)
    rw [put_out hb]; exact u.tups b xs (by rw [drp_out hb]; exact q)
  · by_cases hb : b ∈ cs
    · rw [put_in hb]; exact q
    · rw [put_out hb]; exact u.frzs b o v (by rw [drp_out hb]; exact q)
  · have hb := tag b _ q (fun ob => by intro y; cases y)
    rw [put_out hb]; exact u.tbls b ps (by rw [drp_out hb]; exact q)
  · have st : ∀ b u, H' b = some u → put H' cs H b = some u := fun b v q => by
      rw [put_out fun hb => by rw [no b hb] at q; cases q]
      exact q
    by_cases hb : a ∈ cs
    · rw [put_in hb] at e
      obtain ⟨ob, e1, e2⟩ := obj a hb
      rw [e1] at e; cases e
      have k : h'.get? a = some ob := u.keep a ob e2 (drp_in hb) (fun q => by rw [nf a q] at e1; cases e1) (nx a)
      exact ⟨k, ob, k⟩
    · rw [put_out hb] at e
      exact (ok' a o e).stay (fun _ _ _ q => q) (fun b q => st b _ q) fun b xs q => st b _ q
end
/-! ### data without functions -/
mutual
def noF : PyData → Bool
  | .list ds => noFs ds
  | .tuple ds => noFs ds
  | .dict [] => true
  | .dict _ => false
  | _ => true
def noFs : List PyData → Bool
  | [] => true
  | d :: ds => noF d && noFs ds
end
section
variable {K : PySem.W.Frag} {G : Hp} {cs : List Addr}
theorem out_of (z : Frz G cs) {b : Addr} {o : HO} (e : G b = some o) (n : ∀ ob, o ≠ .frz ob (.own b)) : b ∉ cs := fun hb => by
  obtain ⟨ob, q⟩ := z b hb
  rw [q] at e
  exact n ob (Option.some.inj e).symm
mutual
theorem Da.drp (z : Frz G cs) : ∀ {d : PyData} {v : V}, Da K G v d → noF d = true → Da K (DL.drp G cs) v d
  | .none, _, h, _ => by cases h; exact .non
  | .bool _, _, h, _ => by cases h; exact .bl _
  | .int _, _, h, _ => by cases h; exact .int _
  | .str _, _, h, _ => by cases h; exact .str _
  | .list ds, _, h, c => by
    cases h with
    | lst hs ha => exact .lst (by rw [drp_out (out_of z hs (fun ob y => by cases y))]; exact hs) (DaA.drp z ha (by simpa [noF] using c))
  | .tuple ds, _, h, c => by
    cases h with
    | tup hs ha =>
      refine .tup ?_ (DaA.drp z ha (by simpa [noF] using c))
      rcases hs with ⟨o, e, q⟩ | y
      · exact .inl ⟨o, by rw [drp_out (out_of z e (fun ob y => by cases y))]; exact e, q⟩
      · exact .inr y
  | .dict [], _, h, _ => by
    cases h with
    | dic hd => exact .dic (by rw [drp_out (out_of z hd (fun ob y => by cases y))]; exact hd)
  | .dict (_ :: _), _, h, c => by simp [noF] at c
theorem DaA.drp (z : Frz G cs) : ∀ {ds : List PyData} {vs : List V}, DaA K G vs ds → noFs ds = true → DaA K (DL.drp G cs) vs ds
  | [], _, h, _ => by cases h; exact .nil
  | d :: ds, _, h, c => by
    simp only [noFs, Bool.and_eq_true] at c
    cases h with
    | cons h1 h2 => exact .cons (Da.drp z h1 c.1) (DaA.drp z h2 c.2)
end
theorem TbG.drp {H : Hp} (t : TbG G H) (z : Frz G cs) : TbG (DL.drp G cs) (DL.drp H cs) := fun p hp => by
  obtain ⟨g, ps, h1, h2, h3⟩ := t p hp
  have no : p.1 ∉ cs := fun m => by
    obtain ⟨o, e⟩ := z _ m
    rw [g] at e; cases e
  refine ⟨by rw [drp_out no]; exact g, ps, by rw [drp_out no]; exact h1, h2, fun pos cv hc => ?_⟩
  obtain ⟨c, e1, e2⟩ := h3 pos cv hc
  have nc : c ∉ cs := fun m => by
    obtain ⟨o, e⟩ := z _ m
    rw [e2] at e; cases e
  exact ⟨c, e1, by rw [drp_out nc]; exact e2⟩
theorem TbG.put {G0 H0 G' H' : Hp} (t : TbG G' H') (ng : ∀ c ∈ cs, G' c = none) (nt : ∀ c ∈ cs, ∀ ps, H' c ≠ some (.tbl ps)) (n0 : ∀ p ∈ FT.tabs, p.1 ∉ cs) : TbG (DL.put G' cs G0) (DL.put H' cs H0) := fun p hp => by
  obtain ⟨g, ps, h1, h2, h3⟩ := t p hp
  have no := n0 p hp
  refine ⟨by rw [put_out no]; exact g, ps, by rw [put_out no]; exact h1, h2, fun pos cv hc => ?_⟩
  obtain ⟨c, e1, e2⟩ := h3 pos cv hc
  have nc : c ∉ cs := fun m => by
    rw [ng _ m] at e2; cases e2
  exact ⟨c, e1, by rw [put_out nc]; exact e2⟩
theorem xt_put {H G' H' : Hp} (z : Frz G cs) (sub : Same G H) (x : Xt (DL.drp G cs) (DL.drp H cs) G' H') (no : ∀ c ∈ cs, H' c = none) : Xt G H (put G' cs G) (put H' cs H) ∧ Same G' (put G' cs G) := by
  have ng : ∀ c ∈ cs, G' c = none := fun c hc => Same.free x.gh (no c hc)
  have zH : Frz H cs := fun c hc => let ⟨o, e⟩ := z c hc; ⟨o, sub _ _ e⟩
  have hh : ∀ (A A' : Hp), Same (DL.drp A cs) A' → Same A (put A' cs A) := fun A A' y b o e => by
    by_cases hb : b ∈ cs
    · rw [put_in hb]; exact e
    · rw [put_out hb]; exact y b o (by rw [drp_out hb]; exact e)
  refine ⟨⟨fun b o e t => ?_, fun b h => ?_, fun t => ?_, fun b o e => ?_, hh _ _ x.gg, fun b h => ?_⟩, fun b o e => ?_⟩
  · by_cases hb : b ∈ cs
    · rw [put_in hb]; exact e
    · rw [put_out hb]; exact x.hh b o (by rw [drp_out hb]; exact e) t
  · by_cases hb : b ∈ cs
    · rw [put_in hb]; exact h
    · rw [put_out hb]; exact x.al b (by rw [drp_out hb]; exact h)
  · exact (x.tt (t.drp z)).put ng (fun c hc ps e => by rw [no c hc] at e; cases e) fun p hp m => by
      obtain ⟨o, e⟩ := z _ m
      rw [(t p hp).1] at e; cases e
  · by_cases hb : b ∈ cs
    · rw [put_in hb] at e ⊢; exact sub _ _ e
    · rw [put_out hb] at e ⊢; exact x.gh _ _ e
  · by_cases hb : b ∈ cs
    · rw [put_in hb] at h; exact .inl h
    · rw [put_out hb] at h
      rcases x.nw b h with y | y
      · rw [drp_out hb] at y; exact .inl y
      · rw [drp_out hb] at y; exact .inr y
  · rw [put_out fun hb => by rw [ng b hb] at e; cases e]
    exact e
end
/-! ### what a function promises -/
abbrev MF := List PyData → List PyData → Option PyData
structure CloG (P : Program) (w : World) (K : PySem.W.Frag) (mg : Str → Option Value) (base : Heap) (k : Nat) (t : Str) (n : Nat) (M : MF) : Prop where
  fn : ∀ (G H : Hp) (h : Heap) (a : Addr) (ds : List PyData), HOk P w H h → K.In h → Same G H → Da K G (.ref a) (fnD t ds) → PySem.W.FnAt a h
  run : ∀ (A : Around) (outer : List Env) (s : Shared) (G H : Hp) (a : Addr) (us : List Value) (vs : List V) (ds as : List PyData) (r : PyData) (Q : VK), Gd A → Room k A → Env0 P w K mg base A outer s H → Same G H → TbG G H → Da K G (.ref a) (fnD t ds) →
    Vals vs us → DaA K G vs as → noFs as = true → as.length = n → M ds as = some r → (∀ v G' H', Xt G H G' H' → Da K G' v r → Q v H') → codeAny (model P w) A (.call (.ref a) ⟨us, []⟩) (CR CX0 outer P w H s Q E0) s
theorem CloG.mono {P : Program} {w : World} {K : PySem.W.Frag} {mg : Str → Option Value} {base : Heap} {j k : Nat} {t : Str} {n : Nat} {M : MF} (c : CloG P w K mg base j t n M) (h : j ≤ k) : CloG P w K mg base k t n M :=
  ⟨c.fn, fun A outer s G H a us vs ds as r Q hG hR => c.run A outer s G H a us vs ds as r Q hG (hR.mono h)⟩
/-! ### a frame whose slots are data -/
theorem dats_at {es : List PyData} {m i : Nat} {s : Sl} (h : (es.map Sl.dat ++ List.replicate m Sl.un)[i]? = some s) : s = .un ∨ ∃ d, s = .dat d ∧ es[i]? = some d := by
  by_cases hl : i < es.length
  · rw [List.getElem?_append_left (by simpa using hl), List.getElem?_map] at h
    cases e : es[i]? with
    | none => rw [e] at h; cases h
    | some d => rw [e] at h; cases h; exact .inr ⟨d, rfl, rfl⟩
  · rw [List.getElem?_append_right (by simpa using hl)] at h
    exact .inl (not_un h)
theorem rl_dats {ww : World} {K : PySem.W.Frag} {G H : Hp} {xs : List V} {es : List PyData} (m : Nat) (sub : Same G H) (t : TbG G H) (h : DaA K G xs es) : Rl ww K G (xs.map some ++ List.replicate m none) (es.map Sl.dat ++ List.replicate m Sl.un) H where
  len := by simp [h.len]
  sub := sub
  dat := fun {i d} q => by
    rcases dats_at q with e | ⟨d', e, e2⟩
    · cases e
    · cases e
      obtain ⟨v, e3, hv⟩ := h.get e2
      have hl : i < xs.length := (List.getElem?_eq_some_iff.mp e3).1
      exact ⟨v, by rw [List.getElem?_append_left (by simpa using hl), List.getElem?_map, e3]; rfl, hv⟩
  own := fun q => by rcases dats_at q with e | ⟨_, e, _⟩ <;> cases e
  dis := fun q => by rcases dats_at q with e | ⟨_, e, _⟩ <;> cases e
  scr := fun q => by rcases dats_at q with e | ⟨_, e, _⟩ <;> cases e
  tb := t
theorem xt_dats {G G' H H' : Hp} {ww : World} {K : PySem.W.Frag} {σ σ' : L2.St} {es : List PyData} {m : Nat} {ρ' : Rho} (R' : Rl ww K G' σ' ρ' H') (s : Sx G σ (es.map Sl.dat ++ List.replicate m Sl.un) H G' σ' ρ' H') : Xt G H G' H' := by
  have no : ∀ b, ¬ Ow σ (es.map Sl.dat ++ List.replicate m Sl.un) b := fun b ⟨i, c, ds, r, h, _⟩ => by rcases dats_at h with e | ⟨_, e, _⟩ <;> cases e
  exact ⟨fun b o e t => s.fr b o e t (no b), s.al, fun _ => R'.tb, R'.sub, s.gr, fun b h => by
    rcases s.new b h with z | z | z
    · exact .inl z
    · exact .inr z
    · exact (no b z).elim⟩
/-- the mirror of a function -/
def mFun (m : Nat) (g : SF) : MF := fun ds as => match g ((as ++ ds).map Sl.dat ++ List.replicate m Sl.un) with
  | some (.rt d _) => some d
  | some (.nx _) => some .none
  | _ => none
theorem zip_lk : ∀ {fr : List Str} {cs : List Addr} {i : Nat} {y : Str} {c : Addr}, fr.Nodup → fr[i]? = some y → cs[i]? = some c → (fr.zip cs).lookup y = some c
  | [], _, _, _, _, _, h, _ => by simp at h
  | _ :: _, [], _, _, _, _, _, h => by simp at h
  | x :: fr, a :: cs, 0, y, c, nd, h1, h2 => by
    simp at h1 h2
    subst h1 h2
    simp [List.lookup]
  | x :: fr, a :: cs, i + 1, y, c, nd, h1, h2 => by
    have h1' : fr[i]? = some y := by simpa using h1
    have ne : (y == x) = false := beq_eq_false_iff_ne.mpr fun z => (List.nodup_cons.mp nd).1 (z ▸ List.mem_of_getElem? h1')
    rw [List.zip_cons_cons, List.lookup_cons, ne]
    exact zip_lk (i := i) (List.nodup_cons.mp nd).2 h1' (by simpa using h2)
theorem zip_mem : ∀ {fr : List Str} {cs : List Addr} {y : Str} {c : Addr}, (fr.zip cs).lookup y = some c → ∃ i : Nat, fr[i]? = some y ∧ cs[i]? = some c := fun {fr cs y c} h => by
  obtain ⟨i, hi⟩ := List.mem_iff_getElem?.mp (PySem.mem_of_lookup h)
  rw [List.getElem?_zip_eq_some] at hi
  exact ⟨i, hi.1, hi.2⟩
theorem cells_at {P : Program} {w : World} {H : Hp} {h : Heap} {fr : List Str} {cs : List Addr} {ws : List V} (ok : HOk P w H h) (nf : fr.Nodup) (nc : cs.Nodup) (hl : cs.length = fr.length) (x : CelsH H cs ws) : CellsAt (fr.zip cs) fr (ws.map some) h (drp H cs) := by
  have cell : ∀ c v, CelH H c v → ∃ u, L2.RelV v u ∧ h.IsCell c (some u) := fun c v ⟨o, u, e, d, r⟩ => ⟨u, r, o, (ok c _ e).1, d⟩
  refine ⟨by rw [List.length_map, ← hl, prd_len x], fun y c e => ?_, fun y z c e1 e2 => ?_, fun i y e => ?_⟩
  · obtain ⟨i, _, hi⟩ := zip_mem e
    have hc := List.mem_of_getElem? hi
    obtain ⟨v, hv⟩ := celsH_mem x hc
    obtain ⟨u, _, z⟩ := cell c v hv
    exact ⟨drp_in hc, _, z⟩
  · obtain ⟨i, h1, h2⟩ := zip_mem e1
    obtain ⟨j, h3, h4⟩ := zip_mem e2
    have li := (List.getElem?_eq_some_iff.mp h2).1
    have e : i = j := (List.getElem?_inj li nc).mp (h2.trans h4.symm)
    subst e
    rw [h1] at h3
    exact Option.some.inj h3
  · have li : i < cs.length := by rw [hl]; exact (List.getElem?_eq_some_iff.mp e).1
    have ec : cs[i]? = some cs[i] := List.getElem?_eq_getElem li
    refine ⟨cs[i], zip_lk nf e ec, fun v ev => ?_⟩
    obtain ⟨v', e1, hv⟩ := prd_at x ec
    rw [List.getElem?_map, e1] at ev
    cases ev
    exact cell _ _ hv
/-! ### a def in a def, by its body -/
section
variable {P : Program} {w : World} {K : PySem.W.Frag} {mg : Str → Option Value} {base : Heap}
theorem clo_of {k : Nat} {t : Str} {mk : Addr → List Addr → NF} {N ps fr : List Str} {sc : Scope} {g : SF} (hnf : ∀ c cs φ, FT.nf t c cs = some φ → cs.length = fr.length ∧ φ = fun a => FnO a (mk c cs)) (hgl : FT.gl t = none) (hcl : ∀ c cs, (mk c cs).cl = fr.zip cs) (hsc : ∀ c cs, (mk c cs).scope = sc)
    (hcd : ∀ c cs, (mk c cs).c = c ∧ (mk c cs).qual = FT.qn t) (hfr : fr.Nodup) (S : NScope N ps fr sc)
    (hb : ∀ (c : Addr) (cs : List Addr) (doc pm ctv : Value) (us : List Value), us.length = ps.length → bindArgs ((mk c cs).fd doc pm ctv) ⟨us, []⟩ = pure (ps.zip us))
    (body : ∀ (c : Addr) (cs : List Addr) (f : Addr) (A : Around) (outer : List PySem.Env) (s : Shared) (H : Hp), Gd (A.deeper (envF (mk c cs) f s.heap.objs.size)) → Room k (A.deeper (envF (mk c cs) f s.heap.objs.size)) → DSs (ncx CX0 P w K mg base N (mk c cs) f A outer s H E0) (mk c cs).body g) :
    CloG P w K mg base (k + 1) t ps.length (mFun (N.length - ps.length - fr.length) g) := by
  refine ⟨fun G H h a ds ok _ sub hd => ?_, fun A outer s G H a us vs ds as r Q hG hR e0 sub tb hd rv ha hno hl hM hQ => ?_⟩
  · cases hd with
    | @fn _ _ c φ _ cs ws _ h1 h2 hco h3 h4 h5 =>
      obtain ⟨lc, rfl⟩ := hnf c cs φ h1
      obtain ⟨od, sl, doc, pm, ctv, ho⟩ := fnO_at (F := mk c cs) ok (sub _ _ h2)
      exact ⟨_, od, _, sl, ho⟩
    | glo g => rw [hgl] at g; cases g
  cases hd with
  | glo g => rw [hgl] at g; cases g
  | @fn _ _ c φ _ cs ws _ h1 h2 hco h3 h4 h5 =>
    obtain ⟨lc, rfl⟩ := hnf c cs φ h1
    have h2 : G a = some (FnO a (mk c cs)) := h2
    have zG : Frz G cs := h3.frz
    have h3H : CelsH H cs ws := h3.same sub
    have zH : Frz H cs := h3H.frz
    have e1 := env0_drp e0 zH
    have C := cells_at e0.hok hfr h4 lc h3H
    have vl : vs.length = ps.length := by rw [ha.len, hl]
    have wl : ws.length = fr.length := by rw [← lc, ← prd_len h3]
    have KX : K.In s.heap := e0.mod.kin.keeps fun b o e => (e0.bs b o e).1
    have lim : s.heap.NoLimit := e0.mod.nolimit.keeps fun b o e => (e0.bs b o e).1
    obtain ⟨od, sl, doc, pm, ctv, ho⟩ := fnO_at e0.hok (sub _ _ h2)
    have Ss : NScope N ps fr (mk c cs).scope := by rw [hsc c cs]; exact S
    have C' : CellsAt (mk c cs).cl fr (ws.map some) s.heap (drp H cs) := by rw [hcl c cs]; exact C
    refine codeAny_call_function hR.depth ho rfl Ss.co Ss.gen rfl (by show s.heap.CodeRec (.ref (mk c cs).c) (mk c cs).qual; rw [(hcd c cs).1, (hcd c cs).2]; exact codeO_at e0.hok (sub _ _ hco)) ?_
    rw [hb c cs doc pm ctv us (by rw [← rv.length]; exact vl)]
    refine wpAny_pure (wpAny_newFunctionEnv Ss.nocell (fun ⟨n, _⟩ hy => Ss.par n (List.of_mem_zip hy).1) (fun h₁ hns hsb => ⟨lim.fresh _ hsb, ?_⟩) Ss.kind)
    show codeAny _ _ (.func (mk c cs).body (envF (mk c cs) a s.heap.objs.size)) _ _
    refine codeAny_func ?_
    have kp : ∀ b o, s.heap.get? b = some o → h₁.get? b = some o := fun b o e => hsb.extBut b o (Nat.ne_of_lt (Heap.lt_size e)) (Heap.get?_push_of_some _ e)
    have I : Inv (ncx CX0 P w K mg base N (mk c cs) a A outer s (drp H cs) E0) [] (startF N vs (ws.map some)) (drp H cs) { s with heap := h₁, toks := s.toks + (ps.zip us).length } := inv_startN Ss hR.hd e1 vl rv C' hns kp
    have es : startF N vs (ws.map some) = (vs ++ ws).map some ++ List.replicate (N.length - ps.length - fr.length) none := by
      unfold startF
      rw [List.map_append, List.append_assoc, List.length_map, vl, wl]
    have sub' : Same (drp G cs) (drp H cs) := Same.drp sub cs
    have R0 : Rl w K (drp G cs) (startF N vs (ws.map some)) ((as ++ ds).map Sl.dat ++ List.replicate (N.length - ps.length - fr.length) .un) (drp H cs) := by
      rw [es]
      exact rl_dats _ sub' (tb.drp zG) ((DaA.drp zG ha hno).app h5)
    have fin : ∀ {σ1 σ' : L2.St} {ρ' : Rho} {G' H' : Hp} {v : V} {u : Value} {s' : Shared} {d : PyData}, Inv (ncx CX0 P w K mg base N (mk c cs) a A outer s (drp H cs) E0) [] σ1 H' s' → Rl w K G' σ' ρ' H' → Sx (drp G cs) (startF N vs (ws.map some)) ((as ++ ds).map Sl.dat ++ List.replicate (N.length - ps.length - fr.length) .un) (drp H cs) G' σ' ρ' H' →
        Da K G' v d → L2.RelV v u → d = r → CE outer P w H s Q u s' := by
      intro σ1 σ' ρ' G' H' v u s' d J R' sx hv ru ed
      subst ed
      obtain ⟨q1, q2, q3⟩ := un_put J.base e0.hok J.hok zH e0.frf
      obtain ⟨x1, x2⟩ := xt_put zG sub (xt_dats R' sx) q3
      exact ⟨v, put H' cs H, J.os, J.bare, q1, q2, ru, hQ v _ _ x1 (hv.same x2)⟩
    unfold mFun at hM
    have B := body c cs a A outer s (drp H cs) (by exact hG) (hR.deeper _)
    have run : ∀ D : Ends, rS w K g D (startF N vs (ws.map some)) (drp H cs) → _ := fun D h => B.run [] _ (startF N vs (ws.map some)) (drp H cs) D I h
    split at hM
    · rename_i d ρ' eg
      cases hM
      refine wpAny_mono (run { nx := fun _ _ => False, rt := fun v H' => ∃ σ' G' ρ', Rl w K G' σ' ρ' H' ∧ Sx (drp G cs) (startF N vs (ws.map some)) ((as ++ ds).map Sl.dat ++ List.replicate (N.length - ps.length - fr.length) .un) (drp H cs) G' σ' ρ' H' ∧ Da K G' v r }
        ⟨drp G cs, _, _, R0, eg, fun σ' v G' H' R' s' q => ⟨σ', G', _, R', s', q⟩⟩) (fun fl s' hs => ?_) fun e s' hs => hs
      cases fl with
      | ret u =>
        obtain ⟨v, σ', H', J, ru, σ2, G', ρ2, R', sx, hv⟩ := hs
        exact fin J R' sx hv ru rfl
      | next =>
        obtain ⟨σ', H', J, q⟩ := hs
        exact False.elim q
      | brk =>
        obtain ⟨_, _, _, q⟩ := hs
        exact False.elim q
      | cont =>
        obtain ⟨_, _, _, q⟩ := hs
        exact False.elim q
    · rename_i ρ' eg
      cases hM
      refine wpAny_mono (run { nx := fun _ H' => ∃ σ' G' ρ', Rl w K G' σ' ρ' H' ∧ Sx (drp G cs) (startF N vs (ws.map some)) ((as ++ ds).map Sl.dat ++ List.replicate (N.length - ps.length - fr.length) .un) (drp H cs) G' σ' ρ' H', rt := fun _ _ => False }
        ⟨drp G cs, _, _, R0, eg, fun σ' G' H' R' s' => ⟨σ', G', _, R', s'⟩⟩) (fun fl s' hs => ?_) fun e s' hs => hs
      cases fl with
      | ret u =>
        obtain ⟨v, σ', H', J, ru, q⟩ := hs
        exact False.elim q
      | next =>
        obtain ⟨σ', H', J, σ2, G', ρ2, R', sx⟩ := hs
        exact fin (v := V.non) (u := Value.none) J R' sx .non rfl rfl
      | brk =>
        obtain ⟨_, _, _, q⟩ := hs
        exact False.elim q
      | cont =>
        obtain ⟨_, _, _, q⟩ := hs
        exact False.elim q
    · cases hM
end
/-! ### a call of a function in a slot -/
abbrev FTab := Str → Option (Nat × MF)
def TabG (X : Cx) (k : Nat) (T : FTab) : Prop := ∀ t n M, T t = some (n, M) → CloG X.prog X.w X.K X.mg X.base k t n M
def fCallV (T : FTab) (i : Nat) (f : LF) : EF := fun ρ => match ρ[i]? with
  | some (.dat (.dict [(.str t, .tuple ds)])) => match f ρ with
    | some (as, ρ1) => match T t with
      | some (n, M) => if (noFs as && as.length == n) = true then (match M ds as with | some r => some (r, ρ1) | none => none) else none
      | none => none
    | none => none
  | _ => none
section
variable {X : Cx} {k i : Nat} {x : Str} {p pos : Pos} {e : Expr} {es : List Expr} {f : LF} {T : FTab}
theorem de_callV (hT : TabG X k T) (hG : Gd X.A) (hR : Room k X.A) (hN : X.N[i]? = some x) (hv : Vis X.env.scope x) (ha : DLs X (e :: es) f)
    (hdb : (x == ("__debug__" : Str)) = false := by decide) (hcd : (x == ("__classdict__" : Str)) = false := by decide)
    (he : starEach (e :: es) X.env = (false, eval e X.env) :: starEach es X.env := by rfl) (hpl : (backTo pos (starEach es X.env)).any (·.1) = false := by rfl) :
    DE X (.Call (.Name x p) (e :: es) [] pos) (fCallV T i f) := by
  refine ⟨fun pins s σ H Q I h => ?_⟩
  obtain ⟨G, ρ, ρ', d, R, hf, hq⟩ := h
  unfold fCallV at hf
  split at hf
  · rename_i t ds e0
    split at hf
    · rename_i as ρ1 e1
      split at hf
      · rename_i n M e2
        split at hf
        · rename_i hc
          split at hf
          · rename_i r e3
            cases hf
            simp only [Bool.and_eq_true, beq_iff_eq] at hc
            obtain ⟨v, es0, hd⟩ := R.dat e0
            obtain ⟨a, rfl⟩ : ∃ a, v = .ref a := by cases hd <;> exact ⟨_, rfl⟩
            have C := hT t n M e2
            refine wpAny_Call_Name_kw (thn ((pe_var (pos := p) hN hv hdb hcd).run pins s σ H (fun v H1 => v = .ref a ∧ H1 = H) I ⟨.ref a, es0, rfl, rfl⟩) fun u s1 ⟨v, H1, I1, r1, q1⟩ => ?_)
            obtain ⟨ev, eH⟩ := q1
            subst ev
            rw [eH] at I1
            obtain rfl : u = Value.ref a := r1
            have ht : rL X.w X.K f σ H fun vs H1 => ∃ G1, Rl X.w X.K G1 σ ρ' H1 ∧ Sx G σ ρ H G1 σ ρ' H1 ∧ DaA X.K G1 vs as := ⟨G, ρ, ρ', as, R, e1, fun vs G1 H1 R1 s1 q => ⟨G1, R1, s1, q⟩⟩
            refine PySem.W.callWith_F (first := []) (C.fn G H s1.heap a ds I1.hok I1.kIn R.sub hd) (thn (ha.run pos pins s1 σ H _ I1 ht) fun us s2 ⟨vs, H2, I2, r, G1, R1, sx, hA⟩ => ?_) he hpl
            have hd1 : Da X.K G1 (.ref a) (fnD t ds) := hd.same sx.gr
            refine ⟨C.fn G1 H2 s2.heap a ds I2.hok I2.kIn R1.sub hd1, ?_⟩
            show wpAny _ _ (call (.ref a) us) _ _ _
            refine wpAny_call (codeAny_mono (C.run X.A X.stack s2 G1 H2 a us vs ds as _ Q hG hR I2.env0 R1.sub R1.tb hd1 r hA hc.1 hc.2 e3 fun v G' H' x' hv' => ?_) fun r s' hq => ?_)
            · exact hq v G' H' (R1.ext x') (sx.trans (Sx.ext x')) hv'
            · cases r with
              | error e => exact (show False from hq).elim
              | ok fl =>
                cases fl with
                | ret u => exact I2.after hq
                | next => exact False.elim hq
                | brk => exact False.elim hq
                | cont => exact False.elim hq
          · cases hf
        · cases hf
      · cases hf
    · cases hf
  · cases hf
end
end DL

set_option Elab.async false
set_option linter.all false
set_option maxRecDepth 100000
set_option maxHeartbeats 4000000
/-! Functions as data: they are handed on while their cells are tracked. -/
namespace DL
open PySem PySem.Spec PyProof.Rows L2 GX StX NdefX
variable [DL.FT]
/-- the cells at cs as they stand -/
def gho (h : Heap) (cs : List Addr) (H : Hp) : Hp := fun b => if b ∈ cs then (match h.get? b with | some o => some (.frz o (.own b)) | none => H b) else H b
theorem gho_out {h : Heap} {cs : List Addr} {H : Hp} {b : Addr} (n : b ∉ cs) : gho h cs H b = H b := if_neg n
theorem gho_in {h : Heap} {cs : List Addr} {H : Hp} {b : Addr} {o : Obj} (i : b ∈ cs) (e : h.get? b = some o) : gho h cs H b = some (.frz o (.own b)) := by
  unfold gho
  rw [if_pos i, e]
section
variable {X : Cx} {pins : List (Addr × Obj)} {σ : L2.St} {H : Hp} {s s' : Shared} {cs : List Addr}
/-- cells of the running frame's own -/
def OwnCs (X : Cx) (cs : List Addr) : Prop := ∀ c ∈ cs, ∃ y, X.env.cells.lookup y = some c ∧ X.fn y = true
theorem own_free (I : Inv X pins σ H s) (z : OwnCs X cs) {c : Addr} (hc : c ∈ cs) : H c = none ∧ (∃ o, s.heap.get? c = some o) ∧ X.s_0.heap.objs.size ≤ c ∧ c ≠ X.env.locals := by
  obtain ⟨y, e, f⟩ := z c hc
  obtain ⟨v, o, ho, _⟩ := I.cell y c e
  exact ⟨I.freeC y c e, ⟨o, ho⟩, I.ok.cab y c f e, I.cne y c e⟩
theorem gho_same (I : Inv X pins σ H s) (z : OwnCs X cs) {G : Hp} (sub : Same G H) : Same G (gho s.heap cs G) := fun b o e => by
  rw [gho_out fun hb => ?_]; exact e
  have n := (own_free I z hb).1
  rw [sub _ _ e] at n; cases n
theorem gho_frz (I : Inv X pins σ H s) (z : OwnCs X cs) {G : Hp} : Frz (gho s.heap cs G) cs := fun c hc => by
  obtain ⟨_, ⟨o, e⟩, _⟩ := own_free I z hc
  exact ⟨o, gho_in hc e⟩
theorem env0_gho (I : Inv X pins σ H s) (z : OwnCs X cs) : Env0 X.prog X.w X.K X.mg X.base X.A X.stack s (gho s.heap cs H) := by
  have e := I.env0
  refine ⟨e.frames, e.mod, fun b o q => ⟨(e.bs b o q).1, ?_⟩, e.bsz, e.funs, fun b q => ?_, fun b o q => ?_, e.bare⟩
  · rw [gho_out fun hb => ?_]; exact (e.bs b o q).2
    exact absurd (Nat.lt_of_lt_of_le (Heap.lt_size q) (Nat.le_trans I.ok.bsz (own_free I z hb).2.2.1)) (Nat.lt_irrefl _)
  · rw [gho_out fun hb => ?_]; exact e.frf b q
    obtain ⟨_, _, le, ne⟩ := own_free I z hb
    rcases List.mem_cons.mp (I.stkSub b q) with y | y
    · exact ne y
    · obtain ⟨_, o, ho, _⟩ := I.ok.funs.mem y
      exact absurd (Nat.lt_of_lt_of_le (Heap.lt_size ho) le) (Nat.lt_irrefl _)
  · by_cases hb : b ∈ cs
    · obtain ⟨_, ⟨ob, eo⟩, _⟩ := own_free I z hb
      rw [gho_in hb eo] at q; cases q
      exact ⟨eo, ob, eo⟩
    · rw [gho_out hb] at q
      exact (e.hok b o q).stay (fun _ _ _ y => y) (fun c y => gho_same I z (fun _ _ q => q) c _ y) fun c xs y => gho_same I z (fun _ _ q => q) c _ y
theorem ce_gho {Q : VK} {u : Value} (I : Inv X pins σ H s) (z : OwnCs X cs) (h : CE X.stack X.prog X.w (gho s.heap cs H) s (fun v H' => Q v (drp H' cs)) u s') : CE X.stack X.prog X.w H s Q u s' := by
  obtain ⟨v, H', os, bare, un, hok, r, q⟩ := h
  have nx : ∀ b : Addr, b ∉ ([] : List Addr) := fun b q => by simp at q
  have at_ : ∀ c ∈ cs, ∃ o, s.heap.get? c = some o ∧ H' c = some (.frz o (.own c)) := fun c hc => by
    obtain ⟨_, ⟨o, e⟩, _⟩ := own_free I z hc
    exact ⟨o, e, un.frzs c o _ (gho_in hc e)⟩
  have zf : Frz H' cs := fun c hc => let ⟨o, _, e⟩ := at_ c hc; ⟨o, e⟩
  have known : ∀ b o, H b = some o → b ∉ cs := fun b o e hb => by
    rw [(own_free I z hb).1] at e; cases e
  refine ⟨v, drp H' cs, os, bare, ⟨fun b o e n hf hx => ?_, fun b o e n hf hx => ?_, fun b o e n hx => ?_, un.there, fun b xs y => ?_, fun b o v y => ?_, fun b ps y => ?_⟩, HOk.drp hok zf, r, q⟩
  · by_cases hb : b ∈ cs
    · obtain ⟨o', e', z'⟩ := at_ b hb
      rw [e] at e'; cases e'
      exact (hok b _ z').1
    · exact un.keep b o e (by rw [gho_out hb]; exact n) hf hx
  · by_cases hb : b ∈ cs
    · obtain ⟨o', e', z'⟩ := at_ b hb
      rw [e] at e'; cases e'
      exact ⟨o.slots, (hok b _ z').1⟩
    · exact un.slot b o e (by rw [gho_out hb]; exact n) hf hx
  · by_cases hb : b ∈ cs
    · exact drp_in hb
    · rw [drp_out hb]; exact un.free b o e (by rw [gho_out hb]; exact n) hx
  · have hb := known _ _ y
    rw [drp_out hb]; exact un.tups b xs (by rw [gho_out hb]; exact y)
  · have hb := known _ _ y
    rw [drp_out hb]; exact un.frzs b o v (by rw [gho_out hb]; exact y)
  · have hb := known _ _ y
    rw [drp_out hb]; exact un.tbls b ps (by rw [gho_out hb]; exact y)
end
section
variable {X : Cx} {pins : List (Addr × Obj)} {σ : L2.St} {G H G' H' : Hp} {s s' : Shared} {cs : List Addr}
theorem TbG.gho (t : TbG G H) (sub : Same G H) (I : Inv X pins σ H s) (z : OwnCs X cs) : TbG (gho s.heap cs G) (gho s.heap cs H) := fun p hp => by
  obtain ⟨g, ps, h1, h2, h3⟩ := t p hp
  have no : p.1 ∉ cs := fun m => by
    rw [(own_free I z m).1] at h1; cases h1
  refine ⟨by rw [gho_out no]; exact g, ps, by rw [gho_out no]; exact h1, h2, fun pos cv hc => ?_⟩
  obtain ⟨c, e1, e2⟩ := h3 pos cv hc
  by_cases hb : c ∈ cs
  · have n := (own_free I z hb).1
    rw [sub _ _ e2] at n; cases n
  · exact ⟨c, e1, by rw [gho_out hb]; exact e2⟩
theorem xt_gho (I : Inv X pins σ H s) (z : OwnCs X cs) (sub : Same G H) (x : Xt (gho s.heap cs G) (gho s.heap cs H) G' H') : Xt G H (drp G' cs) (drp H' cs) := by
  have hh : ∀ (A A' : Hp), Same A H → Same (gho s.heap cs A) A' → Same A (drp A' cs) := fun A A' y1 y b o e => by
    have hb : b ∉ cs := fun hb => by
      have n := (own_free I z hb).1
      rw [y1 _ _ e] at n; cases n
    rw [drp_out hb]
    exact y b o (by rw [gho_out hb]; exact e)
  have out : ∀ {b o}, H b = some o → b ∉ cs := fun {b o} e hb => by
    rw [(own_free I z hb).1] at e; cases e
  refine ⟨fun b o e t => ?_, fun b h => ?_, fun t => ?_, Same.drp x.gh cs, hh _ _ sub x.gg, fun b h => ?_⟩
  · rw [drp_out (out e)]; exact x.hh b o (by rw [gho_out (out e)]; exact e) t
  · cases e : H b with
    | none => exact (h e).elim
    | some o => rw [drp_out (out e)]; exact x.al b (by rw [gho_out (out e), e]; simp)
  · exact (x.tt (t.gho sub I z)).drp fun c hc => let ⟨o, e⟩ := gho_frz I z (G := G) c hc; ⟨o, x.gg _ _ e⟩
  by_cases hb : b ∈ cs
  · rw [drp_in hb] at h; exact (h rfl).elim
  · rw [drp_out hb] at h
    rcases x.nw b h with y | y
    · rw [gho_out hb] at y; exact .inl y
    · rw [gho_out hb] at y; exact .inr y
/-- a def gets functions whose cells are this frame's -/
theorem run_gho {k n : Nat} {f : Addr} {fd : FuncData} {ps : List Str} {F : FF} {us : List Value} {vs : List V} {as : List PyData} {d : PyData} {sls' : List Sl} {Q : VK} (Fk : FnG X.prog X.w X.K X.mg X.base k f fd ps (spD X.w X.K n F)) (hG : Gd X.A) (hR : Room k X.A) (hb : Binds X.K fd ps [])
    (I : Inv X pins σ H s) (z : OwnCs X cs) (sub : Same G H) (tb : TbG G H) (r : Vals vs us) (hA : DaA X.K (gho s.heap cs G) vs as) (hn : as.length = n) (hF : F (as.map Sl.dat) = some (d, sls')) (nf : noF d = true) (q : ∀ v G' H', Xt G H G' H' → Da X.K G' v d → Q v H') :
    wpAny (model X.prog X.w) X.A (call (.ref f) us) (EP X pins σ Q) X.xe s := by
  have subg : Same (gho s.heap cs G) (gho s.heap cs H) := fun b o e => by
    by_cases hb : b ∈ cs
    · obtain ⟨_, ⟨ob, eo⟩, _⟩ := own_free I z hb
      rw [gho_in hb eo] at e ⊢; exact e
    · rw [gho_out hb] at e ⊢; exact sub _ _ e
  have R0 := rl_dats (ww := X.w) 0 subg (tb.gho sub I z) hA
  rw [List.replicate_zero, List.replicate_zero, List.append_nil, List.append_nil] at R0
  have sp : spD X.w X.K n F vs (gho s.heap cs H) (fun v H' => Q v (drp H' cs)) E0 := ⟨by rw [hA.len, hn], gho s.heap cs G, _, sls', d, R0, hF, fun v G' H' R' sx hv => by
    have sx' : Sx (gho s.heap cs G) (vs.map some) (as.map Sl.dat ++ List.replicate 0 Sl.un) (gho s.heap cs H) G' (vs.map some) sls' H' := by
      rw [List.replicate_zero, List.append_nil]; exact sx
    have x := xt_dats R' sx'
    exact q v _ _ (xt_gho I z sub x) (Da.drp (fun c hc => let ⟨o, e⟩ := gho_frz I z (G := G) c hc; ⟨o, x.gg _ _ e⟩) hv nf)⟩
  have hl : us.length = ps.length := by rw [← r.length]; exact Fk.len _ _ _ _ sp
  have hbb : BindsTo s fd ⟨us, []⟩ (ps.zip us) := by
    have y := hb s us I.kIn (by rw [List.append_nil]; exact hl)
    rw [List.append_nil] at y
    exact y
  refine wpAny_call (codeAny_mono (Fk.go X.A X.stack s _ ⟨us, []⟩ us vs _ E0 hG hR (env0_gho I z) hbb r sp) fun r s' hq => ?_)
  cases r with
  | error e => exact (show False from hq).elim
  | ok fl =>
    cases fl with
    | ret u => exact I.after (ce_gho I z hq)
    | next => exact False.elim hq
    | brk => exact False.elim hq
    | cont => exact False.elim hq
end
end DL

set_option Elab.async false
set_option linter.all false
set_option maxRecDepth 100000
set_option maxHeartbeats 4000000
/-! Functions as data: a lambda with parameters and captured names. -/
namespace DL
open PySem PySem.Spec PyProof.Rows L2 GX StX NdefX
variable [DL.FT]
/-- the object at f is the lambda F (its statements are not looked at) with the value e -/
def LamO (F : NF) (e : Expr) (f : Addr) : HO := .ext fun h => ∃ (od : Option Addr) (sl : Array (Option Value)) (pm ctv : Value), h.get? f = some (⟨.type "function", od, .func (PySem.W.kla_fn "<lambda>" F.qual F.params e F.scope F.cl pm (.ref F.c) ctv), sl⟩ : Obj)
theorem lamO_at {P : Program} {w : World} {H : Hp} {h : Heap} {f : Addr} {F : NF} {e : Expr} (hok : HOk P w H h) (z : H f = some (LamO F e f)) : ∃ (od : Option Addr) (sl : Array (Option Value)) (pm ctv : Value), h.get? f = some (⟨.type "function", od, .func (PySem.W.kla_fn "<lambda>" F.qual F.params e F.scope F.cl pm (.ref F.c) ctv), sl⟩ : Obj) := by
  obtain ⟨z, _, _⟩ := hok f _ z
  exact z
section
variable {X : Cx} {pins : List (Addr × Obj)} {σ : L2.St} {H : Hp} {s : Shared}
theorem inv_lam {F : NF} {e : Expr} {o : Obj} {t' : Nat} {pm ctv : Value} (I : Inv X pins σ H s) (ho : o = { cls := .type "function", data := .func (PySem.W.kla_fn "<lambda>" F.qual F.params e F.scope F.cl pm (.ref F.c) ctv) }) :
    Inv X pins σ (upd H s.heap.objs.size (LamO F e s.heap.objs.size)) { s with heap := s.heap.push o, toks := t' } := by
  subst ho
  refine I.laid (a := s.heap.objs.size) (fun b u e => Heap.get?_push_of_some _ e) (Nat.le_refl _) ?_
  have z : (s.heap.push ({ cls := .type "function", data := .func (PySem.W.kla_fn "<lambda>" F.qual F.params e F.scope F.cl pm (.ref F.c) ctv) } : Obj)).get? s.heap.objs.size = some ({ cls := .type "function", data := .func (PySem.W.kla_fn "<lambda>" F.qual F.params e F.scope F.cl pm (.ref F.c) ctv) } : Obj) := Heap.get?_push_size _ rfl
  exact ⟨⟨_, _, pm, ctv, z⟩, ⟨_, z⟩, fun h1 h2 ⟨od, sl, p, t, z⟩ st => ⟨od, sl, p, t, st _ z⟩⟩
def tLamK (F : NF) (e : Expr) : TE := fun σ H Q => ∀ f : Addr, H f = none → Q (.ref f) (upd H f (LamO F e f))
theorem pe_lamK {c P c' : Addr} {ps : Array Value} {params : Arguments} {e : Expr} {scope : Scope} {pos : Pos} (TB : LamX.TabB X.base X.mg c P) (hcode : X.env.code = .ref c) (hP : X.K.lookup P = some { cls := .none, data := .fields ps }) (ht : TriplesOk ps.toList) (hc : codeAmong pos ps.toList = some (.ref c'))
    (hfree : ∀ y ∈ scope.names, y.2 = .free → X.env.scope.names.lookup y.1 = some .cell ∨ X.env.scope.names.lookup y.1 = some .free) (hdef : defaultsOf params X.env = ([], [])) :
    PE X (.Lambda params e scope pos) (tLamK ⟨"<lambda>", X.env.qual ++ "<lambda>", params, [], scope, cloFrom X.env.cells scope.names [], c'⟩ e) := by
  refine ⟨fun pins s σ H Q I h => ?_⟩
  refine PySem.W.kla_eval hdef ?_
  have bP : s.heap.BuiltinsAt X.mg P := TB.bm.keeps I.bk
  have hP' : s.heap.get? P = some { cls := .none, data := .fields ps } := I.bk P _ (I.mod.kin P _ hP)
  have hfr : ∀ y ∈ scope.names, y.2 = .free → ∃ c, X.env.cells.lookup y.1 = some c := fun y hy e => (hfree y hy e).elim (fun z => I.ok.has _ (.inl z)) fun z => I.ok.has _ (.inr z)
  refine PySem.W.kla_makeFunctionHit (mg := X.mg) (c := c) (P := P) (ps := ps) (closure_ok hfr) I.ok.glob (I.mod.glob.keeps I.bk) hcode (TB.code.keeps I.bk) hP' ht hc bP fun ctv h' tk hx hsz => ?_
  have I1 : Inv X pins σ H { s with heap := h', toks := tk } := I.kept hx
  have nF : H h'.objs.size = none := I1.hok.fresh (Nat.le_refl _)
  have I2 := inv_lam (F := ⟨"<lambda>", X.env.qual ++ "<lambda>", params, [], scope, cloFrom X.env.cells scope.names [], c'⟩) (e := e) (t' := tk) (pm := (X.mg "__name__").getD .none) (ctv := ctv) I1 rfl
  exact ⟨.ref h'.objs.size, _, I2, rfl, h h'.objs.size nF⟩
end
def mFunE (m : Nat) (g : EF) : MF := fun ds as => match g ((as ++ ds).map Sl.dat ++ List.replicate m Sl.un) with
  | some (d, _) => some d
  | none => none
section
variable {P : Program} {w : World} {K : PySem.W.Frag} {mg : Str → Option Value} {base : Heap}
theorem clo_ofE {k : Nat} {t : Str} {mk : Addr → List Addr → NF} {e : Expr} {N ps fr : List Str} {sc : Scope} {g : EF} (hnf : ∀ c cs φ, FT.nf t c cs = some φ → cs.length = fr.length ∧ φ = LamO (mk c cs) e) (hgl : FT.gl t = none) (hcl : ∀ c cs, (mk c cs).cl = fr.zip cs) (hsc : ∀ c cs, (mk c cs).scope = sc)
    (hcd : ∀ c cs, (mk c cs).c = c ∧ (mk c cs).qual = FT.qn t) (hfr : fr.Nodup) (S : NScope N ps fr sc)
    (hb : ∀ (c : Addr) (cs : List Addr) (pm ctv : Value) (us : List Value), us.length = ps.length → bindArgs (PySem.W.kla_fn "<lambda>" (mk c cs).qual (mk c cs).params e (mk c cs).scope (mk c cs).cl pm (.ref (mk c cs).c) ctv) ⟨us, []⟩ = pure (ps.zip us))
    (body : ∀ (c : Addr) (cs : List Addr) (f : Addr) (A : Around) (outer : List PySem.Env) (s : Shared) (H : Hp), Gd (A.deeper (envF (mk c cs) f s.heap.objs.size)) → Room k (A.deeper (envF (mk c cs) f s.heap.objs.size)) → DE (ncx CX0 P w K mg base N (mk c cs) f A outer s H E0) e g) :
    CloG P w K mg base (k + 1) t ps.length (mFunE (N.length - ps.length - fr.length) g) := by
  refine ⟨fun G H h a ds ok _ sub hd => ?_, fun A outer s G H a us vs ds as r Q hG hR e0 sub tb hd rv ha hno hl hM hQ => ?_⟩
  · cases hd with
    | @fn _ _ c φ _ cs ws _ h1 h2 hco h3 h4 h5 =>
      obtain ⟨lc, rfl⟩ := hnf c cs φ h1
      obtain ⟨od, sl, pm, ctv, ho⟩ := lamO_at (F := mk c cs) ok (sub _ _ h2)
      exact ⟨_, od, _, sl, ho⟩
    | glo g => rw [hgl] at g; cases g
  cases hd with
  | glo g => rw [hgl] at g; cases g
  | @fn _ _ c φ _ cs ws _ h1 h2 hco h3 h4 h5 =>
    obtain ⟨lc, rfl⟩ := hnf c cs φ h1
    have zG : Frz G cs := h3.frz
    have h3H : CelsH H cs ws := h3.same sub
    have zH : Frz H cs := h3H.frz
    have e1 := env0_drp e0 zH
    have C := cells_at e0.hok hfr h4 lc h3H
    have vl : vs.length = ps.length := by rw [ha.len, hl]
    have wl : ws.length = fr.length := by rw [← lc, ← prd_len h3]
    have KX : K.In s.heap := e0.mod.kin.keeps fun b o e => (e0.bs b o e).1
    have lim : s.heap.NoLimit := e0.mod.nolimit.keeps fun b o e => (e0.bs b o e).1
    obtain ⟨od, sl, pm, ctv, ho⟩ := lamO_at (F := mk c cs) e0.hok (sub _ _ h2)
    have Ss : NScope N ps fr (mk c cs).scope := by rw [hsc c cs]; exact S
    have C' : CellsAt (mk c cs).cl fr (ws.map some) s.heap (drp H cs) := by rw [hcl c cs]; exact C
    refine PySem.W.kla_callFunE hR.depth ho rfl Ss.co Ss.gen rfl (by show s.heap.CodeRec (.ref (mk c cs).c) (mk c cs).qual; rw [(hcd c cs).1, (hcd c cs).2]; exact codeO_at e0.hok (sub _ _ hco)) ?_
    rw [hb c cs pm ctv us (by rw [← rv.length]; exact vl)]
    refine wpAny_pure (wpAny_newFunctionEnv Ss.nocell (fun ⟨n, _⟩ hy => Ss.par n (List.of_mem_zip hy).1) (fun h₁ hns hsb => ⟨lim.fresh _ hsb, ?_⟩) Ss.kind)
    show codeAny _ _ (.expr e (envF (mk c cs) a s.heap.objs.size)) _ _
    have kp : ∀ b o, s.heap.get? b = some o → h₁.get? b = some o := fun b o e => hsb.extBut b o (Nat.ne_of_lt (Heap.lt_size e)) (Heap.get?_push_of_some _ e)
    have I : Inv (ncx CX0 P w K mg base N (mk c cs) a A outer s (drp H cs) E0) [] (startF N vs (ws.map some)) (drp H cs) { s with heap := h₁, toks := s.toks + (ps.zip us).length } := inv_startN Ss hR.hd e1 vl rv C' hns kp
    have es : startF N vs (ws.map some) = (vs ++ ws).map some ++ List.replicate (N.length - ps.length - fr.length) none := by
      unfold startF
      rw [List.map_append, List.append_assoc, List.length_map, vl, wl]
    have R0 : Rl w K (drp G cs) (startF N vs (ws.map some)) ((as ++ ds).map Sl.dat ++ List.replicate (N.length - ps.length - fr.length) .un) (drp H cs) := by
      rw [es]
      exact rl_dats _ (Same.drp sub cs) (tb.drp zG) ((DaA.drp zG ha hno).app h5)
    unfold mFunE at hM
    have B := body c cs a A outer s (drp H cs) (by exact hG) (hR.deeper _)
    split at hM
    · rename_i d ρ' eg
      cases hM
      refine PySem.W.kla_codeExpr (wpAny_mono (B.run [] _ (startF N vs (ws.map some)) (drp H cs) (fun v H' => ∃ G' ρ', Rl w K G' (startF N vs (ws.map some)) ρ' H' ∧ Sx (drp G cs) (startF N vs (ws.map some)) ((as ++ ds).map Sl.dat ++ List.replicate (N.length - ps.length - fr.length) .un) (drp H cs) G' (startF N vs (ws.map some)) ρ' H' ∧ Da K G' v r) I
        ⟨drp G cs, _, _, _, R0, eg, fun v G' H' R' s' q => ⟨G', _, R', s', q⟩⟩) (fun u s' hs => ?_) fun e s' hs => hs)
      obtain ⟨v, H', J, ru, G', ρ2, R', sx, hv⟩ := hs
      obtain ⟨q1, q2, q3⟩ := un_put J.base e0.hok J.hok zH e0.frf
      obtain ⟨x1, x2⟩ := xt_put zG sub (xt_dats R' sx) q3
      exact ⟨v, put H' cs H, J.os, J.bare, q1, q2, ru, hQ v _ _ x1 (hv.same x2)⟩
    · cases hM
end
end DL

set_option Elab.async false
set_option linter.all false
set_option maxRecDepth 100000
set_option maxHeartbeats 4000000
/-! Code tables: a function is made, its code object is new or told. -/
namespace DL
open PySem PySem.Spec PyProof.Rows L2 GX StX NdefX LamX
variable [DL.FT]
section
variable {G H : Hp}
/-- a table tells one more code object, that is known -/
theorem Xt.tbl {P c : Addr} {nm : Nat → Nat → Str} {ps : Array Value} {pos : Pos} (t : TbG G H) (sub : Same G H) (hm : (P, nm) ∈ FT.tabs) (hu : ∀ p ∈ FT.tabs, p.1 = P → p.2 = nm) (hP : H P = some (.tbl ps)) (hc : G c = some (CodeO c (nm pos.line pos.col))) :
    Xt G H G (upd H P (.tbl (ps ++ #[rawInt pos.line, rawInt pos.col, .ref c]))) := by
  have gP : G P = none := (t _ hm).1
  have eL : (ps ++ #[rawInt pos.line, rawInt pos.col, .ref c]).toList = ps.toList ++ [rawInt pos.line, rawInt pos.col, .ref c] := by simp
  refine ⟨fun b o e n => ?_, fun b h => ?_, fun _ => fun p hp => ?_, fun b o e => ?_, Same.refl _, fun b h => .inl h⟩
  · rw [upd_ne (fun z => n ps (Option.some.inj (e.symm.trans (by rw [z]; exact hP))))]
    exact e
  · by_cases z : b = P
    · rw [z, upd_same]; simp
    · rw [upd_ne z]; exact h
  · obtain ⟨g, ps', a1, a2, a3⟩ := t p hp
    by_cases hb : p.1 = P
    · rw [hb, hP] at a1
      cases a1
      refine ⟨g, _, by rw [hb, upd_same], by rw [eL]; exact PySem.TriplesOk_snoc _ _ _ _ a2, fun p' cv hcv => ?_⟩
      rw [eL] at hcv
      rcases among_app2 _ a2 hcv with z | ⟨z, z1, z2⟩
      · exact a3 p' cv z
      · refine ⟨c, z, ?_⟩
        rw [hu p hp hb, ← z1, ← z2]
        exact hc
    · exact ⟨g, ps', by rw [upd_ne hb]; exact a1, a2, a3⟩
  · rw [upd_ne (fun z => by rw [z, gP] at e; cases e)]
    exact sub b o e
end
/-- a lambda is made: the table at P tells its code object, or it is new -/
def tLamT (P : Addr) (q : Str) (pos : Pos) (F : Addr → NF) (e : Expr) : TE := fun σ H Q => ∃ ps : Array Value, H P = some (.tbl ps) ∧ TriplesOk ps.toList ∧ (∀ cv, codeAmong pos ps.toList = some cv → ∃ c, cv = .ref c ∧ H c = some (CodeO c q)) ∧
  (∀ f c, codeAmong pos ps.toList = some (.ref c) → H f = none → Q (.ref f) (upd H f (LamO (F c) e f))) ∧
  (∀ f c, H c = none → f ≠ P → f ≠ c → P ≠ c → H f = none → Q (.ref f) (upd (upd (upd H c (CodeO c q)) P (.tbl (ps ++ #[rawInt pos.line, rawInt pos.col, .ref c]))) f (LamO (F c) e f)))
section
variable {X : Cx}
theorem upd_comm {H : Hp} {a b : Addr} {o u : HO} (n : a ≠ b) : upd (upd H a o) b u = upd (upd H b u) a o := by
  funext c
  by_cases h1 : c = b
  · subst h1
    rw [upd_same, upd_ne (Ne.symm n), upd_same]
  · rw [upd_ne h1]
    by_cases h2 : c = a
    · subst h2
      rw [upd_same, upd_same]
    · rw [upd_ne h2, upd_ne h2, upd_ne h1]
theorem pe_lamT {c P : Addr} {params : Arguments} {e : Expr} {scope : Scope} {pos : Pos} (TB : LamX.TabB X.base X.mg c P) (hcode : X.env.code = .ref c)
    (hfree : ∀ y ∈ scope.names, y.2 = .free → X.env.scope.names.lookup y.1 = some .cell ∨ X.env.scope.names.lookup y.1 = some .free) (hdef : defaultsOf params X.env = ([], [])) :
    PE X (.Lambda params e scope pos) (tLamT P (X.env.qual ++ "<lambda>") pos (fun c' => ⟨"<lambda>", X.env.qual ++ "<lambda>", params, [], scope, cloFrom X.env.cells scope.names [], c'⟩) e) := by
  refine ⟨fun pins s σ H Q I h => ?_⟩
  obtain ⟨ps, hP, ht, ha, k1, k2⟩ := h
  refine PySem.W.kla_eval hdef ?_
  have bP : s.heap.BuiltinsAt X.mg P := TB.bm.keeps I.bk
  have hP' : s.heap.get? P = some { cls := .none, data := .fields ps } := I.hok P _ hP
  have hfr : ∀ y ∈ scope.names, y.2 = .free → ∃ c, X.env.cells.lookup y.1 = some c := fun y hy e => (hfree y hy e).elim (fun z => I.ok.has _ (.inl z)) fun z => I.ok.has _ (.inr z)
  cases hc : codeAmong pos ps.toList with
  | none =>
    refine PySem.W.kla_makeFunction (mg := X.mg) (c := c) (P := P) (ps := ps) (closure_ok hfr) I.ok.glob (I.mod.glob.keeps I.bk) hcode (TB.code.keeps I.bk) hP' ht hc TB.gP bP fun c' ctv h' tk hx hge hlt hrec htb => ?_
    obtain ⟨c2, oc, vs, t, e2, hoc, hd, hv⟩ := hrec
    cases e2
    have hsz : s.heap.objs.size ≤ h'.objs.size := Nat.le_trans hge (Nat.le_of_lt hlt)
    have nC : H c' = none := I.hok.fresh hge
    have nPc : P ≠ c' := ne_of_none hP nC
    have n1 : h'.objs.size ≠ c' := Nat.ne_of_gt hlt
    have n2 : h'.objs.size ≠ P := Nat.ne_of_gt (Nat.lt_of_lt_of_le (Heap.lt_size hP') hsz)
    have I1 := inv_table (t' := tk) (more := #[rawInt pos.line, rawInt pos.col, .ref c']) (h' := h') I hP hx htb hge ⟨oc, vs, t, hoc, hd, hv⟩
    rw [upd_comm nPc] at I1
    have I2 := inv_lam (F := ⟨"<lambda>", X.env.qual ++ "<lambda>", params, [], scope, cloFrom X.env.cells scope.names [], c'⟩) (e := e) (t' := tk) (pm := (X.mg "__name__").getD .none) (ctv := ctv) I1 rfl
    exact ⟨.ref h'.objs.size, _, I2, rfl, k2 h'.objs.size c' nC n2 n1 nPc (I.hok.fresh hsz)⟩
  | some cv =>
    obtain ⟨c', e', hco⟩ := ha cv hc
    subst e'
    refine PySem.W.kla_makeFunctionHit (mg := X.mg) (c := c) (P := P) (ps := ps) (closure_ok hfr) I.ok.glob (I.mod.glob.keeps I.bk) hcode (TB.code.keeps I.bk) hP' ht hc bP fun ctv h' tk hx hsz => ?_
    have I1 : Inv X pins σ H { s with heap := h', toks := tk } := I.kept hx
    have nF : H h'.objs.size = none := I1.hok.fresh (Nat.le_refl _)
    have I2 := inv_lam (F := ⟨"<lambda>", X.env.qual ++ "<lambda>", params, [], scope, cloFrom X.env.cells scope.names [], c'⟩) (e := e) (t' := tk) (pm := (X.mg "__name__").getD .none) (ctv := ctv) I1 rfl
    exact ⟨.ref h'.objs.size, _, I2, rfl, k1 h'.objs.size c' hc nF⟩
end
/-- what is known then -/
theorem mk_lam {ww : World} {K : PySem.W.Frag} {G H : Hp} {σ : L2.St} {ρ : Rho} {P : Addr} {nm : Nat → Nat → Str} {q : Str} {pos : Pos} {F : Addr → NF} {e : Expr} {Q : V → Hp → Prop} (R : Rl ww K G σ ρ H) (hm : (P, nm) ∈ FT.tabs) (hu : ∀ p ∈ FT.tabs, p.1 = P → p.2 = nm) (hq : nm pos.line pos.col = q)
    (k : ∀ (a c : Addr) (G' H' : Hp), Xt G H G' H' → G' a = some (LamO (F c) e a) → G' c = some (CodeO c q) → Q (.ref a) H') : tLamT P q pos F e σ H Q := by
  subst hq
  obtain ⟨gP, ps, hP, ht, ha⟩ := R.tb _ hm
  refine ⟨ps, hP, ht, fun cv hc => ?_, fun f c hc nf => ?_, fun f c nc n1 n2 n3 nf => ?_⟩
  · obtain ⟨c, e1, e2⟩ := ha _ _ hc
    exact ⟨c, e1, R.sub _ _ e2⟩
  · obtain ⟨c', e1, e2⟩ := ha _ _ hc
    cases e1
    have x := Xt.new (o := LamO (F c) e f) R.sub nf
    exact k f c _ _ x upd_same (x.gg _ _ e2)
  · have x1 := Xt.new (o := CodeO c (nm pos.line pos.col)) R.sub nc
    have R1 := R.ext x1
    have x2 := Xt.tbl (ps := ps) R1.tb R1.sub hm hu (by rw [upd_ne n3]; exact hP) (upd_same (H := G) (a := c) (o := CodeO c (nm pos.line pos.col)))
    have R2 := R1.ext x2
    have x3 := Xt.new (p := f) (o := LamO (F c) e f) R2.sub (by rw [upd_ne n1, upd_ne n2]; exact nf)
    exact k f c _ _ ((x1.trans x2).trans x3) upd_same (by rw [upd_ne (Ne.symm n2)]; exact upd_same)
/-- a function is made: the table at P tells its code object, or it is new -/
def MadeH (P : Addr) (q : Str) (pos : Pos) (O : Addr → Addr → HO) (H : Hp) (Q : Addr → Hp → Prop) : Prop := ∃ ps : Array Value, H P = some (.tbl ps) ∧ TriplesOk ps.toList ∧ (∀ cv, codeAmong pos ps.toList = some cv → ∃ c, cv = .ref c ∧ H c = some (CodeO c q)) ∧
  (∀ f c, codeAmong pos ps.toList = some (.ref c) → H f = none → Q f (upd H f (O c f))) ∧
  (∀ f c, H c = none → f ≠ P → f ≠ c → P ≠ c → H f = none → Q f (upd (upd (upd H c (CodeO c q)) P (.tbl (ps ++ #[rawInt pos.line, rawInt pos.col, .ref c]))) f (O c f)))
theorem made_of {ww : World} {K : PySem.W.Frag} {G H : Hp} {σ : L2.St} {ρ : Rho} {P : Addr} {nm : Nat → Nat → Str} {q : Str} {pos : Pos} {O : Addr → Addr → HO} {Q : Addr → Hp → Prop} (R : Rl ww K G σ ρ H) (hm : (P, nm) ∈ FT.tabs) (hu : ∀ p ∈ FT.tabs, p.1 = P → p.2 = nm) (hq : nm pos.line pos.col = q)
    (k : ∀ (a c : Addr) (G' H' : Hp), H a = none → Xt G H G' H' → G' a = some (O c a) → G' c = some (CodeO c q) → Q a H') : MadeH P q pos O H Q := by
  subst hq
  obtain ⟨gP, ps, hP, ht, ha⟩ := R.tb _ hm
  refine ⟨ps, hP, ht, fun cv hc => ?_, fun f c hc nf => ?_, fun f c nc n1 n2 n3 nf => ?_⟩
  · obtain ⟨c, e1, e2⟩ := ha _ _ hc
    exact ⟨c, e1, R.sub _ _ e2⟩
  · obtain ⟨c', e1, e2⟩ := ha _ _ hc
    cases e1
    have x := Xt.new (o := O c f) R.sub nf
    exact k f c _ _ nf x upd_same (x.gg _ _ e2)
  · have x1 := Xt.new (o := CodeO c (nm pos.line pos.col)) R.sub nc
    have R1 := R.ext x1
    have x2 := Xt.tbl (ps := ps) R1.tb R1.sub hm hu (by rw [upd_ne n3]; exact hP) (upd_same (H := G) (a := c) (o := CodeO c (nm pos.line pos.col)))
    have R2 := R1.ext x2
    have x3 := Xt.new (p := f) (o := O c f) R2.sub (by rw [upd_ne n1, upd_ne n2]; exact nf)
    exact k f c _ _ nf ((x1.trans x2).trans x3) upd_same (by rw [upd_ne (Ne.symm n2)]; exact upd_same)
/-- the reading of a def in a def -/
def tNdefT (P : Addr) (q : Str) (pos : Pos) (i : Nat) (F : Addr → NF) : TS := fun D σ H => MadeH P q pos (fun c f => FnO f (F c)) H fun f H' => D.nx (σ.set i (some (.ref f))) H'
section
variable {X : Cx}
theorem ps_ndefT {c P : Addr} {name : Str} {params : Arguments} {body : List Stmt} {scope : Scope} {pos : Pos} {i : Nat} (TB : LamX.TabB X.base X.mg c P) (hcode : X.env.code = .ref c)
    (hfree : ∀ y ∈ scope.names, y.2 = .free → X.env.scope.names.lookup y.1 = some .cell ∨ X.env.scope.names.lookup y.1 = some .free) (hd0 : params.defaults = []) (hk0 : params.kw_defaults = []) (ha : annTrees params none X.env = [])
    (hN : X.N.Nodup) (hi : X.N[i]? = some name) (hx : Loc X.env.scope name) (hf : X.fn name = true ∨ X.env.scope.names.lookup name = some .local) :
    PS X (.FunctionDef name params body [] none [] scope none name pos) (tNdefT P (X.env.qual ++ name) pos i fun c' => ⟨name, X.env.qual ++ name, params, body, scope, cloFrom X.env.cells scope.names [], c'⟩) := by
  refine ⟨fun pins s σ H D I h => ?_⟩
  obtain ⟨ps, hP, ht, hk, k1, k2⟩ := h
  have hq : qualnameIn X.env name name = X.env.qual ++ name := by
    unfold qualnameIn
    rcases (show X.env.kindOf name = some .local ∨ X.env.kindOf name = some .cell from hx) with k | k
    all_goals rw [k]; first | rfl | exact if_neg (by decide)
  refine PySem.W.nestDef_K hd0 hk0 ha ?_
  rw [hq]
  have hfr : ∀ y ∈ scope.names, y.2 = .free → ∃ c, X.env.cells.lookup y.1 = some c := fun y hy e => (hfree y hy e).elim (fun z => I.ok.has _ (.inl z)) fun z => I.ok.has _ (.inr z)
  have bP : s.heap.BuiltinsAt X.mg P := TB.bm.keeps I.bk
  have hP' : s.heap.get? P = some { cls := .none, data := .fields ps } := I.hok P _ hP
  cases hc : codeAmong pos ps.toList with
  | none =>
    refine PySem.W.makeFunction_K (mg := X.mg) (c := c) (P := P) (ps := ps) (closure_ok hfr) I.ok.glob (I.mod.glob.keeps I.bk) hcode (TB.code.keeps I.bk) hP' ht hc TB.gP bP fun c' ctv doc h' tk hx' hge hlt hrec htb => ?_
    obtain ⟨c2, oc, vs, t, e2, hoc, hd, hv⟩ := hrec
    cases e2
    have hsz : s.heap.objs.size ≤ h'.objs.size := Nat.le_trans hge (Nat.le_of_lt hlt)
    have nC : H c' = none := I.hok.fresh hge
    have nPc : P ≠ c' := ne_of_none hP nC
    have n1 : h'.objs.size ≠ c' := Nat.ne_of_gt hlt
    have n2 : h'.objs.size ≠ P := Nat.ne_of_gt (Nat.lt_of_lt_of_le (Heap.lt_size hP') hsz)
    have I1 := inv_table (t' := tk) (more := #[rawInt pos.line, rawInt pos.col, .ref c']) (h' := h') I hP hx' htb hge ⟨oc, vs, t, hoc, hd, hv⟩
    rw [upd_comm nPc] at I1
    have I2 := inv_fn (F := ⟨name, X.env.qual ++ name, params, body, scope, cloFrom X.env.cells scope.names [], c'⟩) (t' := tk) (doc := doc) (pm := (X.mg "__name__").getD .none) (ctv := ctv) I1 rfl
    exact store_ok I2 hN hi hx (v := .ref h'.objs.size) rfl (fun s'' J => ⟨_, _, J, k2 h'.objs.size c' nC n2 n1 nPc (I.hok.fresh hsz)⟩) hf
  | some cv =>
    obtain ⟨c', e', hco⟩ := hk cv hc
    subst e'
    refine PySem.W.makeFunction_hit (mg := X.mg) (c := c) (P := P) (ps := ps) (closure_ok hfr) I.ok.glob (I.mod.glob.keeps I.bk) hcode (TB.code.keeps I.bk) hP' ht hc bP fun ctv doc h' tk hx' hsz => ?_
    have I1 : Inv X pins σ H { s with heap := h', toks := tk } := I.kept hx'
    have nF : H h'.objs.size = none := I1.hok.fresh (Nat.le_refl _)
    have I2 := inv_fn (F := ⟨name, X.env.qual ++ name, params, body, scope, cloFrom X.env.cells scope.names [], c'⟩) (t' := tk) (doc := doc) (pm := (X.mg "__name__").getD .none) (ctv := ctv) I1 rfl
    exact store_ok I2 hN hi hx (v := .ref h'.objs.size) rfl (fun s'' J => ⟨_, _, J, k1 h'.objs.size c' hc nF⟩) hf
theorem ps_ndefTS {st : Stmt} {c P : Addr} {name : Str} {pos : Pos} {i : Nat} (hst : st = .FunctionDef name (C8.fnArgs st) (C8.fnBody st) [] none [] (C8.fnScope st) none name pos) (TB : LamX.TabB X.base X.mg c P) (hcode : X.env.code = .ref c)
    (hfree : ∀ y ∈ (C8.fnScope st).names, y.2 = .free → X.env.scope.names.lookup y.1 = some .cell ∨ X.env.scope.names.lookup y.1 = some .free) (hd0 : (C8.fnArgs st).defaults = []) (hk0 : (C8.fnArgs st).kw_defaults = []) (ha : annTrees (C8.fnArgs st) none X.env = [])
    (hN : X.N.Nodup) (hi : X.N[i]? = some name) (hx : Loc X.env.scope name) (hf : X.fn name = true ∨ X.env.scope.names.lookup name = some .local) :
    PS X st (tNdefT P (X.env.qual ++ name) pos i (NF.of st name (X.env.qual ++ name) (cloFrom X.env.cells (C8.fnScope st).names []))) := by
  have q := ps_ndefT (X := X) (body := C8.fnBody st) (pos := pos) TB hcode hfree hd0 hk0 ha hN hi hx hf
  rw [← hst] at q
  exact q
end
end DL

set_option Elab.async false
set_option linter.all false
set_option maxRecDepth 100000
set_option maxHeartbeats 4000000
/-! Functions as data: a def gets a lambda between two data. -/
namespace DL
open PySem PySem.Spec PyProof.Rows L2 GX StX NdefX
variable [DL.FT]
/-- what the slots hold -/
def capD (ρ : Rho) : List Nat → Option (List PyData)
  | [] => some []
  | j :: js => match ρ[j]? with
    | some (.dat d) => match capD ρ js with
      | some ds => some (d :: ds)
      | none => none
    | _ => none
theorem cap_of {ww : World} {K : PySem.W.Frag} {G H : Hp} {σ : L2.St} {ρ : Rho} (R : Rl ww K G σ ρ H) : ∀ {js : List Nat} {ds : List PyData}, capD ρ js = some ds → ∃ ws, DaA K G ws ds ∧ js.map (slotAt σ) = ws.map some
  | [], _, h => by cases h; exact ⟨[], .nil, rfl⟩
  | j :: js, _, h => by
    unfold capD at h
    split at h
    · rename_i d e
      split at h
      · rename_i ds e2
        cases h
        obtain ⟨v, ev, hv⟩ := R.dat e
        obtain ⟨ws, hw, ew⟩ := cap_of R e2
        refine ⟨v :: ws, .cons hv hw, ?_⟩
        rw [List.map_cons, List.map_cons, slotAt_of ev, ew]
      · cases h
    · cases h
theorem prd_of {α β : Type} {R : α → β → Prop} : ∀ {xs : List α} {ys : List β}, xs.length = ys.length → (∀ (i : Nat) (x : α) (y : β), xs[i]? = some x → ys[i]? = some y → R x y) → Paired R xs ys
  | [], [], _, _ => .nil
  | [], _ :: _, h, _ => by cases h
  | _ :: _, [], h, _ => by cases h
  | x :: xs, y :: ys, h, k => .cons (k 0 x y rfl rfl) (prd_of (by simpa using h) fun i a b e1 e2 => k (i + 1) a b (by simpa using e1) (by simpa using e2))
theorem zip_unz : ∀ l : List (Str × Addr), l = (l.map (·.1)).zip (l.map (·.2))
  | [] => rfl
  | y :: l => by rw [List.map_cons, List.map_cons, List.zip_cons_cons, ← zip_unz l]
section
variable {X : Cx} {pins : List (Addr × Obj)} {σ : L2.St} {G H : Hp} {s : Shared} {fr : List Str} {cs : List Addr} {js : List Nat}
/-- a function whose cells are this frame's, as a datum -/
theorem da_gho {t : Str} {φ : Addr → HO} {a cc : Addr} {ρ : Rho} {ds : List PyData} (I : Inv X pins σ H s) (R : Rl X.w X.K G σ ρ H) (C : Caps X (fr.zip cs) fr js) (z : OwnCs X cs) (nf : fr.Nodup) (hl : cs.length = fr.length) (h1 : FT.nf t cc cs = some φ) (h2 : G a = some (φ a)) (hco : G cc = some (LamX.CodeO cc (FT.qn t))) (hc : capD ρ js = some ds) : Da X.K (gho s.heap cs G) (.ref a) (fnD t ds) := by
  have ca := cells_of I C
  obtain ⟨ws, hw, ew⟩ := cap_of R hc
  rw [ew] at ca
  have wl : ws.length = cs.length := by rw [← List.length_map (f := some), ca.len, hl]
  have at_ : ∀ (i : Nat) (c : Addr), cs[i]? = some c → ∃ y, fr[i]? = some y ∧ (fr.zip cs).lookup y = some c := fun i c e => by
    have li : i < fr.length := by rw [← hl]; exact (List.getElem?_eq_some_iff.mp e).1
    exact ⟨fr[i], List.getElem?_eq_getElem li, zip_lk nf (List.getElem?_eq_getElem li) e⟩
  have sg := gho_same I z R.sub
  have nd : cs.Nodup := by
    refine List.pairwise_iff_getElem.mpr fun i j hi hj hij e => ?_
    obtain ⟨y1, e1, l1⟩ := at_ i _ (List.getElem?_eq_getElem hi)
    obtain ⟨y2, e2, l2⟩ := at_ j _ (List.getElem?_eq_getElem hj)
    rw [e] at l1
    have q := ca.inj _ _ _ l1 l2
    subst q
    have := (List.getElem?_inj (by rw [← hl]; exact hi) nf).mp (e1.trans e2.symm)
    omega
  refine .fn (cs := cs) (ws := ws) h1 (sg _ _ h2) (sg _ _ hco) (prd_of wl.symm fun i c v e1 e2 => ?_) nd (DaA.same hw fun b o e => ?_)
  · obtain ⟨y, ey, l⟩ := at_ i c e1
    obtain ⟨c', l', hv⟩ := ca.has i y ey
    rw [l] at l'; cases l'
    obtain ⟨u, ru, o, ho, hd⟩ := hv v (by rw [List.getElem?_map, e2]; rfl)
    exact ⟨o, u, gho_in (List.mem_of_getElem? e1) ho, hd, ru⟩
  · rw [drp_out fun hb => ?_]
    · exact sg _ _ e
    · have n := (own_free I z hb).1
      rw [R.sub _ _ e] at n; cases n
end
def fLam3 (F : FF) (js : List Nat) (t : Str) (f1 f3 : EF) : EF := fun ρ => match f1 ρ with
  | none => none
  | some (d1, ρ1) => match f3 ρ1 with
    | none => none
    | some (d3, ρ3) => match capD ρ3 js with
      | none => none
      | some ds => match F [.dat d1, .dat (fnD t ds), .dat d3] with
        | none => none
        | some (d, _) => if noF d = true then some (d, ρ3) else none
section
variable {X : Cx} {k : Nat} {x : Str} {ps fr : List Str} {js : List Nat} {p pos : Pos} {e1 lam e3 e : Expr} {f1 f3 : EF} {F : FF} {mk : Addr → List Addr → NF} {t : Str} {Fn : Addr → NF} {cl : List (Str × Addr)} {P : Addr} {nm : Nat → Nat → Str} {lpos : Pos}
/-- x(a, lambda .., b) -/
theorem de_lam3 (c : Cal X.prog X.w X.K X.mg X.base k x ps (spD X.w X.K 3 F)) (hG : Gd X.A) (hR : Room k X.A) (h1 : DE X e1 f1) (hlam : PE X lam (tLamT P (FT.qn t) lpos Fn e)) (hm0 : (P, nm) ∈ FT.tabs) (hu : ∀ p ∈ FT.tabs, p.1 = P → p.2 = nm) (hq0 : nm lpos.line lpos.col = FT.qn t) (h3 : DE X e3 f3)
    (hnf : ∀ c cs, cs.length = fr.length → FT.nf t c cs = some (LamO (mk c cs) e)) (hFn : ∀ c, Fn c = mk c (cl.map (·.2))) (hcl : cl.map (·.1) = fr) (hC : X.Ok → Caps X cl fr js) (hfr : fr.Nodup) (hfn : ∀ y, X.fn y = true)
    (hg : Gl X x := by rfl) (hdb : (x == ("__debug__" : Str)) = false := by decide)
    (he1 : starEach [e1, lam, e3] X.env = (false, eval e1 X.env) :: starEach [lam, e3] X.env := by rfl) (he2 : starEach [lam, e3] X.env = (false, eval lam X.env) :: starEach [e3] X.env := by rfl) (he3 : starEach [e3] X.env = (false, eval e3 X.env) :: starEach [] X.env := by rfl)
    (hpl : (backTo pos (starEach [lam, e3] X.env)).any (·.1) = false := by rfl) :
    DE X (.Call (.Name x p) [e1, lam, e3] [] pos) (fLam3 F js t f1 f3) := by
  obtain ⟨f, fd, Fk, hm, hk, hb⟩ := c
  refine ⟨fun pins s σ H Q I h => ?_⟩
  obtain ⟨G, ρ, ρ', d, R, hf, hq⟩ := h
  unfold fLam3 at hf
  split at hf
  · cases hf
  · rename_i d1 ρ1 q1
    split at hf
    · cases hf
    · rename_i d3 ρ3 q3
      split at hf
      · cases hf
      · rename_i ds qc
        split at hf
        · cases hf
        · rename_i d' ss qF
          split at hf
          · rename_i nf
            cases hf
            have ha : PA X [e1, lam, e3] (tCons (rE X.w X.K f1) (tCons (tLamT P (FT.qn t) lpos Fn e) (tCons (rE X.w X.K f3) tNil))) := pa_cons h1 (pa_cons hlam (pa_cons h3 pa_nil he3) he2) he1
            have ht : tCons (rE X.w X.K f1) (tCons (tLamT P (FT.qn t) lpos Fn e) (tCons (rE X.w X.K f3) tNil)) σ H fun vs H3 => ∃ (v1 v3 : V) (a c : Addr) (G3 : Hp), vs = [v1, .ref a, v3] ∧ Rl X.w X.K G3 σ ρ' H3 ∧ Sx G σ ρ H G3 σ ρ' H3 ∧ Da X.K G3 v1 d1 ∧ G3 a = some (LamO (Fn c) e a) ∧ G3 c = some (LamX.CodeO c (FT.qn t)) ∧ Da X.K G3 v3 d3 := by
              refine ⟨G, ρ, ρ1, d1, R, q1, fun v1 G1 H1 R1 s1 hv1 => ?_⟩
              refine mk_lam R1 hm0 hu hq0 fun a c G2 H2 xn g1 g2 => ?_
              refine ⟨_, ρ1, _, d3, R1.ext xn, q3, fun v3 G3 H3 R3 s3 hv3 => ?_⟩
              exact ⟨v1, v3, a, c, G3, rfl, R3, s1.trans ((Sx.ext xn).trans s3), (hv1.same xn.gg).same s3.gr, s3.gr _ _ g1, s3.gr _ _ g2, hv3⟩
            apply wpAny_Call_Name_kw
            refine ld_glob I hg hm (PySem.W.callWith_K (h₀ := X.base) I.ok.mod.kin hk (thn (ha.run pos pins s σ H _ I ht) ?_) he1 hpl) hdb
            rintro us s1 ⟨vs, H3, I3, r, v1, v3, a, cc, G3, rfl, R3, sx, hv1, hla, hco, hv3⟩
            refine ⟨I3.kIn, ?_⟩
            have C := hC I3.ok
            have ez : cl = fr.zip (cl.map (·.2)) := by
              rw [← hcl]
              exact zip_unz _
            have hl : (cl.map (·.2)).length = fr.length := by rw [← hcl, List.length_map, List.length_map]
            have own : OwnCs X (cl.map (·.2)) := fun c hc => by
              obtain ⟨i, hi⟩ := List.mem_iff_getElem?.mp hc
              have li : i < fr.length := by rw [← hl]; exact (List.getElem?_eq_some_iff.mp hi).1
              have l := zip_lk hfr (List.getElem?_eq_getElem li) hi
              rw [← ez] at l
              exact ⟨_, C.sub _ _ l, hfn _⟩
            have hnf' := hnf cc _ hl
            rw [← hFn] at hnf'
            rw [ez] at C
            have dl := da_gho I3 R3 C own hfr hl hnf' hla hco qc
            have sg := gho_same I3 own R3.sub
            exact run_gho Fk hG hR hb I3 own R3.sub R3.tb r (.cons (hv1.same sg) (.cons dl (.cons (hv3.same sg) .nil))) rfl qF nf fun v G' H' x hv => hq v G' H' (R3.ext x) (sx.trans (Sx.ext x)) hv
          · cases hf
end
end DL

set_option Elab.async false
set_option linter.all false
set_option maxRecDepth 100000
set_option maxHeartbeats 4000000
/-! Functions as data: two defs in a def, handed to a def at once. -/
namespace DL
open PySem PySem.Spec PyProof.Rows L2 GX StX NdefX
variable [DL.FT]
section
variable {ww : World} {K : PySem.W.Frag} {G H : Hp} {σ : L2.St} {ρ : Rho} {i : Nat} {x : Option V}
theorem ne_un {j : Nat} {s : Sl} (h : ρ[i]? = some .un) (q : ρ[j]? = some s) (n : s ≠ .un) : i ≠ j := fun e => by
  subst e
  rw [h] at q
  exact n (Option.some.inj q).symm
theorem Rl.raw (R : Rl ww K G σ ρ H) (h : ρ[i]? = some .un) : Rl ww K G (σ.set i x) ρ H where
  len := by rw [List.length_set]; exact R.len
  sub := R.sub
  dat := fun q => by rw [List.getElem?_set_ne (ne_un h q (by simp))]; exact R.dat q
  own := fun q => by rw [List.getElem?_set_ne (ne_un h q (by simp))]; exact R.own q
  dis := fun q1 q2 q3 q4 q5 q6 => by
    rw [List.getElem?_set_ne (ne_un h q1 (by simp))] at q3
    rw [List.getElem?_set_ne (ne_un h q2 (by simp))] at q4
    exact R.dis q1 q2 q3 q4 q5 q6
  scr := fun q => by rw [List.getElem?_set_ne (ne_un h q (by simp))]; exact R.scr q
  tb := R.tb
theorem Sx.raw (h : ρ[i]? = some .un) : Sx G σ ρ H G (σ.set i x) ρ H :=
  ⟨Same.refl _, fun _ h => .inl h, fun _ _ e _ _ => e, fun b ⟨j, c, ds, r, h1, h2, h3⟩ => .inl ⟨j, c, ds, r, h1, by rw [List.getElem?_set_ne (ne_un h h1 (by simp))] at h2; exact h2, h3⟩, fun _ h => h,
    fun j ds q => ⟨⟨_, q, fun _ => rfl⟩, List.getElem?_set_ne (ne_un h q (by simp))⟩⟩
end
/-- how a function of this frame stands: its cells' names, their slots, its tag -/
structure FnS (X : Cx) (cs0 : List (Str × Addr)) (φ : Addr → Addr → HO) (t : Str) (fr : List Str) (js : List Nat) : Prop where
  nf : ∀ c, FT.nf t c (cs0.map (·.2)) = some (φ c)
  cl : cs0.map (·.1) = fr
  caps : X.Ok → Caps X cs0 fr js
  nd : fr.Nodup
theorem FnS.da {X : Cx} {cl : List (Str × Addr)} {φ : Addr → Addr → HO} {t : Str} {fr : List Str} {js : List Nat} (S : FnS X cl φ t fr js) {pins : List (Addr × Obj)} {σ : L2.St} {G H : Hp} {s : Shared} {ρ : Rho} {ds : List PyData} {a c : Addr} {cs : List Addr} (I : Inv X pins σ H s) (R : Rl X.w X.K G σ ρ H) (own : OwnCs X cs)
    (hs : cl.map (·.2) = cs) (h2 : G a = some (φ c a)) (hco : G c = some (LamX.CodeO c (FT.qn t))) (hc : capD ρ js = some ds) : Da X.K (gho s.heap cs G) (.ref a) (fnD t ds) := by
  have ez : cl = fr.zip cs := by
    rw [← S.cl, ← hs]
    exact zip_unz _
  have hl : cs.length = fr.length := by rw [← S.cl, ← hs, List.length_map, List.length_map]
  have C := S.caps I.ok
  rw [ez] at C
  have n := S.nf c
  rw [hs] at n
  exact da_gho I R C own S.nd hl n h2 hco hc
theorem FnS.own {X : Cx} {cl : List (Str × Addr)} {φ : Addr → Addr → HO} {t : Str} {fr : List Str} {js : List Nat} (S : FnS X cl φ t fr js) (ok : X.Ok) (hfn : ∀ y, X.fn y = true) : OwnCs X (cl.map (·.2)) := fun c hc => by
  obtain ⟨i, hi⟩ := List.mem_iff_getElem?.mp hc
  have hl : (cl.map (·.2)).length = fr.length := by rw [← S.cl, List.length_map, List.length_map]
  have li : i < fr.length := by rw [← hl]; exact (List.getElem?_eq_some_iff.mp hi).1
  have l := zip_lk S.nd (List.getElem?_eq_getElem li) hi
  have ez : fr.zip (cl.map (·.2)) = cl := by
    rw [← S.cl]
    exact (zip_unz _).symm
  rw [ez] at l
  exact ⟨_, (S.caps ok).sub _ _ l, hfn _⟩
def fDefs2 (F : FF) (i j : Nat) (js1 js2 : List Nat) (t1 t2 : Str) (f1 : EF) : SF := fun ρ => match ρ[i]?, ρ[j]? with
  | some .un, some .un => match f1 ρ with
    | none => none
    | some (d1, ρ1) => match capD ρ1 js1, capD ρ1 js2 with
      | some ds1, some ds2 => match F [.dat d1, .dat (fnD t1 ds1), .dat (fnD t2 ds2)] with
        | none => none
        | some (d, _) => if noF d = true then some (.rt d ρ1) else none
      | _, _ => none
  | _, _ => none
section
variable {X : Cx} {k i j : Nat} {x y1 y2 : Str} {ps fr1 fr2 : List Str} {js1 js2 : List Nat} {p p1 p2 pos rpos : Pos} {e1 : Expr} {f1 : EF} {F : FF} {t1 t2 : Str} {Fn1 Fn2 : Addr → NF} {cl1 cl2 : List (Str × Addr)} {P : Addr} {nm : Nat → Nat → Str} {pos1 pos2 : Pos} {st1 st2 : Stmt}
/-- def y1 ..; def y2 ..; return x(a, y1, y2): both have the same cells -/
theorem dss_defs2 (c : Cal X.prog X.w X.K X.mg X.base k x ps (spD X.w X.K 3 F)) (hG : Gd X.A) (hR : Room k X.A) (hs1 : PS X st1 (tNdefT P (FT.qn t1) pos1 i Fn1)) (hs2 : PS X st2 (tNdefT P (FT.qn t2) pos2 j Fn2)) (hm0 : (P, nm) ∈ FT.tabs) (hu : ∀ p ∈ FT.tabs, p.1 = P → p.2 = nm) (hq1 : nm pos1.line pos1.col = FT.qn t1) (hq2 : nm pos2.line pos2.col = FT.qn t2) (h1 : DE X e1 f1) (hij : i ≠ j)
    (S1 : FnS X cl1 (fun c a => FnO a (Fn1 c)) t1 fr1 js1) (S2 : FnS X cl2 (fun c a => FnO a (Fn2 c)) t2 fr2 js2) (hcc : cl2.map (·.2) = cl1.map (·.2)) (hfn : ∀ y, X.fn y = true)
    (hN1 : X.N[i]? = some y1) (hN2 : X.N[j]? = some y2) (hv1 : Vis X.env.scope y1) (hv2 : Vis X.env.scope y2)
    (hg : Gl X x := by rfl) (hdb : (x == ("__debug__" : Str)) = false := by decide) (hd1 : (y1 == ("__debug__" : Str)) = false := by decide) (hc1 : (y1 == ("__classdict__" : Str)) = false := by decide) (hd2 : (y2 == ("__debug__" : Str)) = false := by decide) (hc2 : (y2 == ("__classdict__" : Str)) = false := by decide)
    (he1 : starEach [e1, .Name y1 p1, .Name y2 p2] X.env = (false, eval e1 X.env) :: starEach [.Name y1 p1, .Name y2 p2] X.env := by rfl) (he2 : starEach [.Name y1 p1, .Name y2 p2] X.env = (false, eval (.Name y1 p1) X.env) :: starEach [.Name y2 p2] X.env := by rfl) (he3 : starEach [.Name y2 p2] X.env = (false, eval (.Name y2 p2) X.env) :: starEach [] X.env := by rfl)
    (hpl : (backTo pos (starEach [.Name y1 p1, .Name y2 p2] X.env)).any (·.1) = false := by rfl) :
    DSs X [st1, st2, .Return (some (.Call (.Name x p) [e1, .Name y1 p1, .Name y2 p2] [] pos)) rpos] (fDefs2 F i j js1 js2 t1 t2 f1) := by
  obtain ⟨f, fd, Fk, hm, hk, hb⟩ := c
  let tC : TE := fun σ H Q => ∃ (G : Hp) (ρ ρ1 : Rho) (d1 d : PyData) (ds1 ds2 : List PyData) (a b ca cb : Addr) (ss : List Sl), Rl X.w X.K G σ ρ H ∧ f1 ρ = some (d1, ρ1) ∧ σ[i]? = some (some (.ref a)) ∧ σ[j]? = some (some (.ref b)) ∧ G a = some (FnO a (Fn1 ca)) ∧ G b = some (FnO b (Fn2 cb)) ∧ G ca = some (LamX.CodeO ca (FT.qn t1)) ∧ G cb = some (LamX.CodeO cb (FT.qn t2)) ∧
    capD ρ1 js1 = some ds1 ∧ capD ρ1 js2 = some ds2 ∧ F [.dat d1, .dat (fnD t1 ds1), .dat (fnD t2 ds2)] = some (d, ss) ∧ noF d = true ∧ ∀ v G' H', Rl X.w X.K G' σ ρ1 H' → Sx G σ ρ H G' σ ρ1 H' → Da X.K G' v d → Q v H'
  have hcall : PE X (.Call (.Name x p) [e1, .Name y1 p1, .Name y2 p2] [] pos) tC := by
    refine ⟨fun pins s σ H Q I h => ?_⟩
    obtain ⟨G, ρ, ρ1, d1, d, ds1, ds2, a, b, ca, cb, ss, R, q1, sa, sb, ga, gb, gca, gcb, c1, c2, qF, nf, hq⟩ := h
    have ha : PA X [e1, .Name y1 p1, .Name y2 p2] (tCons (rE X.w X.K f1) (tCons (tVar i) (tCons (tVar j) tNil))) :=
      pa_cons h1 (pa_cons (pe_var hN1 hv1 hd1 hc1) (pa_cons (pe_var hN2 hv2 hd2 hc2) pa_nil he3) he2) he1
    have ht : tCons (rE X.w X.K f1) (tCons (tVar i) (tCons (tVar j) tNil)) σ H fun vs H3 => ∃ (v1 : V) (G3 : Hp), vs = [v1, .ref a, .ref b] ∧ Rl X.w X.K G3 σ ρ1 H3 ∧ Sx G σ ρ H G3 σ ρ1 H3 ∧ Da X.K G3 v1 d1 :=
      ⟨G, ρ, ρ1, d1, R, q1, fun v1 G1 H1 R1 s1 hv1 => ⟨.ref a, sa, .ref b, sb, v1, G1, rfl, R1, s1, hv1⟩⟩
    apply wpAny_Call_Name_kw
    refine ld_glob I hg hm (PySem.W.callWith_K (h₀ := X.base) I.ok.mod.kin hk (thn (ha.run pos pins s σ H _ I ht) ?_) he1 hpl) hdb
    rintro us s1 ⟨vs, H3, I3, r, v1, G3, rfl, R3, sx, hv1⟩
    refine ⟨I3.kIn, ?_⟩
    have own := S1.own I3.ok hfn
    have A := S1.da I3 R3 own rfl (sx.gr _ _ ga) (sx.gr _ _ gca) c1
    have B := S2.da I3 R3 own hcc (sx.gr _ _ gb) (sx.gr _ _ gcb) c2
    exact run_gho Fk hG hR hb I3 own R3.sub R3.tb r (.cons (hv1.same (gho_same I3 own R3.sub)) (.cons A (.cons B .nil))) rfl qF nf fun v G' H' x hv => hq v G' H' (R3.ext x) (sx.trans (Sx.ext x)) hv
  refine pss_imp (pss_cons hs1 (pss_cons hs2 (pss_one (ps_ret (pos := rpos) hcall)))) ?_
  rintro D σ H ⟨G, ρ, o, R, hf, kk⟩
  unfold fDefs2 at hf
  split at hf
  · rename_i ei ej
    split at hf
    · cases hf
    · rename_i d1 ρ1 q1
      split at hf
      · rename_i ds1 ds2 c1 c2
        split at hf
        · cases hf
        · rename_i d ss qF
          split at hf
          · rename_i nf
            cases hf
            refine made_of R hm0 hu hq1 fun a ca G1 H1 na x1 ga gca => ?_
            have R1 := (R.ext x1).raw (x := some (.ref a)) ei
            refine made_of R1 hm0 hu hq2 fun b cb G2 H2 nb x2 gb gcb => ?_
            have R2 := (R1.ext x2).raw (x := some (.ref b)) ej
            have sx : Sx G σ ρ H _ ((σ.set i (some (.ref a))).set j (some (.ref b))) ρ _ := (Sx.ext x1).trans ((Sx.raw ei).trans ((Sx.ext x2).trans (Sx.raw ej)))
            have li : i < σ.length := R.lt ei
            have lj : j < σ.length := R.lt ej
            refine ⟨_, ρ, ρ1, d1, d, ds1, ds2, a, b, ca, cb, ss, R2, q1, ?_, ?_, x2.gg _ _ ga, gb, x2.gg _ _ gca, gcb, c1, c2, qF, nf, fun v G' H' R' s' hv => ?_⟩
            · rw [List.getElem?_set_ne (Ne.symm hij), List.getElem?_set_self li]
            · rw [List.getElem?_set_self (by rw [List.length_set]; exact lj)]
            · exact kk _ v G' H' R' (sx.trans s') hv
          · cases hf
      · cases hf
  · cases hf
end
end DL

set_option Elab.async false
set_option linter.all false
set_option maxRecDepth 100000
set_option maxHeartbeats 4000000
/-! {k: v} as an own dict; max of a list. -/
namespace DL
open PySem PySem.Spec PyProof.Rows L2 GX StX
variable [DL.FT]
/-- a thing that no slot holds is changed -/
theorem Rl.other {ww : World} {K : PySem.W.Frag} {G H : Hp} {σ : L2.St} {ρ : Rho} {p : Addr} {o : HO} {φ : Heap → Prop} (R : Rl ww K G σ ρ H) (g : G p = none) (no : ¬ Ow σ ρ p) (hp : H p = some (.ext φ)) : Rl ww K G σ ρ (upd H p o) where
  len := R.len
  sub := fun b u e => by
    have hb : b ≠ p := fun hb => by rw [hb, g] at e; cases e
    rw [upd_ne hb]; exact R.sub _ _ e
  dat := R.dat
  own := fun {i b c} q => by
    obtain ⟨r, e, h1, h2⟩ := R.own q
    exact ⟨r, e, h1, h2.step (Same.refl _) fun a ha => upd_ne fun hb => no ⟨i, b, c, r, q, e, hb ▸ ha⟩⟩
  dis := R.dis
  scr := fun q => by
    obtain ⟨r, e, h⟩ := R.scr q
    refine ⟨r, e, ?_⟩
    rcases h with ⟨ob, h⟩ | h
    · exact .inl ⟨ob, by rw [upd_ne fun hb => by rw [hb, hp] at h; cases h]; exact h⟩
    · exact .inr h
  tb := R.tb.step (Same.refl _) fun P ps h1 h2 => ⟨h2, (upd_ne (fun z : P = p => by rw [z, hp] at h1; cases h1)).trans h1⟩
section
variable {X : Cx}
def tDsp1 (ww : World) (K : PySem.W.Frag) (tk tv : TE) : TE := fun σ H Q => ∀ p, H p = none → tk σ (upd H p (.ext (DicP ww p []))) fun kv H1 => tv σ H1 fun vv H2 =>
  ∃ G a k, kv = .ref a ∧ Same G H2 ∧ KeyAt K G a k ∧ H2 p = some (.ext (DicP ww p [])) ∧ Q (.ref p) (upd H2 p (.ext (DicP ww p (xPut [] k a vv))))
theorem pe_dsp1 {ek ev : Expr} {pos : Pos} {tk tv : TE} (hu : X.A.units + 64 < cLine) (hk : PE X ek tk) (hv : PE X ev tv)
    (hshape : (evalEachOpt [some ek] X.env).zip ((evalEach [ev] X.env).map fun v => do let x ← v; standAt pos; pure x) = ([(eval ek X.env, (do let x ← eval ev X.env; standAt pos; pure x))] : List (Sem Value × Sem Value)).map fun p => (some p.1, p.2) := by rfl) :
    PE X (.Dict [some ek] [ev] pos) (tDsp1 X.w X.K tk tv) := by
  refine ⟨fun pins s σ H Q I h => ?_⟩
  have np : H s.heap.objs.size = none := I.hok.fresh (Nat.le_refl _)
  have I1 := I.laid (a := s.heap.objs.size) (o := .ext (DicP X.w s.heap.objs.size [])) (t' := s.toks) (h' := s.heap.push { cls := .type "dict", data := .dict #[] }) (fun _ _ q => Heap.get?_push_of_some _ q) (Nat.le_refl _)
    (ext_ok (dicP_of (P := X.prog) (beq_eq_false_iff_ne.mpr (Ne.symm (Nat.ne_of_lt I.big))) .nil (Heap.DictOfH.new s.heap)))
  rw [arm_eval_Dict, hshape, dictDisplay_pairs _ (by simp) (by simp)]
  refine wpAny_bind (wpAny_standAt (wpAny_bind (wpAny_subDictH (knd := nestedKind X.prog X.w) (by show X.A.units + 8 < cLine; omega) (by simp) ?_)))
  refine evalPairs_cons (thn (hk.run pins _ σ _ _ I1 (h _ np)) fun kv s1 ⟨xk, H1, I2, r1, q1⟩ => ?_)
  refine wpAny_bind (thn (hv.run pins s1 σ H1 _ I2 q1) fun vv s2 ⟨xv, H2, I3, r2, q2⟩ => ?_)
  obtain ⟨G, a, k, rfl, sm, ka, hp, q⟩ := q2
  obtain rfl : kv = Value.ref a := r1
  obtain ⟨hd, ys, r, dd⟩ := dic_at (kvs := []) I3 sm hp .nil
  cases r
  refine wpAny_bind (wpAny_standAt (wpAny_pure (evalPairs_nil ⟨[(k, a, vv)], ⟨rfl, rfl, keyAt_is I3 sm ka, trivial⟩, dd, fun h' tk' d' hs => ?_⟩)))
  refine wpAny_pure ⟨.ref s.heap.objs.size, _, dic_write I3 hp hs (dicP_of hd (storedQ (xs := []) (ys := []) .nil r2) d'), rfl, q⟩
def fDic1 (i : Nat) (fk fv : EF) : SF := fun ρ => match fk ρ with
  | some (.tuple es, ρ1) => match fv ρ1, keyD (.tuple es) with
    | some (d, ρ2), some k => if decide (NestedKey.depth k ≤ 8) = true then some (.nx (ρ2.set i (.own false (.k [(k, d)])))) else none
    | _, _ => none
  | _ => none
theorem ds_dic1 (hu : X.A.units + 64 < cLine) (i : Nat) {x : Str} {ek ev : Expr} {fk fv : EF} {dpos pos pos' : Pos} (hk : DE X ek fk) (hv : DE X ev fv) (nd : X.N.Nodup) (hN : X.N[i]? = some x := by rfl) (hx : Loc X.env.scope x := by first | exact Or.inl rfl | exact Or.inr rfl)
    (hs : swapsWith (.Dict [some ek] [ev] dpos) (some (.Name x pos')) pos.line X.env = pure false := by rfl) (hf : X.fn x = true ∨ X.env.scope.names.lookup x = some .local := by first | exact .inl rfl | exact .inr rfl)
    (hshape : (evalEachOpt [some ek] X.env).zip ((evalEach [ev] X.env).map fun v => do let x ← v; standAt dpos; pure x) = ([(eval ek X.env, (do let x ← eval ev X.env; standAt dpos; pure x))] : List (Sem Value × Sem Value)).map fun p => (some p.1, p.2) := by rfl) :
    DS X (.Assign [.Name x pos'] (.Dict [some ek] [ev] dpos) pos) (fDic1 i fk fv) := by
  refine ps_imp (ps_set nd hN hx (pe_dsp1 hu hk hv hshape) hs hf) ?_
  rintro D σ H ⟨G, ρ, o, R, hf, k⟩
  unfold fDic1 at hf
  split at hf
  · rename_i es ρ1 e1
    split at hf
    · rename_i d ρ2 kk e2 e3
      split at hf
      · rename_i hdp
        cases hf
        intro p n
        have x1 := Xt.more (p := p) (o := .ext (DicP X.w p [])) R.sub n
        have R1 := R.ext x1
        refine ⟨G, ρ, ρ1, _, R1, e1, fun vk G1 H1 R2 s2 hvk => ⟨G1, ρ1, ρ2, d, R2, e2, fun vv G2 H2 R3 s3 hvv => ?_⟩⟩
        have s23 := s2.trans s3
        have no1 : ¬ Ow σ ρ p := noOw R n
        have hp2 : H2 p = some (.ext (DicP X.w p [])) := s23.fr p _ upd_same (fun _ z => nomatch z) no1
        obtain ⟨a, ea⟩ : ∃ a, vk = .ref a := by cases hvk; exact ⟨_, rfl⟩
        subst ea
        have ka : KeyAt X.K G2 a kk := ⟨⟨_, e3, hvk.same s3.gr⟩, of_decide_eq_true hdp⟩
        refine ⟨G2, a, kk, rfl, R3.sub, ka, hp2, ?_⟩
        have g0 : G p = none := Same.free R.sub n
        have g2 : G2 p = none := by
          cases q : G2 p with
          | none => rfl
          | some o =>
            rcases s23.new p (by rw [q]; simp) with z | z | z
            · exact (z g0).elim
            · rw [upd_same] at z; cases z
            · exact (no1 z).elim
        have no2 : ¬ Ow σ ρ2 p := fun z => by
          rcases s23.ow p z with y | y
          · exact no1 y
          · rw [upd_same] at y; cases y
        have xA : DicA X.K G2 (xPut [] kk a vv) [(kk, d)] := storedA (kvs := []) .nil ka hvv
        have R4 := R3.other (o := .ext (DicP X.w p (xPut [] kk a vv))) g2 no2 hp2
        have s4 : Sx G σ ρ H G2 σ ρ2 (upd H2 p (.ext (DicP X.w p (xPut [] kk a vv)))) := by
          have back : ∀ b, upd H p (.ext (DicP X.w p [])) b = none → H b = none := fun b z => by
            by_cases hb : b = p
            · rw [hb, upd_same] at z; cases z
            · rw [upd_ne hb] at z; exact z
          refine ⟨s23.gr, fun b z => ?_, fun b o e t no => ?_, fun b z => ?_, fun b z => ?_, s23.par⟩
          · rcases s23.new b z with y | y | y
            · exact .inl y
            · exact .inr (.inl (back b y))
            · exact .inr (.inr y)
          · have hb : b ≠ p := fun hb => by rw [hb, n] at e; cases e
            rw [upd_ne hb]
            exact s23.fr b o (by rw [upd_ne hb]; exact e) t no
          · rcases s23.ow b z with y | y
            · exact .inl y
            · exact .inr (back b y)
          · have hb : b ≠ p := fun hb => z (by rw [hb]; exact n)
            rw [upd_ne hb]
            exact s23.al b (by rw [upd_ne hb]; exact z)
        have one : ∀ {A : Addr → Prop}, A p → ∀ a ∈ reg p (.k [(kk, d)]), A a := fun {A} h a ha => by
          simp only [reg, List.mem_singleton] at ha
          rw [ha]; exact h
        exact k _ G2 _ (R4.holdC (ds := .k [(kk, d)]) (one g2) (one no2) ⟨_, upd_same, xA⟩) (Sx.holdC (ds := .k [(kk, d)]) s4 (one n))
      · cases hf
    · cases hf
  · cases hf
end
/-! ### max of a list -/
theorem foldl_ge : ∀ (ns : List Int) (n y : Int), (y = n ∨ y ∈ ns) → y ≤ ns.foldl max n
  | [], n, y, h => by
    rcases h with h | h
    · rw [h]; exact Int.le_refl _
    · simp at h
  | a :: ns, n, y, h => by
    rw [List.foldl_cons]
    rcases h with h | h
    · exact Int.le_trans (by rw [h]; exact Int.le_max_left _ _) (foldl_ge ns (max n a) _ (.inl rfl))
    · rcases List.mem_cons.mp h with h | h
      · exact Int.le_trans (by rw [h]; exact Int.le_max_right _ _) (foldl_ge ns (max n a) _ (.inl rfl))
      · exact foldl_ge ns _ y (.inr h)
theorem foldl_in : ∀ (ns : List Int) (n : Int), ns.foldl max n = n ∨ ns.foldl max n ∈ ns
  | [], n => .inl rfl
  | a :: ns, n => by
    rw [List.foldl_cons]
    rcases foldl_in ns (max n a) with h | h
    · rw [h]
      by_cases c : n ≤ a
      · rw [Int.max_eq_right c]; exact .inr List.mem_cons_self
      · rw [Int.max_eq_left (by omega)]; exact .inl rfl
    · exact .inr (List.mem_cons_of_mem _ h)
/-- of a list of integers, or of two -/
def maxD : OpN
  | [.int i, .int j] => some (.int (if j > i then j else i))
  | [.list ds] => match intsOf ds with
    | some (n :: ns) => some (.int (ns.foldl max n))
    | _ => none
  | _ => none
section
variable {X : Cx}
theorem cl_max (hc : X.calm = true) : CallR X (.builtin "max") (rCl X.w X.K maxD) := by
  refine CallR.imp (L2.CallR.or (call_max2 hc) (cr_max hc)) ?_
  rintro xs H Q ⟨G, ds, r, sub, hd, h, k⟩
  unfold maxD at h
  split at h
  · cases h
    obtain ⟨v, u, rfl, hv, hu⟩ := pair2 hd
    rw [bo_int hv, bo_int hu]
    exact .inl ⟨_, _, rfl, k _ G H (Xt.refl sub) (.int _)⟩
  · split at h
    · rename_i ds' n ns e
      cases h
      obtain ⟨v, rfl, hv⟩ := pair1 hd
      obtain ⟨p, ys, rfl, hp, ha⟩ := bo_list hv sub
      rw [intsOf_eq e] at ha
      rw [ha.ints] at hp
      refine .inr ⟨p, n :: ns, rfl, .inl (.inl hp), by simp, fun m hm hy => ?_⟩
      have e1 : m = ns.foldl max n := by
        refine Int.le_antisymm (foldl_ge ns n m (List.mem_cons.mp hm)) (hy _ ?_)
        rcases foldl_in ns n with z | z
        · rw [z]; exact List.mem_cons_self
        · exact List.mem_cons_of_mem _ z
      rw [e1]
      exact k _ G H (Xt.refl sub) (.int _)
    · cases h
  · cases h
end
end DL

set_option Elab.async false
set_option linter.all false
set_option maxRecDepth 100000
set_option maxHeartbeats 4000000
/-! a, *b = a list. -/
namespace DL
open PySem PySem.Spec PyProof.Rows L2 GX StX
variable [DL.FT]
section
variable {prog : Program} {w : World} {A : Around} {E : Value → Shared → Prop} {s : Shared}
theorem unpack_restL {l : Addr} {x : Value} {r : List Value} {Q : List Value → Shared → Prop} (ht : s.heap.IsList l (x :: r).toArray) (hh : A.handled = none) (hz : r.length ≤ 1000)
    (h : ∀ (g : Heap) tk, (∀ b o, s.heap.get? b = some o → g.get? b = some o) → Q [x, .ref g.objs.size] { s with heap := g.push { cls := .type "list", data := .seq r.toArray }, toks := tk }) :
    wpAny (model prog w) A (unpackItems (.ref l) 2 (some 1)) Q E s := by
  have ne : l ≠ s.heap.objs.size := by
    obtain ⟨o, ho, _⟩ := ht
    exact Nat.ne_of_lt (Heap.lt_size ho)
  unfold unpackItems; refine wpAny_bind ?_; unfold notIterableAtAll
  refine wpAny_bind (wpAny_specialOf ht.typeIs slot_list_iter.lookup (wpAny_pure ?_))
  simp only [Bool.false_eq_true, if_false]
  refine wpAny_bind (wpAny_holding (wpAny_pyIter_list ht (wpAny_bind (wpAny_holding ?_))))
  have hit0 : (s.heap.push { cls := .type "list_iterator", data := .fields #[.ref l, .int 0 0] }).IsListIter s.heap.objs.size l 0 := ⟨_, Heap.get?_push_size _ rfl, rfl, rfl⟩
  show wpAny _ _ (pyNext (.ref s.heap.objs.size) >>= _) _ _ _
  refine wpAny_bind (wpAny_pyNext_list_item hit0 (ht.push _) (x := x) (by simp) fun g it sb => ?_)
  refine wpAny_bind (wpAny_holding ?_)
  show wpAny _ _ (pure []) _ _ _
  refine wpAny_pure (wpAny_pure ?_)
  have tg : g.IsList l (x :: r).toArray := (ht.push _).extBut sb.extBut ne
  obtain ⟨oi, hoi, it'⟩ := id it
  obtain ⟨ol, hol, _⟩ := id tg
  show wpAny _ _ (if ([x] : List Value).length < 1 then _ else _) _ _ _
  rw [if_neg (by simp)]
  refine wpAny_bind (wpAny_holding (PySem.W.kun_collect (s := { s with heap := g }) (T := "list_iterator") (.inr (.inr (.inl rfl)))
    (Walks.list (A := A.in1) hh s.heap.objs.size l ne (x :: r).toArray) (fun j u st => st.1.typeIs) (k := 1) (by simp) ⟨it, tg⟩ (Heap.lt_size hoi) (Heap.lt_size hol) (fun g2 tk hk => ?_) (by rw [sizeLine_eq]; simp; omega)))
  have er : (x :: r).toArray.toList.drop 1 = r := rfl
  rw [er]
  show wpAny _ _ (if r.length < 0 then _ else _) _ _ _
  rw [if_neg (by omega)]
  show wpAny _ _ (newList (r.take (r.length - 0)) >>= fun d => pure ([x] ++ [d] ++ r.drop (r.length - 0))) _ _ _
  rw [Nat.sub_zero, List.take_length, List.drop_length]
  have kp : ∀ b o, s.heap.get? b = some o → g2.get? b = some o := by
    intro b o e
    have hb : b ≠ s.heap.objs.size := Nat.ne_of_lt (Heap.lt_size e)
    exact hk b o hb (sb.extBut b o hb (Heap.get?_push_of_some _ e))
  refine wpAny_bind (wpAny_newList (s := { s with heap := g2, toks := tk }) (wpAny_pure ?_) (by rw [sizeLine_eq]; omega))
  exact h g2 tk kp
end
def gRestL (K : PySem.W.Frag) (t u : TG) : TG := fun v σ H Q => ∃ a x xs, v = .ref a ∧ SqL K H a (x :: xs) ∧ xs.length ≤ 1000 ∧ ∀ p, H p = none → t x σ (upd H p (.lst xs)) fun σ1 H1 => u (.ref p) σ1 H1 Q
section
variable {X : Cx} {pos sp : Pos}
theorem pg_restL {a b : Expr} {k : Nat} {t u : TG} (hc : X.calm = true) (ha : PG X a t) (hb : PG X b u) (hn : (assignEach [a, .Starred b sp] X.env).length = 2 := by rfl)
    (hst : (assignEach [a, .Starred b sp] X.env).findIdx? (·.1) = some 1 := by rfl) (hm : (assignEach [a, .Starred b sp] X.env).map (·.2) = [assign a X.env, assign b X.env] := by rfl) :
    PG X (.Tuple [a, .Starred b sp] k pos) (gRestL X.K t u) := by
  constructor
  intro pins s σ H v w Q I r hw
  obtain ⟨c, x, xs, e, hq, hl, hw⟩ := hw
  subst e
  cases r
  obtain ⟨its, rv, ht, hz⟩ := I.list hq
  cases rv with
  | @cons _ y _ ys r1 r2 =>
    rw [assign_Tuple]
    refine wpAny_bind (wpAny_standAt ?_)
    unfold unpack
    rw [hn, hst]
    refine wpAny_bind (wpAny_holding (unpack_restL ht.isList (I.ok.hd hc) (by rw [← r2.length]; exact hl) fun g tk kp => ?_))
    rw [hm]
    have I1 : Inv X pins σ H { s with heap := g, toks := tk } := I.kept kp
    have I2 : Inv X pins σ (upd H g.objs.size (.lst xs)) { s with heap := g.push { cls := .type "list", data := .seq ys.toArray }, toks := tk } :=
      I1.laid (t' := tk) (fun b o z => Heap.get?_push_of_some _ z) (Nat.le_refl _) ⟨by rw [sizeLine_eq]; omega, ys, 0, r2, Heap.get?_push_size _ rfl⟩
    have hw2 := hw g.objs.size (I1.hok.fresh (Nat.le_refl _))
    refine assignInOrder_cons (thn (ha.run pins _ σ _ x y _ I2 r1 hw2) fun _ s1 ⟨σ1, H1, I3, q1⟩ => ?_)
    refine assignInOrder_cons (thn (hb.run pins s1 σ1 H1 (.ref g.objs.size) (.ref g.objs.size) _ I3 rfl q1) fun _ s2 ⟨σ2, H2, I4, q2⟩ => ?_)
    exact wpAny_pure ⟨σ2, H2, I4, q2⟩
/-- the first one by its own target, the others as a new list; of a tuple or a list -/
def tRestG (t u : GT) : GT := fun d ρ => match d with
  | .tuple (d0 :: ds) => if ds.length ≤ 1000 then (match t d0 ρ with | some ρ1 => u (.list ds) ρ1 | none => none) else none
  | .list (d0 :: ds) => if ds.length ≤ 1000 then (match t d0 ρ with | some ρ1 => u (.list ds) ρ1 | none => none) else none
  | _ => none
theorem dtg_restG {a b : Expr} {t u : GT} {k : Nat} (hc : X.calm = true) (ha : DTg X a t) (hb : DTg X b u)
    (hn : (assignEach [a, .Starred b sp] X.env).length = 2 := by rfl) (hst : (assignEach [a, .Starred b sp] X.env).findIdx? (·.1) = some 1 := by rfl) (hm : (assignEach [a, .Starred b sp] X.env).map (·.2) = [assign a X.env, assign b X.env] := by rfl) :
    DTg X (.Tuple [a, .Starred b sp] k pos) (tRestG t u) := by
  refine pg_imp (pg_or (pg_rest hc ha hb hn hst hm) (pg_restL hc ha hb hn hst hm)) ?_
  rintro v σ H Q ⟨G, ρ, ρ', d, R, hd, ht, kk⟩
  unfold tRestG at ht
  split at ht
  · rename_i d0 ds
    split at ht
    · rename_i hz
      split at ht
      · rename_i ρ1 e1
        cases hd with
        | tup hs hA =>
          cases hA with
          | @cons _ v0 vs _ _ h1 h2 =>
            refine .inl ⟨_, v0, vs, rfl, (hs.same R.sub).sq, by rw [h2.len]; exact hz, fun p n => ?_⟩
            have xt := Xt.new (o := .lst vs) R.sub n
            exact ⟨_, ρ, ρ1, d0, R.ext xt, h1.same xt.gg, e1, fun σ1 G1 H1 R1 s1 => ⟨G1, ρ1, ρ', .list ds, R1, (newL (Same.free R.sub n) h2).same s1.gr, ht, fun σ2 G2 H2 R2 s2 => kk σ2 G2 H2 R2 ((Sx.ext xt).trans (s1.trans s2))⟩⟩
      · cases ht
    · cases ht
  · rename_i d0 ds
    split at ht
    · rename_i hz
      split at ht
      · rename_i ρ1 e1
        cases hd with
        | lst hs hA =>
          cases hA with
          | @cons _ v0 vs _ _ h1 h2 =>
            refine .inr ⟨_, v0, vs, rfl, .inl (.inl (R.sub _ _ hs)), by rw [h2.len]; exact hz, fun p n => ?_⟩
            have xt := Xt.new (o := .lst vs) R.sub n
            exact ⟨_, ρ, ρ1, d0, R.ext xt, h1.same xt.gg, e1, fun σ1 G1 H1 R1 s1 => ⟨G1, ρ1, ρ', .list ds, R1, (newL (Same.free R.sub n) h2).same s1.gr, ht, fun σ2 G2 H2 R2 s2 => kk σ2 G2 H2 R2 ((Sx.ext xt).trans (s1.trans s2))⟩⟩
      · cases ht
    · cases ht
  · cases ht
end
end DL

set_option Elab.async false
set_option linter.all false
set_option maxRecDepth 100000
set_option maxHeartbeats 4000000
/-! y = [.. for a, b in ..] on one line. -/
namespace DL
open PySem PySem.Spec PyProof.Rows L2 GX StX
variable [DL.FT]
section
variable {X : Cx}
theorem ds_setCP {i n kk : Nat} {y : Str} {own : List (Str × Nat)} {es : List Expr} {py : Pos} {elt iter : Expr} {ifs : List Expr} {scope : Scope} {pos p spos : Pos} {it : LF} {c : TF} {f : EF} (hc : X.calm = true) (hN : X.N.Nodup) (hy : X.N[i]? = some y) (hyl : X.env.scope.names.lookup y = some .local)
    (hsw : swapsWith (.ListComp elt [⟨.Tuple es kk p, iter, ifs, 0⟩] scope pos) (some (.Name y py)) spos.line X.env = pure true) (hi : DIP X (.Tuple es kk p) iter it) (ok : BlkOk X.N X.env.scope scope own)
    (hg : ∀ (s : Shared) (H : Hp) (C : Addr) (cl : List (Str × Addr)) (fp : List Addr), PG (X.blk s H scope (compEnvC scope cl C X.env) fp) (.Tuple es kk p) (gTup X.K n (gNames (own.map (·.2)))))
    (ht : ∀ (s : Shared) (H : Hp) (C : Addr) (cl : List (Str × Addr)) (fp : List Addr), DC (X.blk s H scope (compEnvC scope cl C X.env) fp) ifs c)
    (he : ∀ (s : Shared) (H : Hp) (C : Addr) (cl : List (Str × Addr)) (fp : List Addr), DE (X.blk s H scope (compEnvC scope cl C X.env) fp) elt f) (hs : ∀ x, foldedSetIterable iter X.env x = pure x := by intro _; rfl) :
    DS X (.Assign [.Name y py] (.ListComp elt [⟨.Tuple es kk p, iter, ifs, 0⟩] scope pos) spos) (fHold i (fComp it (own.map (·.2)) (tTupT n ((own.map (·.2)).map tName)) c f)) := by
  refine ps_imp (ps_setLc (own := own) (tt := rT X.w X.K c) (te := rE X.w X.K f) hc hN hy hyl hsw hi ok hg ht he hs) ?_
  intro D σ H h
  exact rF_compP (fun _ _ _ h => h) (fun _ _ _ h => h) _ _ _ (rS_hold _ _ _ h)
theorem ds_setCT {i n kk : Nat} {y : Str} {own : List (Str × Nat)} {es : List Expr} {py : Pos} {elt iter : Expr} {ifs : List Expr} {scope : Scope} {pos p spos : Pos} {it : LF} {c : TF} {f : EF} (hc : X.calm = true) (hN : X.N.Nodup) (hy : X.N[i]? = some y) (hyl : X.env.scope.names.lookup y = some .local)
    (hsw : swapsWith (.ListComp elt [⟨.Tuple es kk p, iter, ifs, 0⟩] scope pos) (some (.Name y py)) spos.line X.env = pure true) (hi : DI X (.Tuple es kk p) iter it) (ok : BlkOk X.N X.env.scope scope own)
    (hg : ∀ (s : Shared) (H : Hp) (C : Addr) (cl : List (Str × Addr)) (fp : List Addr), PG (X.blk s H scope (compEnvC scope cl C X.env) fp) (.Tuple es kk p) (gTup X.K n (gNames (own.map (·.2)))))
    (hg2 : ∀ (s : Shared) (H : Hp) (C : Addr) (cl : List (Str × Addr)) (fp : List Addr), PG (X.blk s H scope (compEnvC scope cl C X.env) fp) (.Tuple es kk p) (gUnl X.K n (gNames (own.map (·.2)))))
    (ht : ∀ (s : Shared) (H : Hp) (C : Addr) (cl : List (Str × Addr)) (fp : List Addr), DC (X.blk s H scope (compEnvC scope cl C X.env) fp) ifs c)
    (he : ∀ (s : Shared) (H : Hp) (C : Addr) (cl : List (Str × Addr)) (fp : List Addr), DE (X.blk s H scope (compEnvC scope cl C X.env) fp) elt f) (hs : ∀ x, foldedSetIterable iter X.env x = pure x := by intro _; rfl) :
    DS X (.Assign [.Name y py] (.ListComp elt [⟨.Tuple es kk p, iter, ifs, 0⟩] scope pos) spos) (fHold i (fComp it (own.map (·.2)) (tTupT n ((own.map (·.2)).map tName)) c f)) := by
  refine ps_imp (ps_setLc (own := own) (tt := rT X.w X.K c) (te := rE X.w X.K f) hc hN hy hyl hsw hi ok (fun s H C cl fp => pg_or (hg s H C cl fp) (hg2 s H C cl fp)) ht he hs) ?_
  intro D σ H h
  exact rF_compT (fun _ _ _ h => h) (fun _ _ _ h => h) _ _ _ (rS_hold _ _ _ h)
theorem dn_kP {es : List Expr} {kk n : Nat} {own : List (Str × Nat)} {elt iter : Expr} {ifs : List Expr} {scope : Scope} {pos p : Pos} {it : LF} {c : TF} {f : EF} {ks : List Nat} (hk : own.map (·.2) = ks) (hc : X.calm = true) (hN : X.N.Nodup) (hi : DIP X (.Tuple es kk p) iter it) (ok : BlkOk X.N X.env.scope scope own)
    (hg : ∀ (s : Shared) (H : Hp) (C : Addr) (cl : List (Str × Addr)) (fp : List Addr), PG (X.blk s H scope (compEnvC scope cl C X.env) fp) (.Tuple es kk p) (gTup X.K n (gNames ks)))
    (ht : ∀ (s : Shared) (H : Hp) (C : Addr) (cl : List (Str × Addr)) (fp : List Addr), DC (X.blk s H scope (compEnvC scope cl C X.env) fp) ifs c)
    (he : ∀ (s : Shared) (H : Hp) (C : Addr) (cl : List (Str × Addr)) (fp : List Addr), DE (X.blk s H scope (compEnvC scope cl C X.env) fp) elt f) (hs : ∀ x, foldedSetIterable iter X.env x = pure x := by intro _; rfl) :
    DN X (.ListComp elt [⟨.Tuple es kk p, iter, ifs, 0⟩] scope pos) (fComp it ks (tTupT n (ks.map tName)) c f) := by
  subst hk
  exact dn_compP hc hN hi ok hg ht he hs
theorem dn_kT {es : List Expr} {kk n : Nat} {own : List (Str × Nat)} {elt iter : Expr} {ifs : List Expr} {scope : Scope} {pos p : Pos} {it : LF} {c : TF} {f : EF} {ks : List Nat} (hk : own.map (·.2) = ks) (hc : X.calm = true) (hN : X.N.Nodup) (hi : DI X (.Tuple es kk p) iter it) (ok : BlkOk X.N X.env.scope scope own)
    (hg : ∀ (s : Shared) (H : Hp) (C : Addr) (cl : List (Str × Addr)) (fp : List Addr), PG (X.blk s H scope (compEnvC scope cl C X.env) fp) (.Tuple es kk p) (gTup X.K n (gNames ks)))
    (hg2 : ∀ (s : Shared) (H : Hp) (C : Addr) (cl : List (Str × Addr)) (fp : List Addr), PG (X.blk s H scope (compEnvC scope cl C X.env) fp) (.Tuple es kk p) (gUnl X.K n (gNames ks)))
    (ht : ∀ (s : Shared) (H : Hp) (C : Addr) (cl : List (Str × Addr)) (fp : List Addr), DC (X.blk s H scope (compEnvC scope cl C X.env) fp) ifs c)
    (he : ∀ (s : Shared) (H : Hp) (C : Addr) (cl : List (Str × Addr)) (fp : List Addr), DE (X.blk s H scope (compEnvC scope cl C X.env) fp) elt f) (hs : ∀ x, foldedSetIterable iter X.env x = pure x := by intro _; rfl) :
    DN X (.ListComp elt [⟨.Tuple es kk p, iter, ifs, 0⟩] scope pos) (fComp it ks (tTupT n (ks.map tName)) c f) := by
  subst hk
  exact dn_compT hc hN hi ok hg hg2 ht he hs
theorem ds_kP {i n kk : Nat} {y : Str} {own : List (Str × Nat)} {es : List Expr} {py : Pos} {elt iter : Expr} {ifs : List Expr} {scope : Scope} {pos p spos : Pos} {it : LF} {c : TF} {f : EF} {ks : List Nat} (hk : own.map (·.2) = ks) (hc : X.calm = true) (hN : X.N.Nodup) (hy : X.N[i]? = some y) (hyl : X.env.scope.names.lookup y = some .local)
    (hsw : swapsWith (.ListComp elt [⟨.Tuple es kk p, iter, ifs, 0⟩] scope pos) (some (.Name y py)) spos.line X.env = pure true) (hi : DIP X (.Tuple es kk p) iter it) (ok : BlkOk X.N X.env.scope scope own)
    (hg : ∀ (s : Shared) (H : Hp) (C : Addr) (cl : List (Str × Addr)) (fp : List Addr), PG (X.blk s H scope (compEnvC scope cl C X.env) fp) (.Tuple es kk p) (gTup X.K n (gNames ks)))
    (ht : ∀ (s : Shared) (H : Hp) (C : Addr) (cl : List (Str × Addr)) (fp : List Addr), DC (X.blk s H scope (compEnvC scope cl C X.env) fp) ifs c)
    (he : ∀ (s : Shared) (H : Hp) (C : Addr) (cl : List (Str × Addr)) (fp : List Addr), DE (X.blk s H scope (compEnvC scope cl C X.env) fp) elt f) (hs : ∀ x, foldedSetIterable iter X.env x = pure x := by intro _; rfl) :
    DS X (.Assign [.Name y py] (.ListComp elt [⟨.Tuple es kk p, iter, ifs, 0⟩] scope pos) spos) (fHold i (fComp it ks (tTupT n (ks.map tName)) c f)) := by
  subst hk
  exact ds_setCP hc hN hy hyl hsw hi ok hg ht he hs
theorem ds_kT {i n kk : Nat} {y : Str} {own : List (Str × Nat)} {es : List Expr} {py : Pos} {elt iter : Expr} {ifs : List Expr} {scope : Scope} {pos p spos : Pos} {it : LF} {c : TF} {f : EF} {ks : List Nat} (hk : own.map (·.2) = ks) (hc : X.calm = true) (hN : X.N.Nodup) (hy : X.N[i]? = some y) (hyl : X.env.scope.names.lookup y = some .local)
    (hsw : swapsWith (.ListComp elt [⟨.Tuple es kk p, iter, ifs, 0⟩] scope pos) (some (.Name y py)) spos.line X.env = pure true) (hi : DI X (.Tuple es kk p) iter it) (ok : BlkOk X.N X.env.scope scope own)
    (hg : ∀ (s : Shared) (H : Hp) (C : Addr) (cl : List (Str × Addr)) (fp : List Addr), PG (X.blk s H scope (compEnvC scope cl C X.env) fp) (.Tuple es kk p) (gTup X.K n (gNames ks)))
    (hg2 : ∀ (s : Shared) (H : Hp) (C : Addr) (cl : List (Str × Addr)) (fp : List Addr), PG (X.blk s H scope (compEnvC scope cl C X.env) fp) (.Tuple es kk p) (gUnl X.K n (gNames ks)))
    (ht : ∀ (s : Shared) (H : Hp) (C : Addr) (cl : List (Str × Addr)) (fp : List Addr), DC (X.blk s H scope (compEnvC scope cl C X.env) fp) ifs c)
    (he : ∀ (s : Shared) (H : Hp) (C : Addr) (cl : List (Str × Addr)) (fp : List Addr), DE (X.blk s H scope (compEnvC scope cl C X.env) fp) elt f) (hs : ∀ x, foldedSetIterable iter X.env x = pure x := by intro _; rfl) :
    DS X (.Assign [.Name y py] (.ListComp elt [⟨.Tuple es kk p, iter, ifs, 0⟩] scope pos) spos) (fHold i (fComp it ks (tTupT n (ks.map tName)) c f)) := by
  subst hk
  exact ds_setCT hc hN hy hyl hsw hi ok hg hg2 ht he hs
end
end DL

set_option Elab.async false
set_option linter.all false
set_option maxRecDepth 100000
set_option maxHeartbeats 4000000
/-! list(x); x is True, x is not True. -/
namespace DL
open PySem PySem.Spec PyProof.Rows L2 GX StX
variable [DL.FT]
section
variable {X : Cx}
/-! ### list(x) -/
def fListC (f : AF) : LF := fun ρ => match f ρ with
  | none => none
  | some (as, ρ1) => match looks ρ1 as with
    | some [.list ds] => some (ds, ρ1)
    | some [.tuple ds] => some (ds, ρ1)
    | _ => none
theorem dn_listC {e : Expr} {f : AF} {p pos : Pos} (hg : Gl X "list") (hm : X.mg "list" = none) (hv : bootBuiltins "list" = some (.type "list")) (ha : DAs X [e] f)
    (he : starEach [e] X.env = (false, eval e X.env) :: starEach [] X.env := by rfl) (hpl : (backTo pos (starEach [] X.env)).any (·.1) = false := by rfl) : DN X (.Call (.Name "list" p) [e] [] pos) (fListC f) := by
  refine pe_imp (pe_callTy call_list_of hg hm hv ha (by decide) (by decide) he hpl) ?_
  rintro σ H Q ⟨G, ρ, ρ', d, R, hf, k⟩
  unfold fListC at hf
  split at hf
  · cases hf
  · rename_i as ρ1 h1
    have fin : ∀ {vs : List V} {G1 H1 : Hp} {ys : List V} {q : Addr}, Rl X.w X.K G1 σ ρ1 H1 → Sx G σ ρ H G1 σ ρ1 H1 → DaA X.K G1 ys d → H1 q = none → ρ' = ρ1 → Q (.ref q) (upd H1 q (.lst ys)) := by
      intro vs G1 H1 ys q R1 s1 hA n e
      subst e
      have x := Xt.more (p := q) (o := .lst ys) R1.sub n
      exact k q ys G1 _ (R1.ext x) (s1.trans (.ext x)) upd_same (Same.free R1.sub n) (noOw R1 n) (backN s1 n) hA
    refine ⟨G, ρ, ρ1, as, R, h1, fun vs G1 H1 R1 s1 q1 => ?_⟩
    split at hf
    · rename_i ds h2
      cases hf
      obtain ⟨v, rfl, hv⟩ := pair1 (looks_bo R1 q1 h2)
      obtain ⟨p, ys, rfl, hp, hA⟩ := bo_list hv R1.sub
      exact ⟨p, ys, rfl, .inl (.inl (.inl hp)), fun q n => fin (vs := []) R1 s1 hA n rfl⟩
    · rename_i ds h2
      cases hf
      obtain ⟨v, rfl, hv⟩ := pair1 (looks_bo R1 q1 h2)
      obtain ⟨p, ys, rfl, hp, hA⟩ := bo_tup hv
      exact ⟨p, ys, rfl, .inr (hp.same R1.sub).sq, fun q n => fin (vs := []) R1 s1 hA n rfl⟩
    · cases hf
/-! ### is True -/
def isBD : Op2
  | .bool a, .bool b => some (.bool (decide (a = b)))
  | _, _ => none
def isNotBD : Op2
  | .bool a, .bool b => some (.bool (!decide (a = b)))
  | _, _ => none
theorem bl_beq (a b : Bool) : (Value.bool a == Value.bool b) = decide (a = b) := by cases a <;> cases b <;> rfl
theorem op_isBD : OpR X (compareOp .Is) (rOp X.w X.K isBD) := by
  intro pins s σ H x y v u Q I rx ry ⟨G, d, e, r, sub, hd, he, h, k⟩
  unfold isBD at h
  split at h
  · cases h
    cases bo_bool hd
    cases bo_bool he
    cases (show v = Value.bool _ from rx)
    cases (show u = Value.bool _ from ry)
    exact wpAny_is_plain rfl (fin_bl I (k _ G H (Xt.refl sub) (.bl _)) (bl_beq _ _).symm)
  · cases h
theorem op_isNotBD : OpR X (compareOp .IsNot) (rOp X.w X.K isNotBD) := by
  intro pins s σ H x y v u Q I rx ry ⟨G, d, e, r, sub, hd, he, h, k⟩
  unfold isNotBD at h
  split at h
  · cases h
    cases bo_bool hd
    cases bo_bool he
    cases (show v = Value.bool _ from rx)
    cases (show u = Value.bool _ from ry)
    exact wpAny_isNot_plain rfl (fin_bl I (k _ G H (Xt.refl sub) (.bl _)) (congrArg not (bl_beq _ _).symm))
  · cases h
end
end DL

set_option Elab.async false
set_option linter.all false
set_option maxRecDepth 100000
set_option maxHeartbeats 4000000
/-! repr of anything. -/
namespace DL
open PySem PySem.Spec PyProof.Rows L2 GX StX PySem.Calls
variable [DL.FT]
section
variable {X : Cx}
def reprXD : OpN
  | [.bool b] => some (.str (if b then "True" else "False"))
  | [.none] => some (.str "None")
  | [.int i] => if i.natAbs.log2 < 1920 then some (.str (toString i)) else none
  | [.str x] => if fits (reprText x).length = true then some (.str (reprText x)) else none
  | [.tuple ds] => reprTD [.tuple ds]
  | [.list ds] => reprN [.list ds]
  | _ => none
theorem cl_reprX (hG : Gd X.A) (hu : X.A.units + 64 < cLine) : CallR X (.builtin "repr") (rCl X.w X.K reprXD) := by
  intro pins s σ H xs us Q I rx h
  obtain ⟨G, ds, r, sub, hd, h, k⟩ := h
  unfold reprXD at h
  split at h
  · rename_i b
    cases h
    obtain ⟨v, rfl, hv⟩ := pair1 hd
    cases bo_bool hv
    obtain ⟨u, rfl, ru⟩ := vals1 rx
    cases (show u = Value.bool b from ru)
    exact PySem.P.repr_of_bool ⟨.str _, H, I.tok _, ⟨_, rfl⟩, k _ G H (Xt.refl sub) (.str _)⟩
  · cases h
    obtain ⟨v, rfl, hv⟩ := pair1 hd
    cases bo_non hv
    obtain ⟨u, rfl, ru⟩ := vals1 rx
    cases (show u = Value.none from ru)
    exact PySem.P.repr_of_none ⟨.str _, H, I.tok _, ⟨_, rfl⟩, k _ G H (Xt.refl sub) (.str _)⟩
  · rename_i i
    split at h
    · rename_i hz
      cases h
      obtain ⟨v, rfl, hv⟩ := pair1 hd
      cases bo_int hv
      obtain ⟨u, rfl, t, rfl⟩ := vals1 rx
      exact PySem.P.repr_of_int hz ⟨.str _, H, I.tok _, ⟨_, rfl⟩, k _ G H (Xt.refl sub) (.str _)⟩
    · cases h
  · rename_i x
    split at h
    · rename_i hz
      cases h
      obtain ⟨v, rfl, hv⟩ := pair1 hd
      cases bo_str hv
      obtain ⟨u, rfl, t, rfl⟩ := vals1 rx
      exact PySem.P.repr_of_str ⟨.str _, H, I.tok _, ⟨_, rfl⟩, k _ G H (Xt.refl sub) (.str _)⟩ (fits_le hz)
    · cases h
  · exact cl_reprT hG hu pins s σ H xs us Q I rx ⟨G, _, r, sub, hd, h, k⟩
  · exact cl_reprN hG hu pins s σ H xs us Q I rx ⟨G, _, r, sub, hd, h, k⟩
  · cases h
end
end DL

set_option Elab.async false
set_option linter.all false
set_option maxRecDepth 100000
set_option maxHeartbeats 4000000
/-! f(e), e a new list: f may change it. -/
namespace DL
open PySem PySem.Spec PyProof.Rows L2 GX StX PySem.Calls
variable [DL.FT]
def fCaN (F : FF) (f : LF) : EF := fun ρ => match f ρ with
  | none => none
  | some (ds, ρ1) => match F [.own true (.l ds)] with
    | none => none
    | some (d, _) => some (d, ρ1)
theorem ow1 {p a : Addr} {c : Cn} (h : Ow [some (.ref p)] [.own true c] a) : a ∈ reg p c := by
  obtain ⟨i, b, ds, r, e1, e2, e3⟩ := h
  match i, e1 with
  | 0, e1 => cases e1; cases e2; exact e3
  | i + 1, e1 => simp at e1
theorem rl1 {ww : World} {K : PySem.W.Frag} {G H : Hp} {p : Addr} {xs : List V} {ds : List PyData} (sub : Same G H) (t : TbG G H) (hp : H p = some (.lst xs)) (gp : G p = none) (hd : DaA K G xs ds) : Rl ww K G ([V.ref p].map some) [.own true (.l ds)] H := by
  refine ⟨rfl, sub, fun {i d} e => ?_, fun {i b c} e => ?_, fun {i j b c ds es p q a} e1 e2 _ _ _ _ => ?_, fun {i ns} e => ?_, t⟩
  · match i, e with
    | 0, e => cases e
    | i + 1, e => simp at e
  · match i, e with
    | 0, e =>
      cases e
      exact ⟨p, rfl, fun a ha => by simp only [reg, List.mem_singleton] at ha; rw [ha]; exact gp, xs, hp, hd⟩
    | i + 1, e => simp at e
  · match i, j, e1, e2 with
    | 0, 0, _, _ => rfl
    | 0, j + 1, _, e2 => simp at e2
    | i + 1, _, e1, _ => simp at e1
  · match i, e with
    | 0, e => cases e
    | i + 1, e => simp at e
section
variable {X : Cx} {k : Nat} {x : Str} {ps : List Str} {p pos : Pos} {e : Expr} {f : LF} {F : FF}
theorem de_callN (c : Cal X.prog X.w X.K X.mg X.base k x ps (spD X.w X.K 1 F)) (hG : Gd X.A) (hR : Room k X.A) (h : DN X e f) (hg : Gl X x := by rfl) (hdb : (x == ("__debug__" : Str)) = false := by decide)
    (he : starEach [e] X.env = (false, eval e X.env) :: starEach [] X.env := by rfl) (hpl : (backTo pos (starEach [] X.env)).any (·.1) = false := by rfl) : DE X (.Call (.Name x p) [e] [] pos) (fCaN F f) := by
  obtain ⟨fa, fd, Fk, hm, hk, hb⟩ := c
  refine pe_imp (pe_callG Fk hG hR hg hm hk hb (pa_cons h pa_nil he) hdb he hpl) ?_
  rintro σ H Q ⟨G, ρ, ρ', d, R, hf, kk⟩
  unfold fCaN at hf
  split at hf
  · cases hf
  · rename_i ds ρ1 h1
    split at hf
    · cases hf
    · rename_i d' sls' eF
      cases hf
      refine ⟨G, ρ, ρ', ds, R, h1, fun a xs G1 H1 R1 s1 hp gp no n q1 => ?_⟩
      refine ⟨rfl, G1, [.own true (.l ds)], sls', d, rl1 R1.sub R1.tb hp gp q1, eF, fun v G' H' R' s' hd => ?_⟩
      have ow : ∀ b, Ow [some (V.ref a)] [.own true (.l ds)] b → b = a := fun b hb => by
        have z := ow1 hb
        simpa [reg] using z
      have back : ∀ c, H1 c = none → H c = none ∨ Ow σ ρ c := fun c h => by
        cases e : H c with
        | none => exact .inl rfl
        | some o =>
          by_cases q : Ow σ ρ c
          · exact .inr q
          · exact (s1.al c (by rw [e]; simp) h).elim
      refine kk v G' H' ⟨R1.len, R'.sub, fun {i d} e => ?_, fun {i b c} e => ?_, R1.dis, fun {i ns} e => ?_, R'.tb⟩ ⟨s1.gr.trans s'.gr, fun b hb => ?_, fun b o e1 t e2 => ?_, s1.ow, fun b hb => s'.al b (s1.al b hb), s1.par⟩ hd
      · obtain ⟨v, e1, d1⟩ := R1.dat e
        exact ⟨v, e1, d1.same s'.gr⟩
      · obtain ⟨q, e1, g1, c1⟩ := R1.own e
        have na : ∀ b ∈ reg q c, b ≠ a := fun b hb z => no ⟨i, _, c, q, e, e1, z ▸ hb⟩
        refine ⟨q, e1, fun b hb => ?_, c1.step s'.gr fun b hb => ?_⟩
        · cases z : G' b with
          | none => rfl
          | some u =>
            rcases s'.new b (by rw [z]; simp) with y | y | y
            · exact (y (g1 b hb)).elim
            · exact (c1.ne hb y).elim
            · exact (na b hb (ow b y)).elim
        · cases z : H1 b with
          | none => exact (c1.ne hb z).elim
          | some o => exact s'.fr b o z (c1.noT hb z) fun y => na b hb (ow b y)
      · obtain ⟨q, e1, s2⟩ := R1.scr e
        refine ⟨q, e1, ?_⟩
        rcases s2 with ⟨o, s2⟩ | s2
        · exact .inl ⟨o, s'.fr _ _ s2 (fun _ z => nomatch z) fun y => by rw [ow q y, hp] at s2; cases s2⟩
        · exact .inr s2
      · rcases s'.new b hb with y | y | y
        · exact s1.new b y
        · exact .inr (back b y)
        · rw [ow b y]; exact .inr (.inl n)
      · refine s'.fr b o (s1.fr b o e1 t e2) t fun y => ?_
        rw [ow b y, n] at e1
        cases e1
end
end DL

set_option Elab.async false
set_option linter.all false
set_option maxRecDepth 100000
set_option maxHeartbeats 4000000
/-! Own dicts whose keys are ints and texts; xs.pop(i); xs[::-1]; list(range(..)); reversed(range(..)). -/
namespace DL
open PySem PySem.Spec PyProof.Rows L2 GX StX PySem.Calls
variable [DL.FT]
def keyP : PyData → Option Key
  | .int i => some (.inl i)
  | .str x => some (.inr x)
  | _ => none
theorem keyP_da {K : PySem.W.Frag} {G : Hp} {v : V} {d : PyData} {k : Key} (h : Da K G v d) (e : keyP d = some k) : v = kV k := by
  cases d with
  | int i => cases e; cases h; rfl
  | str x => cases e; cases h; rfl
  | none => cases e
  | bool _ => cases e
  | list _ => cases e
  | tuple _ => cases e
  | dict _ => cases e
def valD (kvs : List (Key × PyData)) (k : Key) : Option PyData := (kvs.find? fun kv => decide (kv.1 = k)).map (·.2)
def putD (kvs : List (Key × PyData)) (k : Key) (d : PyData) : List (Key × PyData) := if (kvs.any fun kv => decide (kv.1 = k)) = true then kvs.map fun kv => if kv.1 = k then (kv.1, d) else kv else kvs ++ [(k, d)]
section
variable {K : PySem.W.Frag} {G : Hp}
theorem DdK.val {xs : List (Key × V)} {kvs : List (Key × PyData)} (h : DdK K G xs kvs) (k : Key) : (∃ v d, valV xs k = some v ∧ valD kvs k = some d ∧ Da K G v d) ∨ (valV xs k = none ∧ valD kvs k = none) := by
  induction h with
  | nil => exact .inr ⟨rfl, rfl⟩
  | @cons x y xs ys h1 _ ih =>
    obtain ⟨e, hd⟩ := h1
    by_cases c : x.1 = k
    · have c' : y.1 = k := e ▸ c
      exact .inl ⟨x.2, y.2, by simp [valV, c], by simp [valD, c'], hd⟩
    · have c' : ¬ y.1 = k := e ▸ c
      rcases ih with ⟨v, d, h1, h2, h3⟩ | ⟨h1, h2⟩
      · exact .inl ⟨v, d, by rw [valV_neg c]; exact h1, by simp only [valD, List.find?_cons, c', decide_false] at h2 ⊢; exact h2, h3⟩
      · exact .inr ⟨by rw [valV_neg c]; exact h1, by simp only [valD, List.find?_cons, c', decide_false] at h2 ⊢; exact h2⟩
theorem DdK.any {xs : List (Key × V)} {kvs : List (Key × PyData)} (h : DdK K G xs kvs) (k : Key) : (xs.any fun kv => decide (kv.1 = k)) = kvs.any fun kv => decide (kv.1 = k) := by
  induction h with
  | nil => rfl
  | @cons x y xs ys h1 _ ih =>
    rw [List.any_cons, List.any_cons, ih, h1.1]
theorem DdK.len {xs : List (Key × V)} {kvs : List (Key × PyData)} (h : DdK K G xs kvs) : xs.length = kvs.length := prd_len h
theorem DdK.repl {xs : List (Key × V)} {kvs : List (Key × PyData)} (h : DdK K G xs kvs) (k : Key) {v : V} {d : PyData} (hd : Da K G v d) : DdK K G (xs.map fun kv => if kv.1 = k then (kv.1, v) else kv) (kvs.map fun kv => if kv.1 = k then (kv.1, d) else kv) := by
  induction h with
  | nil => exact .nil
  | @cons x y xs ys h1 _ ih =>
    rw [List.map_cons, List.map_cons]
    refine .cons ?_ ih
    by_cases c : x.1 = k
    · rw [if_pos c, if_pos (h1.1 ▸ c)]
      exact ⟨h1.1, hd⟩
    · rw [if_neg c, if_neg (h1.1 ▸ c)]
      exact h1
theorem DdK.app {xs ys : List (Key × V)} {kvs kws : List (Key × PyData)} (h : DdK K G xs kvs) (g : DdK K G ys kws) : DdK K G (xs ++ ys) (kvs ++ kws) := by
  induction h with
  | nil => exact g
  | cons h1 _ ih => exact .cons h1 ih
theorem DdK.put {xs : List (Key × V)} {kvs : List (Key × PyData)} (h : DdK K G xs kvs) (k : Key) {v : V} {d : PyData} (hd : Da K G v d) : DdK K G (putK xs k v) (putD kvs k d) := by
  unfold putK putD
  rw [h.any k]
  split
  · exact h.repl k hd
  · exact h.app (.cons ⟨rfl, hd⟩ .nil)
end
section
variable {X : Cx}
/-! ### y = {} -/
def fDicP (i : Nat) : SF := fun ρ => some (.nx (ρ.set i (.own false (.d []))))
theorem ds_dicP (i : Nat) {x : Str} {dpos pos pos' : Pos} (nd : X.N.Nodup) (hN : X.N[i]? = some x := by rfl) (hx : Loc X.env.scope x := by first | exact Or.inl rfl | exact Or.inr rfl)
    (hs : swapsWith (.Dict [] [] dpos) (some (.Name x pos')) pos.line X.env = pure false := by rfl) (hf : X.fn x = true ∨ X.env.scope.names.lookup x = some .local := by first | exact .inl rfl | exact .inr rfl) :
    DS X (.Assign [.Name x pos'] (.Dict [] [] dpos) pos) (fDicP i) := by
  refine ps_imp (ps_set nd hN hx pe_dnewK hs hf) ?_
  rintro D σ H ⟨G, ρ, o, R, hf, k⟩
  cases hf
  intro p n
  have x1 := Xt.more (p := p) (o := .dK []) R.sub n
  have R1 := R.ext x1
  have one : ∀ {A : Addr → Prop}, A p → ∀ a ∈ reg p (.d []), A a := fun {A} h a ha => by
    simp only [reg, List.mem_singleton] at ha
    rw [ha]; exact h
  exact k _ G _ (R1.holdC (ds := .d []) (one (Same.free R.sub n)) (one (noOw R n)) ⟨[], upd_same, .nil⟩) (Sx.holdC (ds := .d []) (Sx.ext x1) (one n))
/-! ### d[k] = v -/
theorem set_P (hu : X.A.units + 1 < cLine) : PSet X (fun o i v H Q => ∃ a H', o = .ref a ∧ DPut H a i v H' ∧ Q H') := by
  intro pins s σ H o i v ov iv u Q I ro ri rv h
  obtain ⟨a, H', rfl, g, q⟩ := h
  cases ro
  exact d_setItem hu I g ri rv fun s' I' => ⟨H', I', q⟩
def tSubP (j : Nat) (f : EF) : GT := fun d ρ => match f ρ with
  | some (e, ρ1) => match ρ[j]?, ρ1[j]?, keyP e with
    | some (.own _ (.d _)), some (.own b (.d kvs)), some k => if fits (kvs.length + 1) = true then some (ρ1.set j (.own b (.d (putD kvs k d)))) else none
    | _, _, _ => none
  | none => none
theorem dtg_subP (hu : X.A.units + 64 < cLine) (j : Nat) {x : Str} {i : Expr} {f : EF} {p pos : Pos} (hi : DE X i f) (hN : X.N[j]? = some x := by rfl) (hv : Vis X.env.scope x := by first | exact Or.inl rfl | exact Or.inr (Or.inl rfl) | exact Or.inr (Or.inr rfl)) (hd : (x == ("__debug__" : Str)) = false := by decide) (hcd : (x == ("__classdict__" : Str)) = false := by decide)
    (ha : ∀ v, assign (.Subscript (.Name x p) i pos) X.env v = (do
      let ov ← holding [v] (eval (.Name x p) X.env)
      let iv ← holding [v, ov] (eval i X.env)
      standAt pos
      holding [v, ov, iv] (setItem ov iv v)
      release [v, ov, iv] []) := by intro _; rfl) : DTg X (.Subscript (.Name x p) i pos) (tSubP j f) := by
  refine pg_imp (pg_sub (pe_var hN hv hd hcd) hi (set_P (by omega)) ha) ?_
  rintro v σ H Q ⟨G, ρ, ρ', d, R, hd, ht, k⟩
  unfold tSubP at ht
  split at ht
  · rename_i e ρ1 h1
    split at ht
    · rename_i c kvs0 b kvs key e0 e1 e2
      split at ht
      · rename_i hz
        cases ht
        obtain ⟨p, ep, _, _⟩ := R.own e0
        refine ⟨_, ep, ⟨G, ρ, ρ1, e, R, h1, fun w G1 H1 R1 s1 q1 => ?_⟩⟩
        obtain ⟨p', ep', gp, xs, hp, hx⟩ := R1.own e1
        rw [ep] at ep'
        cases ep'
        have ew := keyP_da q1 e2
        subst ew
        have hl : xs.length < sizeLine := by rw [hx.len]; exact fits_lt hz
        obtain ⟨R2, s2⟩ := R1.mutateC (es := .d (putD kvs key d)) (o' := .dK (putK xs key v)) e1 ep (fun _ => rfl) ⟨_, upd_same, hx.put key (hd.same s1.gr)⟩
        exact ⟨p, _, rfl, DPut.k hp hl, k _ _ _ R2 (s1.trans s2)⟩
      · cases ht
    · cases ht
  · cases ht
/-! ### d.get(k), d[k] -/
def fGetP (j : Nat) (f : EF) : EF := fun ρ => match f ρ with
  | some (e, ρ1) => match ρ[j]?, ρ1[j]?, keyP e with
    | some (.own _ (.d _)), some (.own _ (.d kvs)), some k => some ((valD kvs k).getD .none, ρ1)
    | _, _, _ => none
  | none => none
theorem de_getP (hu : X.A.units + 64 < cLine) (j : Nat) {x : Str} {e : Expr} {f : EF} {p apos cpos : Pos} (he : DE X e f) (hN : X.N[j]? = some x := by rfl) (hv : Vis X.env.scope x := by first | exact Or.inl rfl | exact Or.inr (Or.inl rfl) | exact Or.inr (Or.inr rfl)) (hd : (x == ("__debug__" : Str)) = false := by decide) (hcd : (x == ("__classdict__" : Str)) = false := by decide)
    (m : M1 X (.Name x p) "get" apos e cpos := by exact ⟨rfl, rfl, rfl, rfl⟩) : DE X (.Call (.Attribute (.Name x p) "get" apos) [e] [] cpos) (fGetP j f) := by
  refine pe_imp (pe_dget1 (by omega) (pe_var hN hv hd hcd) he m) ?_
  rintro σ H Q ⟨G, ρ, ρ', d, R, hf, k⟩
  unfold fGetP at hf
  split at hf
  · rename_i e ρ1 h1
    split at hf
    · rename_i c kvs0 b kvs key e0 e1 e2
      cases hf
      obtain ⟨p, ep, _, xs0, hp0, _⟩ := R.own e0
      refine ⟨_, ep, p, rfl, .inl ⟨xs0, .inl hp0⟩, ⟨G, ρ, _, e, R, h1, fun w G1 H1 R1 s1 q1 => ?_⟩⟩
      obtain ⟨p', ep', gp, xs, hp, hx⟩ := R1.own e1
      rw [ep] at ep'
      cases ep'
      have ew := keyP_da q1 e2
      subst ew
      refine ⟨valV xs key, DGet.k hp, ?_⟩
      rcases hx.val key with ⟨v, d, z1, z2, z3⟩ | ⟨z1, z2⟩
      · rw [z1]
        rw [z2] at k
        exact k v G1 H1 R1 s1 z3
      · rw [z1]
        rw [z2] at k
        exact k .non G1 H1 R1 s1 .non
    · cases hf
  · cases hf
def fIxP (j : Nat) (f : EF) : EF := fun ρ => match f ρ with
  | some (e, ρ1) => match ρ[j]?, ρ1[j]?, keyP e with
    | some (.own _ (.d _)), some (.own _ (.d kvs)), some k => (valD kvs k).map fun d => (d, ρ1)
    | _, _, _ => none
  | none => none
theorem de_ixP (hu : X.A.units + 64 < cLine) (j : Nat) {x : Str} {e : Expr} {f : EF} {p pos : Pos} (he : DE X e f) (hs : NoSl e := by exact fun _ _ => rfl) (hN : X.N[j]? = some x := by rfl) (hv : Vis X.env.scope x := by first | exact Or.inl rfl | exact Or.inr (Or.inl rfl) | exact Or.inr (Or.inr rfl)) (hd : (x == ("__debug__" : Str)) = false := by decide) (hcd : (x == ("__classdict__" : Str)) = false := by decide) :
    DE X (.Subscript (.Name x p) e pos) (fIxP j f) := by
  refine pe_imp (pe_dget (by omega) (pe_var hN hv hd hcd) he hs) ?_
  rintro σ H Q ⟨G, ρ, ρ', d, R, hf, k⟩
  unfold fIxP at hf
  split at hf
  · rename_i e ρ1 h1
    split at hf
    · rename_i c kvs0 b kvs key e0 e1 e2
      cases z : valD kvs key with
      | none => rw [z] at hf; cases hf
      | some d0 =>
        rw [z] at hf
        cases hf
        obtain ⟨p, ep, _, xs0, hp0, _⟩ := R.own e0
        refine ⟨_, ep, ⟨G, ρ, _, e, R, h1, fun w G1 H1 R1 s1 q1 => ?_⟩⟩
        obtain ⟨p', ep', gp, xs, hp, hx⟩ := R1.own e1
        rw [ep] at ep'
        cases ep'
        have ew := keyP_da q1 e2
        subst ew
        rcases hx.val key with ⟨v, d, z1, z2, z3⟩ | ⟨z1, z2⟩
        · rw [z2] at z
          cases z
          refine ⟨p, v, rfl, ?_, k v G1 H1 R1 s1 z3⟩
          rw [← z1]
          exact DGet.k hp
        · rw [z2] at z; cases z
    · cases hf
  · cases hf
/-! ### xs.pop(i) -/
def fPop (j : Nat) (f : EF) : EF := fun ρ => match f ρ with
  | some (.int i, ρ1) => match ρ[j]?, ρ1[j]? with
    | some (.own _ (.l _)), some (.own b (.l ds)) => if 0 ≤ i ∧ i.toNat < ds.length ∧ i < 1000000 then (ds[i.toNat]?).map fun d => (d, ρ1.set j (.own b (.l (ds.eraseIdx i.toNat)))) else none
    | _, _ => none
  | _ => none
theorem DaA.erase {K : PySem.W.Frag} {H : Hp} : ∀ {ds : List PyData} {vs : List V} (i : Nat), DaA K H vs ds → DaA K H (vs.eraseIdx i) (ds.eraseIdx i)
  | [], _, _, h => by cases h; exact .nil
  | _ :: _, _, 0, h => by cases h with | cons _ h2 => exact h2
  | _ :: _, _, i + 1, h => by cases h with | cons h1 h2 => exact .cons h1 (DaA.erase i h2)
theorem de_pop (j : Nat) {x : Str} {e : Expr} {f : EF} {p apos cpos : Pos} (he : DE X e f) (hN : X.N[j]? = some x := by rfl) (hv : Vis X.env.scope x := by first | exact Or.inl rfl | exact Or.inr (Or.inl rfl) | exact Or.inr (Or.inr rfl)) (hd : (x == ("__debug__" : Str)) = false := by decide) (hcd : (x == ("__classdict__" : Str)) = false := by decide)
    (hbase : attributeBase (.Name x p) "pop" X.env (eval (.Name x p) X.env) = eval (.Name x p) X.env := by rfl)
    (hfew : ((backTo cpos (starEach [e] X.env)).all (fun x => !x.1) && (backToKw cpos (keywordEach [] X.env)).all (fun x => x.1.isSome)
      && decide ([e].length + ([] : List Keyword).length + (if ([] : List Keyword).isEmpty then 0 else 1) < 30)) = true := by rfl)
    (hline : (apos.endLine == cpos.line) = true := by rfl) (hs : starEach [e] X.env = (false, eval e X.env) :: starEach [] X.env := by rfl) (hplain : (backTo cpos (starEach [] X.env)).any (·.1) = false := by rfl) :
    DE X (.Call (.Attribute (.Name x p) "pop" apos) [e] [] cpos) (fPop j f) := by
  refine pe_imp (pe_bm PySem.F.plainAttrs_list PySem.F.slot_list_pop PySem.F.type_list_pop mt_popAt (pe_var hN hv hd hcd) (pa_cons he pa_nil hs) hbase hfew hline hs hplain) ?_
  rintro σ H Q ⟨G, ρ, ρ', d, R, hf, k⟩
  unfold fPop at hf
  split at hf
  · rename_i i ρ1 h1
    split at hf
    · rename_i c ds0 b ds e0 e1
      split at hf
      · rename_i hz
        obtain ⟨z0, z1, z2⟩ := hz
        rw [List.getElem?_eq_getElem z1] at hf
        cases hf
        obtain ⟨q, xs0, ep, hp0, _⟩ := R.ownL e0
        refine ⟨_, ep, .inl ⟨rfl, _, SqL.of hp0⟩, ⟨G, ρ, ρ1, _, R, h1, fun v G1 H1 R1 s1 q1 => ?_⟩⟩
        obtain ⟨q', xs, ep', hp, gp, ha⟩ := R1.ownL e1
        rw [ep] at ep'
        cases ep'
        cases q1
        obtain ⟨y, hy, hyd⟩ := ha.get (List.getElem?_eq_getElem z1)
        have hlen := ha.len
        obtain ⟨R2, s2⟩ := R1.mutate (es := ds.eraseIdx i.toNat) e1 ep (ha.erase i.toNat)
        refine ⟨q, xs, i, i.toNat, y, rfl, rfl, hp, by omega, by omega, ?_, hy, k _ _ _ R2 (s1.trans s2) hyd⟩
        exact seqIndex_of z0 (by omega)
      · cases hf
    · cases hf
  · cases hf
/-! ### xs[::-1] -/
def fRevL (f : GF) : LF := fun ρ => match f ρ with
  | some (a, ρ1) => match look ρ1 a with
    | some (.list ds) => some (ds.reverse, ρ1)
    | _ => none
  | none => none
theorem dn_revL {e : Expr} {f : GF} {k : Nat} {p1 p2 p3 pos : Pos} (he : DG X e f) : DN X (.Subscript e (.Slice none none (some (.UnaryOp .USub (.Constant (.int 1) k p1) p2)) p3) pos) (fRevL f) := by
  refine pe_imp (pe_revL he) ?_
  rintro σ H Q ⟨G, ρ, ρ', d, R, hf, kk⟩
  unfold fRevL at hf
  split at hf
  · rename_i a ρ1 h1
    split at hf
    · rename_i ds h2
      cases hf
      refine ⟨G, ρ, _, a, R, h1, fun v G1 H1 R1 s1 q1 => ?_⟩
      obtain ⟨q, xs, rfl, hp, ha⟩ := bo_list (look_bo R1 q1 h2) R1.sub
      refine ⟨q, xs, rfl, SqL.of hp, fun p n => ?_⟩
      have x := Xt.more (p := p) (o := .lst xs.reverse) R1.sub n
      exact kk p _ G1 _ (R1.ext x) (s1.trans (.ext x)) upd_same (Same.free R1.sub n) (noOw R1 n) (backN s1 n) ha.rev
    · cases hf
  · cases hf
/-! ### list(range(n)) -/
def fLstRg (f : EF) : LF := fun ρ => match f ρ with
  | some (.int n, ρ') => if 0 ≤ n ∧ n ≤ 100000 then some (rangeD 0 n.toNat, ρ') else none
  | _ => none
theorem dn_lstRg {e : Expr} {f : EF} {p p2 pos pos2 : Pos} (hc : X.calm = true) (hg : Gl X "list") (hm : X.mg "list" = none) (hg2 : Gl X "range") (hm2 : X.mg "range" = none) (he : DE X e f)
    (na : starEach [e] X.env = (false, eval e X.env) :: starEach [] X.env := by rfl) (na2 : starEach [.Call (.Name "range" p2) [e] [] pos2] X.env = (false, eval (.Call (.Name "range" p2) [e] [] pos2) X.env) :: starEach [] X.env := by rfl) :
    DN X (.Call (.Name "list" p) [.Call (.Name "range" p2) [e] [] pos2] [] pos) (fLstRg f) := by
  refine pe_imp (pe_listRg hc hg hm (prg_1 hg2 hm2 he na) na2) ?_
  rintro σ H Q ⟨G, ρ, ρ', d, R, hf, k⟩
  unfold fLstRg at hf
  split at hf
  · rename_i n ρ1 h1
    split at hf
    · rename_i hz
      cases hf
      refine ⟨G, ρ, _, _, R, h1, fun v G1 H1 R1 s1 q1 => ?_⟩
      cases q1
      refine ⟨n, rfl, RgOk.of_le (by omega) (by omega) (by omega) (by omega), fun p nn => ?_⟩
      have x := Xt.more (p := p) (o := .lst (rgV 0 n)) R1.sub nn
      refine k p _ G1 _ (R1.ext x) (s1.trans (.ext x)) upd_same (Same.free R1.sub nn) (noOw R1 nn) (backN s1 nn) ?_
      unfold rgV rangeD
      rw [Int.sub_zero]
      have z : (List.range n.toNat).map (fun i => V.int (0 + ((i : Nat) : Int))) = ((List.range n.toNat).map fun i => (0 + ((i : Nat) : Int))).map V.int := by rw [List.map_map]; rfl
      have z2 : (List.range n.toNat).map (fun i => PyData.int (0 + ((i : Nat) : Int))) = ((List.range n.toNat).map fun i => (0 + ((i : Nat) : Int))).map PyData.int := by rw [List.map_map]; rfl
      rw [z, z2]
      exact .ofInts _
    · cases hf
  · cases hf
/-! ### reversed(range(n)) -/
def revD (n : Nat) : List PyData := (List.range n).map fun i => .int ((n : Int) - 1 - ((i : Nat) : Int))
theorem jd_rev {K : PySem.W.Frag} {G : Hp} (n : Nat) : JD K G (Itc ((n : Int) - 1) (-1) n) (revD n) := by
  refine ⟨fun i H _ hi => ?_, fun i H _ hi => ?_, fun i G1 H x H' d _ _ hy hd => ?_⟩
  · have z : i < n := by simpa [revD] using hi
    exact z
  · have z : n ≤ i := by simpa [revD] using hi
    exact z
  · obtain ⟨e, rfl⟩ := hy
    unfold revD at hd
    rw [List.getElem?_map] at hd
    cases q : (List.range n)[i]? with
    | none => rw [q] at hd; cases hd
    | some j =>
      rw [q] at hd
      cases hd
      obtain ⟨hl, z⟩ := List.getElem?_eq_some_iff.mp q
      rw [List.getElem_range] at z
      subst z
      refine ⟨e, ?_⟩
      have w : (n : Int) - 1 + ((i : Nat) : Int) * (-1) = (n : Int) - 1 - ((i : Nat) : Int) := by omega
      rw [w]
      exact .int _
def iRev (f : EF) : LF := fun ρ => match f ρ with
  | some (.int j, ρ') => if 0 ≤ j ∧ j ≤ 1000000 then some (revD j.toNat, ρ') else none
  | _ => none
theorem di_rev {tg e : Expr} {f : EF} {p p2 pos pos2 : Pos} (hg : Gl X "reversed") (hm : X.mg "reversed" = none) (hg2 : Gl X "range") (hm2 : X.mg "range" = none) (he : DE X e f)
    (na : starEach [e] X.env = (false, eval e X.env) :: starEach [] X.env := by rfl) (na2 : starEach [.Call (.Name "range" p2) [e] [] pos2] X.env = (false, eval (.Call (.Name "range" p2) [e] [] pos2) X.env) :: starEach [] X.env := by rfl) :
    DI X tg (.Call (.Name "reversed" p) [.Call (.Name "range" p2) [e] [] pos2] [] pos) (iRev f) := by
  refine pi_imp (pi_revR hg hm (prg_1 hg2 hm2 he na) na2) ?_
  rintro σ H Q ⟨G, ρ, ρ', d, R, hf, k⟩
  unfold iRev at hf
  split at hf
  · rename_i n ρ1 h1
    split at hf
    · rename_i hz
      cases hf
      refine ⟨G, ρ, _, _, R, h1, fun v G1 H1 R1 s1 q1 => ?_⟩
      cases q1
      obtain ⟨z0, z1⟩ := hz
      refine ⟨n, rfl, by omega, by omega, by omega, by omega, k _ _ _ R1 s1 ?_⟩
      have e1 : (0 : Int) + (((n - 0).toNat : Nat) : Int) - 1 = ((n.toNat : Nat) : Int) - 1 := by omega
      have e2 : (n - 0).toNat = n.toNat := by omega
      rw [e2] at e1
      rw [e2, e1]
      exact jd_rev n.toNat
    · cases hf
  · cases hf
end
end DL

set_option Elab.async false
set_option linter.all false
set_option maxRecDepth 100000
set_option maxHeartbeats 4000000
/-! enumerate of a list; {} as a datum. -/
namespace DL
open PySem PySem.Spec PyProof.Rows L2 GX StX PySem.Calls
variable [DL.FT]
section
variable {X : Cx}
def iEnumL (f : EF) : LF := fun ρ => match f ρ with
  | some (.list ds, ρ') => some (pairsD ds, ρ')
  | _ => none
theorem dip_enumL {e : Expr} {f : EF} {p pos tpos : Pos} {elts : List Expr} {kk : Nat} (hg : Gl X "enumerate") (hm : X.mg "enumerate" = none) (ha : DE X e f) (hs : starEach [e] X.env = [(false, eval e X.env)] := by rfl) :
    DIP X (.Tuple elts kk tpos) (.Call (.Name "enumerate" p) [e] [] pos) (iEnumL f) := by
  refine pi_imp (pi_enum hg hm (pa_cons ha pa_nil hs) hs) ?_
  rintro σ H R ⟨G, ρ, ρ', ds, Rr, hf, k⟩
  unfold iEnumL at hf
  split at hf
  · rename_i es ρ1 e1
    cases hf
    refine ⟨G, ρ, _, _, Rr, e1, fun v G1 H1 R1 s1 q1 => ?_⟩
    cases q1 with
    | @lst _ a xs _ hs ha =>
      have hl : (pairsD es).length = es.length := by simp [pairsD]
      have sq : ∀ {H2 : Hp}, Same G1 H2 → SqL X.K H2 a xs := fun sm => SqL.of (sm _ _ hs)
      refine ⟨a, xs, rfl, sq R1.sub, k _ _ _ R1 s1 ⟨fun i H2 sm hi => ?_, fun i H2 sm hi => ?_, fun i G2 H2 x H3 d sm sm2 hy hd => ?_⟩⟩
      · rw [hl] at hi
        obtain ⟨v, ev, _⟩ := ha.get (List.getElem?_eq_getElem hi)
        exact ⟨xs, v, sq sm, ev⟩
      · rw [hl] at hi
        exact ⟨xs, sq sm, by rw [ha.len]; exact hi⟩
      · obtain ⟨T, x', rfl, nT, rfl, hy⟩ := hy
        unfold pairsD at hd
        rw [List.getElem?_mapIdx] at hd
        cases q : es[i]? with
        | none => rw [q] at hd; cases hd
        | some d0 =>
          rw [q] at hd
          cases hd
          obtain ⟨v, ev, hv⟩ := ha.get q
          have z := hy xs (sq (sm.trans sm2))
          rw [ev] at z
          cases z
          exact ⟨T, _, _, rfl, nT, rfl, rfl, .cons (.int _) (.cons (hv.same sm) .nil)⟩
  · cases hf
/-- {} -/
theorem de_dic0 {pos : Pos} : DE X (.Dict [] [] pos) (fC (.dict [])) := by
  refine pe_imp pe_dnewK ?_
  rintro σ H Q ⟨G, ρ, ρ', d, R, hf, k⟩
  cases hf
  intro p n
  have x := Xt.new (p := p) (o := .dK []) R.sub n
  exact k _ _ _ (R.ext x) (Sx.ext x) (.dic upd_same)
end
end DL

set_option Elab.async false
set_option linter.all false
set_option maxRecDepth 100000
set_option maxHeartbeats 4000000
/-! xs + ys, a new list. -/
namespace DL
open PySem PySem.Spec PyProof.Rows L2 GX StX
variable [DL.FT]
variable {X : Cx}
def fCatL (f g : EF) : LF := fun ρ => match f ρ with
  | some (.list ds, ρ1) => match g ρ1 with
    | some (.list es, ρ2) => if fits (ds.length + es.length) = true then some (ds ++ es, ρ2) else none
    | _ => none
  | _ => none
theorem dn_cat {a b : Expr} {f g : EF} {pos : Pos} (ha : DE X a f) (hb : DE X b g) : DN X (.BinOp a .Add b pos) (fCatL f g) := by
  refine pe_imp (pe_op op_cat ha hb) ?_
  rintro σ H Q ⟨G, ρ, ρ', d, R, hf, k⟩
  unfold fCatL at hf
  split at hf
  · rename_i ds ρ1 e1
    split at hf
    · rename_i es ρ2 e2
      split at hf
      · rename_i hz
        cases hf
        refine ⟨G, ρ, ρ1, _, R, e1, fun v1 G1 H1 R1 s1 q1 => ⟨G1, ρ1, _, _, R1, e2, fun v2 G2 H2 R2 s2 q2 => ?_⟩⟩
        have q3 := q1.same s2.gr
        cases q3 with
        | @lst _ p xs _ hp ha =>
          cases q2 with
          | @lst _ q ys _ hq hb =>
            refine ⟨p, q, xs, ys, rfl, rfl, R2.sub _ _ hp, R2.sub _ _ hq, by rw [ha.len, hb.len]; exact fits_le hz, fun t nt => ?_⟩
            have xm := Xt.more (p := t) (o := .lst (xs ++ ys)) R2.sub nt
            have s3 := (s1.trans s2).trans (.ext xm)
            exact k t _ G2 _ (R2.ext xm) s3 upd_same (Same.free R2.sub nt) (noOw R2 nt) (backN (s1.trans s2) nt) (ha.app hb)
      · cases hf
    · cases hf
  · cases hf
end DL

set_option Elab.async false
set_option linter.all false
set_option maxRecDepth 100000
set_option maxHeartbeats 4000000
/-! The end: the law's call with the script. -/
namespace DL
open PySem PySem.Spec PyProof.Rows L2 GX
variable [DL.FT]
section
variable {P : Program} {w : World} {K : PySem.W.Frag} {mg mb : Str → Option Value} {k : Nat} {fL a : Addr} {fd : FuncData} {x : Str} {pr : Sp} {s₁ : Shared} {vs : List Value} {ns : List Int}
theorem core_callS {H : Hp} (KX : K.In s₁.heap) (atG : s₁.heap.Ns mainGlobals mg) (atB : s₁.heap.Ns builtinsNs mb) (isB : ∀ x : Str, x ≠ "__name__" → mb x = bootBuiltins x) (hlim : s₁.heap.NoLimit) (hg : s₁.gens = #[])
    (ha : s₁.heap.get? a = some { cls := .type "list", data := .seq vs.toArray }) (hr : Room k callerA) (F : ∀ base : Heap, K.In base → base.Ns mainGlobals mg → FnG P w K mg base k fL fd [x] pr) (hbind : ∀ (s : Shared) (u : Value), BindsTo s fd ⟨[u], []⟩ [(x, u)])
    (only : Only H) (hok : HOk P w H s₁.heap) (hA : ∀ b, H b ≠ none → b = a) (hK : H a ≠ none → K.lookup a = none) (hq : pr [.ref a] H (fun v _ => v = .bl true) E0) :
    codeAny (model P w) callerA (.call (.ref fL) ⟨[.ref a], []⟩) (fun r sE => r = .ok (.ret (.bool true)) ∧ OldK s₁.heap sE.heap ∧ sE.os = s₁.os ∧ AllBare sE.gens) s₁ := by
  have atA : ∀ {b : Addr} {u : HO}, H b = some u → b = a := by
    intro b u e
    exact hA b (by rw [e]; simp)
  have noDict : ∀ {b : Addr} {o : Obj} {es : Array DictEntry} {ep : Nat}, s₁.heap.get? b = some o → o.data = .dict es ep → H b = none := by
    intro b o es ep e d
    cases q : H b with
    | none => rfl
    | some u =>
      have e2 := atA q
      rw [e2, ha] at e
      have e3 := Option.some.inj e
      rw [← e3] at d
      cases d
  have ns2 : ∀ {b : Addr} {m : Str → Option Value}, s₁.heap.Ns b m → (hidT s₁.heap H).Ns b m := by
    rintro b m ⟨o, es, ep, e, d, r⟩
    exact ⟨o, es, ep, hidT_get e (noDict e d), d, r⟩
  have kin : K.In (hidT s₁.heap H) := by
    intro b o e
    refine hidT_get (KX b o e) ?_
    cases q : H b with
    | none => rfl
    | some u =>
      have e2 := atA q
      rw [e2] at q e
      rw [hK (by rw [q]; simp)] at e
      cases e
  have hM : Mod K mg (hidT s₁.heap H) := by
    refine ⟨kin, ns2 atG, ⟨mb, ns2 atB, isB⟩, ?_⟩
    obtain ⟨mc, h1, h2⟩ := hlim
    exact ⟨mc, ns2 h1, h2⟩
  have e0 : Env0 P w K mg (hidT s₁.heap H) callerA [] s₁ H := ⟨rfl, hM, fun b o e => of_hidT e, Nat.le_of_eq (hidT_size _ _), trivial, (fun b z => absurd (show b ∈ ([] : List Addr) from z) (by simp)), hok, .of_eq hg⟩
  refine codeAny_mono ((F _ kin (ns2 atG)).go callerA [] s₁ H ⟨[.ref a], []⟩ [.ref a] [.ref a] _ _ rfl hr e0 (hbind s₁ (.ref a)) (.cons rfl .nil) hq) ?_
  intro r sE z
  cases r with
  | error e => exact False.elim z
  | ok fl =>
    cases fl with
    | next => exact z.elim
    | brk => exact z.elim
    | cont => exact z.elim
    | ret u =>
      obtain ⟨v, H', os, bare, un, hok', ru, q⟩ := z
      have ev : v = .bl true := q
      rw [ev] at ru
      obtain rfl : u = Value.bool true := ru
      refine ⟨rfl, OldK.of_keep ?_, os, bare⟩
      intro b o e
      cases q : H b with
      | none => exact un.keep b o e q (fun y => absurd (show b ∈ ([] : List Addr) from y) (by simp)) (by simp)
      | some u =>
        rcases only b with y | ⟨ob, xs, y⟩
        · rw [q] at y; cases y
        · obtain ⟨e1, _⟩ := hok b _ y
          obtain ⟨e2, _⟩ := hok' b _ (un.frzs b ob _ y)
          rw [e] at e1
          rw [Option.some.inj e1]
          exact e2
theorem law_goS (KX : K.In s₁.heap) (atG : s₁.heap.Ns mainGlobals mg) (atB : s₁.heap.Ns builtinsNs mb) (isB : ∀ x : Str, x ≠ "__name__" → mb x = bootBuiltins x) (hlim : s₁.heap.NoLimit) (hg : s₁.gens = #[])
    (ha : s₁.heap.get? a = some { cls := .type "list", data := .seq vs.toArray }) (hi : IntsAre vs ns) (hl : ns.length ≤ sizeLine) (hr : Room k callerA) (F : ∀ base : Heap, K.In base → base.Ns mainGlobals mg → FnG P w K mg base k fL fd [x] pr) (hbind : ∀ (s : Shared) (u : Value), BindsTo s fd ⟨[u], []⟩ [(x, u)])
    (hsp : ∀ H : Hp, ScrL K H a ns → pr [.ref a] H (fun v _ => v = .bl true) E0) :
    codeAny (model P w) callerA (.call (.ref fL) ⟨[.ref a], []⟩) (fun r sE => r = .ok (.ret (.bool true)) ∧ OldK s₁.heap sE.heap ∧ sE.os = s₁.os ∧ AllBare sE.gens) s₁ := by
  have rv := vals_ints hi
  have len0 := hi.length
  cases hk : K.lookup a with
  | some o =>
    have e := KX a o hk
    rw [ha] at e
    have e2 := Option.some.inj e
    subst e2
    have hS : ScrL K (fun _ => none) a ns := .inr ⟨_, vs.toArray, _, hk, rfl, rfl, rfl, by rw [List.size_toArray, len0]; exact hl, by simpa using rv⟩
    exact core_callS (H := fun _ => none) KX atG atB isB hlim hg ha hr F hbind (fun _ => .inl rfl) (fun _ _ z => nomatch z) (fun _ z => (z rfl).elim) (fun z => (z rfl).elim) (hsp _ hS)
  | none =>
    have at1 : (fun b : Addr => if b = a then some (HO.frz { cls := .type "list", data := .seq vs.toArray } (.lst (ns.map V.int))) else none) a = some (HO.frz { cls := .type "list", data := .seq vs.toArray } (.lst (ns.map V.int))) := if_pos rfl
    have off : ∀ {b : Addr}, b ≠ a → (fun b : Addr => if b = a then some (HO.frz { cls := .type "list", data := .seq vs.toArray } (.lst (ns.map V.int))) else none) b = none := fun h => if_neg h
    refine core_callS (H := fun b => if b = a then some (.frz { cls := .type "list", data := .seq vs.toArray } (.lst (ns.map V.int))) else none) KX atG atB isB hlim hg ha hr F hbind ?_ ?_ ?_ (fun _ => hk) (hsp _ (.inl ⟨_, at1⟩))
    · intro b
      by_cases h : b = a
      · exact .inr ⟨_, _, by rw [h]; exact at1⟩
      · exact .inl (off h)
    · intro b u z
      by_cases h : b = a
      · subst h
        have z2 := at1.symm.trans z
        have z3 := Option.some.inj z2
        subst z3
        exact ⟨ha, by rw [List.length_map]; exact hl, vs, _, rv, ha⟩
      · have z2 := (off h).symm.trans z
        cases z2
    · intro b z
      by_cases h : b = a
      · exact h
      · exact (z (off h)).elim
end
/-- the walk's end -/
theorem walk_S {l : PySem.W.OpenLaw} {n k : Nat} {q : Program} {loose : List Str} {XP : (Str → Option Value) → Heap → Prop} {YP : World → Heap → Prop} {d : DefRec} {x : Str}
    (hn : l.most = some n) (small : n ≤ sizeLine) (noDef : d.params.defaults = []) (hr : Room k callerA)
    (F : ∀ (w : World) (mg : Str → Option Value) (fL : Addr) (h : Heap), YP w h → h.Ns mainGlobals mg → mg d.name = some (.ref fL) →
      ∃ (K : PySem.W.Frag) (fd : FuncData) (pr : Sp), K.In h ∧ (∀ (s : Shared) (u : Value), BindsTo s fd ⟨[u], []⟩ [(x, u)]) ∧
        (∀ (H : Hp) (a : Addr) (ns : List Int), ns.length ≤ n → ScrL K H a ns → pr [.ref a] H (fun v _ => v = .bl true) E0) ∧
        ∀ base : Heap, K.In base → base.Ns mainGlobals mg → FnG l.prog w K mg base k fL fd [x] pr) :
    PySem.W.WalkO q loose XP YP l.row.toRowW d []
      (fun f vs => PySem.call f vs) := by
  refine Att.attach_call hn noDef ?_
  intro w s₀ s₁ mg mb fL o pm cd doc a vs ns G Y ho hd hcd hmg hobj hints len0 hg
  obtain ⟨K, fd, pr, KX, atB, hsp, hF⟩ := F w mg fL _ Y G.T.g hmg
  exact law_goS KX G.T.g G.T.b G.T.builtins G.T.nolimit hg hobj hints (Nat.le_trans len0 small) hr hF atB fun H hS => hsp H a ns len0 hS

/-- no tables at all -/
theorem tb0 {G H : Hp} (h : FT.tabs = []) : TbG G H := fun p hp => by
  rw [h] at hp; cases hp
theorem sp_scr {ww : World} {K : PySem.W.Frag} {F : FF} {ns : List Int} {H : Hp} {a : Addr} {sls : List Sl} (h : F [.scr ns] = some (.bool true, sls)) (hS : ScrL K H a ns) (t : TbG (fun _ => none) H) : spD ww K 1 F [.ref a] H (fun v _ => v = .bl true) E0 := by
  refine ⟨rfl, fun _ => none, [.scr ns], sls, .bool true, ⟨rfl, fun _ _ e => (nomatch e), ?_, ?_, ?_, ?_, t⟩, h, fun v G' H' _ _ hd => ?_⟩
  · intro i d e
    match i, e with
    | 0, e => cases e
    | i + 1, e => cases e
  · intro i b ds e
    match i, e with
    | 0, e => cases e
    | i + 1, e => cases e
  · intro i j b c ds es p q a0 e
    match i, e with
    | 0, e => cases e
    | i + 1, e => cases e
  · intro i ms e
    match i, e with
    | 0, e =>
      cases e
      exact ⟨a, rfl, hS⟩
    | i + 1, e => cases e
  · cases hd
    rfl
end DL

set_option Elab.async false
set_option linter.all false
set_option maxRecDepth 100000
set_option maxHeartbeats 4000000
/-! The end of a law that makes functions: its tables are empty when it is called, and tracked. -/
namespace DL
open PySem PySem.Spec PyProof.Rows L2 GX
variable [DL.FT]
section
variable {P : Program} {w : World} {K : PySem.W.Frag} {mg mb : Str → Option Value} {k : Nat} {fL a : Addr} {fd : FuncData} {x : Str} {pr : Sp} {s₁ : Shared} {vs : List Value} {ns : List Int} {cs : List (Addr × Addr)} {H : Hp}
/-- what may be tracked when the law is called: the script's list and the tables -/
structure Start (K : PySem.W.Frag) (h : Heap) (H : Hp) (a : Addr) (vs : List Value) (cs : List (Addr × Addr)) : Prop where
  ha : h.get? a = some { cls := .type "list", data := .seq vs.toArray }
  tab : ∀ p ∈ cs, h.get? p.2 = some { cls := .none, data := .fields #[] } ∧ H p.2 = some (.tbl #[]) ∧ K.lookup p.2 = none ∧ PySem.W.CodeHd h p.1 p.2
  at_ : ∀ b, H b ≠ none → b = a ∨ ∃ p ∈ cs, b = p.2
  lst : H a ≠ none → K.lookup a = none ∧ ∃ o xs, H a = some (.frz o (.lst xs))
theorem Start.off {h : Heap} (S : Start K h H a vs cs) {b : Addr} {o : Obj} (e : h.get? b = some o) (n1 : ∀ us m, o.data ≠ .seq us m) (n2 : o.data ≠ .fields #[]) : H b = none := by
  by_cases q : H b = none
  · exact q
  · exfalso
    rcases S.at_ b q with z | ⟨p, hp, z⟩
    · subst z
      rw [S.ha] at e
      cases e
      exact n1 _ _ rfl
    · subst z
      rw [(S.tab p hp).1] at e
      cases e
      exact n2 rfl
theorem Start.nsp {h : Heap} (S : Start K h H a vs cs) {b : Addr} {m : Str → Option Value} (n : h.Ns b m) : (hidT h H).Ns b m := by
  obtain ⟨o, es, ep, e, d, r⟩ := n
  exact ⟨o, es, ep, hidT_get e (S.off e (by rw [d]; exact fun _ _ z => nomatch z) (by rw [d]; exact fun z => nomatch z)), d, r⟩
theorem Start.kin {h : Heap} (S : Start K h H a vs cs) (KX : K.In h) : K.In (hidT h H) := fun b o e => by
  refine hidT_get (KX b o e) ?_
  by_cases q : H b = none
  · exact q
  · exfalso
    rcases S.at_ b q with z | ⟨p, hp, z⟩
    · subst z
      rw [(S.lst q).1] at e; cases e
    · subst z
      rw [(S.tab p hp).2.2.1] at e; cases e
theorem Start.tb {h : Heap} (S : Start K h H a vs cs) (hns : h.Ns mainGlobals mg) (hbm : ∃ (bm : Addr) (ob : Obj), mg "__builtins__" = some (.ref bm) ∧ bm ≠ builtinsNs ∧ h.get? bm = some ob ∧ ob.cls = .type "module" ∧ ob.dict = some builtinsNs ∧ ob.data = .plain) (p : Addr × Addr) (hp : p ∈ cs) : LamX.TabB (hidT h H) mg p.1 p.2 := by
  obtain ⟨t1, _, _, o, us, file, tf, flags, tg, inF, text, tt, e1, r1, r2, r3, r⟩ := S.tab p hp
  obtain ⟨bm, ob, b1, b2, b3, b4, b5, b6⟩ := hbm
  obtain ⟨og, es, ep, eg, dg, _⟩ := hns
  have nz : us ≠ #[] := fun z => by rw [z] at r3; simp at r3
  have gP : mainGlobals ≠ p.2 := fun z => by
    rw [z, t1] at eg
    cases eg
    cases dg
  have ne1 : bm ≠ mainGlobals := fun z => by
    rw [z, eg] at b3
    cases b3
    rw [dg] at b6; cases b6
  have ne2 : bm ≠ p.2 := fun z => by
    rw [z, t1] at b3
    cases b3
    cases b6
  refine ⟨⟨o, us, file, tf, flags, tg, inF, text, tt, hidT_get e1 (S.off e1 (by rw [r2]; exact fun _ _ z => nomatch z) (by rw [r2]; exact fun z => nz (by cases z; rfl))), r1, r2, r3, r⟩, ⟨bm, ob, b1, b2, ne1, ne2, hidT_get b3 (S.off b3 (by rw [b6]; exact fun _ _ z => nomatch z) (by rw [b6]; exact fun z => nomatch z)), b4, b5, b6⟩, gP⟩
theorem core_callT (S : Start K s₁.heap H a vs cs) (KX : K.In s₁.heap) (atG : s₁.heap.Ns mainGlobals mg) (atB : s₁.heap.Ns builtinsNs mb) (isB : ∀ x : Str, x ≠ "__name__" → mb x = bootBuiltins x) (hlim : s₁.heap.NoLimit) (hg : s₁.gens = #[])
    (hbm : ∃ (bm : Addr) (ob : Obj), mg "__builtins__" = some (.ref bm) ∧ bm ≠ builtinsNs ∧ s₁.heap.get? bm = some ob ∧ ob.cls = .type "module" ∧ ob.dict = some builtinsNs ∧ ob.data = .plain)
    (hr : Room k callerA) (F : ∀ base : Heap, K.In base → base.Ns mainGlobals mg → (∀ p ∈ cs, LamX.TabB base mg p.1 p.2) → FnG P w K mg base k fL fd [x] pr) (hbind : ∀ (s : Shared) (u : Value), BindsTo s fd ⟨[u], []⟩ [(x, u)])
    (hok : HOk P w H s₁.heap) (hq : pr [.ref a] H (fun v _ => v = .bl true) E0) :
    codeAny (model P w) callerA (.call (.ref fL) ⟨[.ref a], []⟩) (fun r sE => r = .ok (.ret (.bool true)) ∧ OldK s₁.heap sE.heap ∧ sE.os = s₁.os ∧ AllBare sE.gens) s₁ := by
  have kin := S.kin KX
  have hM : Mod K mg (hidT s₁.heap H) := ⟨kin, S.nsp atG, ⟨mb, S.nsp atB, isB⟩, let ⟨mc, h1, h2⟩ := hlim; ⟨mc, S.nsp h1, h2⟩⟩
  have e0 : Env0 P w K mg (hidT s₁.heap H) callerA [] s₁ H := ⟨rfl, hM, fun b o e => of_hidT e, Nat.le_of_eq (hidT_size _ _), trivial, (fun b z => absurd (show b ∈ ([] : List Addr) from z) (by simp)), hok, .of_eq hg⟩
  refine codeAny_mono ((F _ kin (S.nsp atG) (S.tb atG hbm)).go callerA [] s₁ H ⟨[.ref a], []⟩ [.ref a] [.ref a] _ _ rfl hr e0 (hbind s₁ (.ref a)) (.cons rfl .nil) hq) ?_
  intro r sE z
  cases r with
  | error e => exact False.elim z
  | ok fl =>
    cases fl with
    | next => exact z.elim
    | brk => exact z.elim
    | cont => exact z.elim
    | ret u =>
      obtain ⟨v, H', os, bare, un, hok', ru, q⟩ := z
      have ev : v = .bl true := q
      rw [ev] at ru
      obtain rfl : u = Value.bool true := ru
      have same : ∀ b o, (∀ p ∈ cs, b ≠ p.2) → s₁.heap.get? b = some o → sE.heap.get? b = some o := fun b o nb e => by
        by_cases n : H b = none
        · exact un.keep b o e n (fun y => absurd (show b ∈ ([] : List Addr) from y) (by simp)) (by simp)
        · rcases S.at_ b n with y | ⟨p, hp, y⟩
          · subst y
            obtain ⟨_, ob, xs, y⟩ := S.lst n
            obtain ⟨e1, _⟩ := hok b _ y
            obtain ⟨e2, _⟩ := hok' b _ (un.frzs b ob _ y)
            rw [e] at e1
            rw [Option.some.inj e1]
            exact e2
          · exact (nb p hp y).elim
      have more : ∀ p ∈ cs, ∃ us : Array Value, sE.heap.get? p.2 = some { cls := .none, data := .fields us } := fun p hp => by
        obtain ⟨us, y⟩ := un.tbls p.2 #[] (S.tab p hp).2.1
        exact ⟨_, hok' p.2 _ y⟩
      refine ⟨rfl, ⟨fun b o e => ?_, fun b o e => ?_⟩, os, bare⟩
      · by_cases hb : ∃ p ∈ cs, b = p.2
        · obtain ⟨p, hp, rfl⟩ := hb
          obtain ⟨us, hm⟩ := more p hp
          have t := S.tab p hp
          rw [t.1] at e
          cases e
          exact .inr (.inl ⟨(t.2.2.2.tab t.1).isCodeTable, rfl, #[], us, rfl, by rw [Array.empty_append]; exact hm⟩)
        · exact .inl (same b o (fun p hp z => hb ⟨p, hp, z⟩) e)
      · by_cases hb : ∃ p ∈ cs, b = p.2
        · obtain ⟨p, hp, rfl⟩ := hb
          obtain ⟨us, hm⟩ := more p hp
          exact ⟨_, hm⟩
        · exact ⟨o, same b o (fun p hp z => hb ⟨p, hp, z⟩) e⟩
theorem law_goT (KX : K.In s₁.heap) (atG : s₁.heap.Ns mainGlobals mg) (atB : s₁.heap.Ns builtinsNs mb) (isB : ∀ x : Str, x ≠ "__name__" → mb x = bootBuiltins x) (hlim : s₁.heap.NoLimit) (hg : s₁.gens = #[])
    (hbm : ∃ (bm : Addr) (ob : Obj), mg "__builtins__" = some (.ref bm) ∧ bm ≠ builtinsNs ∧ s₁.heap.get? bm = some ob ∧ ob.cls = .type "module" ∧ ob.dict = some builtinsNs ∧ ob.data = .plain)
    (hT : ∀ p ∈ cs, s₁.heap.get? p.2 = some { cls := .none, data := .fields #[] }) (nT : ∀ p ∈ cs, K.lookup p.2 = none) (C : ∀ p ∈ cs, PySem.W.CodeHd s₁.heap p.1 p.2)
    (ha : s₁.heap.get? a = some { cls := .type "list", data := .seq vs.toArray }) (hi : IntsAre vs ns) (hl : ns.length ≤ sizeLine) (hr : Room k callerA)
    (F : ∀ base : Heap, K.In base → base.Ns mainGlobals mg → (∀ p ∈ cs, LamX.TabB base mg p.1 p.2) → FnG P w K mg base k fL fd [x] pr) (hbind : ∀ (s : Shared) (u : Value), BindsTo s fd ⟨[u], []⟩ [(x, u)])
    (hsp : ∀ H : Hp, ScrL K H a ns → (∀ p ∈ cs, H p.2 = some (.tbl #[])) → pr [.ref a] H (fun v _ => v = .bl true) E0) :
    codeAny (model P w) callerA (.call (.ref fL) ⟨[.ref a], []⟩) (fun r sE => r = .ok (.ret (.bool true)) ∧ OldK s₁.heap sE.heap ∧ sE.os = s₁.os ∧ AllBare sE.gens) s₁ := by
  have rv := vals_ints hi
  have len0 := hi.length
  have aT : ∀ p ∈ cs, a ≠ p.2 := fun p hp z => by
    have q := hT p hp
    rw [← z, ha] at q
    cases q
  let tb : Hp := fun b => if ∃ p ∈ cs, b = p.2 then some (.tbl #[]) else none
  have tb1 : ∀ p ∈ cs, tb p.2 = some (.tbl #[]) := fun p hp => if_pos ⟨p, hp, rfl⟩
  have tb2 : ∀ b u, tb b = some u → (∃ p ∈ cs, b = p.2) ∧ u = .tbl #[] := fun b u e => by
    by_cases h : ∃ p ∈ cs, b = p.2
    · have z := (if_pos h : tb b = some (.tbl #[])).symm.trans e
      cases z
      exact ⟨h, rfl⟩
    · have z := (if_neg h : tb b = none).symm.trans e
      cases z
  have tba : tb a = none := if_neg fun ⟨p, hp, z⟩ => aT p hp z
  cases hk : K.lookup a with
  | some o =>
    have e := KX a o hk
    rw [ha] at e
    have e2 := Option.some.inj e
    subst e2
    have hS : ScrL K tb a ns := .inr ⟨_, vs.toArray, _, hk, rfl, rfl, rfl, by rw [List.size_toArray, len0]; exact hl, by simpa using rv⟩
    exact core_callT (H := tb) ⟨ha, fun p hp => ⟨hT p hp, tb1 p hp, nT p hp, C p hp⟩, fun b n => .inr (by
      cases e : tb b with
      | none => exact (n e).elim
      | some u => exact (tb2 b u e).1), fun n => (n tba).elim⟩ KX atG atB isB hlim hg hbm hr F hbind (fun b u e => by
      obtain ⟨⟨p, hp, z⟩, y⟩ := tb2 b u e
      subst y
      rw [z]
      exact hT p hp) (hsp _ hS tb1)
  | none =>
    let hh : Hp := fun b => if b = a then some (.frz { cls := .type "list", data := .seq vs.toArray } (.lst (ns.map V.int))) else tb b
    have h1 : hh a = some (.frz { cls := .type "list", data := .seq vs.toArray } (.lst (ns.map V.int))) := if_pos rfl
    have h2 : ∀ b, b ≠ a → hh b = tb b := fun b n => if_neg n
    have h3 : ∀ p ∈ cs, hh p.2 = some (.tbl #[]) := fun p hp => (h2 _ (Ne.symm (aT p hp))).trans (tb1 p hp)
    exact core_callT (H := hh) ⟨ha, fun p hp => ⟨hT p hp, h3 p hp, nT p hp, C p hp⟩, fun b n => by
      by_cases q : b = a
      · exact .inl q
      · rw [h2 b q] at n
        cases e : tb b with
        | none => exact (n e).elim
        | some u => exact .inr (tb2 b u e).1, fun _ => ⟨hk, _, _, h1⟩⟩ KX atG atB isB hlim hg hbm hr F hbind (fun b u e => by
      by_cases q : b = a
      · subst q
        have z := h1.symm.trans e
        cases z
        exact ⟨ha, by rw [List.length_map]; exact hl, vs, _, rv, ha⟩
      · rw [h2 b q] at e
        obtain ⟨⟨p, hp, z⟩, y⟩ := tb2 b u e
        subst y
        rw [z]
        exact hT p hp) (hsp _ (.inl ⟨_, h1⟩) h3)
end
/-- the walk's end, with tables -/
theorem walk_T {l : PySem.W.OpenLaw} {n k : Nat} {q : Program} {loose : List Str} {XP : (Str → Option Value) → Heap → Prop} {YP : World → Heap → Prop} {d : DefRec} {x : Str}
    (hn : l.most = some n) (small : n ≤ sizeLine) (noDef : d.params.defaults = []) (hr : Room k callerA)
    (F : ∀ (w : World) (mg : Str → Option Value) (fL : Addr) (h : Heap), YP w h → h.Ns mainGlobals mg → mg d.name = some (.ref fL) →
      ∃ (K : PySem.W.Frag) (fd : FuncData) (pr : Sp) (cs : List (Addr × Addr)), K.In h ∧ (∀ p ∈ cs, h.get? p.2 = some { cls := .none, data := .fields #[] }) ∧ (∀ p ∈ cs, K.lookup p.2 = none) ∧ (∀ p ∈ cs, PySem.W.CodeHd h p.1 p.2) ∧ (∀ (s : Shared) (u : Value), BindsTo s fd ⟨[u], []⟩ [(x, u)]) ∧
        (∀ (H : Hp) (a : Addr) (ns : List Int), ns.length ≤ n → ScrL K H a ns → (∀ p ∈ cs, H p.2 = some (.tbl #[])) → pr [.ref a] H (fun v _ => v = .bl true) E0) ∧
        ∀ base : Heap, K.In base → base.Ns mainGlobals mg → (∀ p ∈ cs, LamX.TabB base mg p.1 p.2) → FnG l.prog w K mg base k fL fd [x] pr) :
    PySem.W.WalkO q loose XP YP l.row.toRowW d []
      (fun f vs => PySem.call f vs) := by
  refine Att.attach_callB hn noDef ?_
  intro w s₀ s₁ mg mb fL o pm cd doc a vs ns G Y ho hd hcd hmg hobj hints len0 hbits hg
  obtain ⟨K, fd, pr, cs, KX, hT, nT, C, atB, hsp, hF⟩ := F w mg fL _ Y G.T.g hmg
  exact law_goT KX G.T.g G.T.b G.T.builtins G.T.nolimit hg G.T.bmain hT nT C hobj hints (Nat.le_trans len0 small) hr hF atB fun H hS hH => hsp H a ns len0 hS hH
/-- empty tables -/
theorem tb_empty {H : Hp} (h : ∀ p ∈ FT.tabs, H p.1 = some (.tbl #[])) : TbG (fun _ => none) H := fun p hp => ⟨rfl, #[], h p hp, True.intro, fun pos cv hc => by
  have z : codeAmong pos [] = some cv := hc
  simp [codeAmong] at z⟩
end DL

set_option Elab.async false
set_option linter.all false
set_option maxRecDepth 100000
set_option maxHeartbeats 4000000
/-! The end of a law that makes functions: what its functions are is told once the tables' places are known. -/
namespace DL
open PySem PySem.Spec PyProof.Rows L2 GX
theorem walk_TF {l : PySem.W.OpenLaw} {n k : Nat} {q : Program} {loose : List Str} {XP : (Str → Option Value) → Heap → Prop} {YP : World → Heap → Prop} {d : DefRec} {x : Str}
    (hn : l.most = some n) (small : n ≤ sizeLine) (noDef : d.params.defaults = []) (hr : Room k callerA)
    (F : ∀ (w : World) (mg : Str → Option Value) (fL : Addr) (h : Heap), YP w h → h.Ns mainGlobals mg → mg d.name = some (.ref fL) →
      ∃ (_ : DL.FT) (K : PySem.W.Frag) (fd : FuncData) (pr : Sp) (cs : List (Addr × Addr)), K.In h ∧ (∀ p ∈ cs, h.get? p.2 = some { cls := .none, data := .fields #[] }) ∧ (∀ p ∈ cs, K.lookup p.2 = none) ∧ (∀ p ∈ cs, PySem.W.CodeHd h p.1 p.2) ∧ (∀ (s : Shared) (u : Value), BindsTo s fd ⟨[u], []⟩ [(x, u)]) ∧
        (∀ (H : Hp) (a : Addr) (ns : List Int), ns.length ≤ n → ScrL K H a ns → (∀ p ∈ cs, H p.2 = some (.tbl #[])) → pr [.ref a] H (fun v _ => v = .bl true) E0) ∧
        ∀ base : Heap, K.In base → base.Ns mainGlobals mg → (∀ p ∈ cs, LamX.TabB base mg p.1 p.2) → FnG l.prog w K mg base k fL fd [x] pr) :
    PySem.W.WalkO q loose XP YP l.row.toRowW d []
      (fun f vs => PySem.call f vs) := by
  refine Att.attach_callB hn noDef ?_
  intro w s₀ s₁ mg mb fL o pm cd doc a vs ns G Y ho hd hcd hmg hobj hints len0 hbits hg
  obtain ⟨ft, K, fd, pr, cs, KX, hT, nT, C, atB, hsp, hF⟩ := F w mg fL _ Y G.T.g hmg
  exact law_goT KX G.T.g G.T.b G.T.builtins G.T.nolimit hg G.T.bmain hT nT C hobj hints (Nat.le_trans len0 small) hr hF atB fun H hS hH => hsp H a ns len0 hS hH
end DL

set_option Elab.async false
set_option linter.all false
set_option maxRecDepth 100000
set_option maxHeartbeats 4000000
/-! The row's own defs as functions handed on. -/
namespace DL
open PySem PySem.Spec PyProof.Rows L2 GX StX NdefX
variable [DL.FT]
section
variable {X : Cx}
theorem de_gfn {x t : Str} {a : Addr} {pos : Pos} (h : FT.gl t = some a) (hm : X.mg x = some (.ref a)) (hg : Gl X x := by rfl) (hd : (x == ("__debug__" : Str)) = false := by decide) : DE X (.Name x pos) (fC (fnD t [])) := de_c (pe_glob (v := .ref a) hg hm rfl hd) fun _ _ => .glo h
end
/-- what such a def tells -/
def mGlo (F : FF) : MF := fun ds as => match ds with
  | [] => match F (as.map Sl.dat) with
    | some (d, _) => some d
    | none => none
  | _ => none
section
variable {P : Program} {w : World} {K : PySem.W.Frag} {mg : Str → Option Value} {base : Heap} {k n : Nat} {x q t : Str} {pa : Arguments} {bd : List Stmt} {sc : Scope} {ps : List Str} {F : FF} {f : Addr} {fd : FuncData}
theorem clo_glo (Fk : FnG P w K mg base k f fd ps (spD w K n F)) (hb : Binds K fd ps []) (FD : FunD K x q pa bd sc [] [] f fd) (hl : n = ps.length) (hgl : ∀ a, FT.gl t = some a → a = f) (hnf : ∀ c cs φ, FT.nf t c cs ≠ some φ) : CloG P w K mg base k t n (mGlo F) := by
  refine ⟨fun G H h a ds ok KX sub hd => ?_, fun A outer s G H a us vs ds as r Q hG hR e0 sub tb hd rv ha hno hl' hM hQ => ?_⟩
  · cases hd with
    | fn h1 => exact (hnf _ _ _ h1).elim
    | glo g =>
      cases hgl _ g
      obtain ⟨oc, od, dV, kV, doc, pm, an, cdv, ct, osl, e, lk, _⟩ := FD.ex
      exact ⟨oc, od, _, osl, KX _ _ lk⟩
  · cases hd with
    | fn h1 => exact (hnf _ _ _ h1).elim
    | glo g =>
      cases hgl _ g
      unfold mGlo at hM
      dsimp only at hM
      split at hM
      · rename_i d sls' hF
        cases hM
        have R0 := rl_dats (ww := w) 0 sub tb ha
        rw [List.replicate_zero, List.replicate_zero, List.append_nil, List.append_nil] at R0
        have sp : spD w K n F vs H Q E0 := ⟨by rw [ha.len, hl'], G, _, sls', _, R0, hF, fun v G' H' R' sx hv => by
          have sx' : Sx G (vs.map some) (as.map Sl.dat ++ List.replicate 0 Sl.un) H G' (vs.map some) sls' H' := by
            rw [List.replicate_zero, List.append_nil]; exact sx
          exact hQ v _ _ (xt_dats R' sx') hv⟩
        have KX : K.In s.heap := e0.mod.kin.keeps fun b o e => (e0.bs b o e).1
        have hlu : us.length = ps.length := by rw [← rv.length, ha.len, hl', hl]
        have hbb : BindsTo s fd ⟨us, []⟩ (ps.zip us) := by
          have y := hb s us KX (by rw [List.append_nil]; exact hlu)
          rw [List.append_nil] at y
          exact y
        exact Fk.go A outer s H ⟨us, []⟩ us vs Q E0 hG hR e0 hbb rv sp
      · cases hM
end
def fDef1 (F : FF) (i : Nat) (js1 : List Nat) (t1 : Str) (f1 f3 : EF) : SF := fun ρ => match ρ[i]? with
  | some .un => match f1 ρ with
    | none => none
    | some (d1, ρ1) => match f3 ρ1 with
      | none => none
      | some (d3, ρ3) => match capD ρ3 js1 with
        | some ds1 => match F [.dat d1, .dat (fnD t1 ds1), .dat d3] with
          | none => none
          | some (d, _) => if noF d = true then some (.rt d ρ3) else none
        | _ => none
  | _ => none
section
variable {X : Cx} {k i : Nat} {x y1 : Str} {ps fr1 : List Str} {js1 : List Nat} {p p1 pos rpos : Pos} {e1 e3 : Expr} {f1 f3 : EF} {F : FF} {t1 : Str} {Fn1 : Addr → NF} {cl1 : List (Str × Addr)} {P : Addr} {nm : Nat → Nat → Str} {pos1 : Pos} {st1 : Stmt}
/-- def y1 ..; return x(a, y1, b) -/
theorem dss_def1 (c : Cal X.prog X.w X.K X.mg X.base k x ps (spD X.w X.K 3 F)) (hG : Gd X.A) (hR : Room k X.A) (hs1 : PS X st1 (tNdefT P (FT.qn t1) pos1 i Fn1)) (hm0 : (P, nm) ∈ FT.tabs) (hu : ∀ p ∈ FT.tabs, p.1 = P → p.2 = nm) (hq1 : nm pos1.line pos1.col = FT.qn t1) (h1 : DE X e1 f1) (h3 : DE X e3 f3)
    (S1 : FnS X cl1 (fun c a => FnO a (Fn1 c)) t1 fr1 js1) (hfn : ∀ y, X.fn y = true)
    (hN1 : X.N[i]? = some y1) (hv1 : Vis X.env.scope y1)
    (hg : Gl X x := by rfl) (hdb : (x == ("__debug__" : Str)) = false := by decide) (hd1 : (y1 == ("__debug__" : Str)) = false := by decide) (hc1 : (y1 == ("__classdict__" : Str)) = false := by decide)
    (he1 : starEach [e1, .Name y1 p1, e3] X.env = (false, eval e1 X.env) :: starEach [.Name y1 p1, e3] X.env := by rfl) (he2 : starEach [.Name y1 p1, e3] X.env = (false, eval (.Name y1 p1) X.env) :: starEach [e3] X.env := by rfl) (he3 : starEach [e3] X.env = (false, eval e3 X.env) :: starEach [] X.env := by rfl)
    (hpl : (backTo pos (starEach [.Name y1 p1, e3] X.env)).any (·.1) = false := by rfl) :
    DSs X [st1, .Return (some (.Call (.Name x p) [e1, .Name y1 p1, e3] [] pos)) rpos] (fDef1 F i js1 t1 f1 f3) := by
  obtain ⟨f, fd, Fk, hm, hk, hb⟩ := c
  let tC : TE := fun σ H Q => ∃ (G : Hp) (ρ ρ1 ρ3 : Rho) (d1 d3 d : PyData) (ds1 : List PyData) (a ca : Addr) (ss : List Sl), Rl X.w X.K G σ ρ H ∧ f1 ρ = some (d1, ρ1) ∧ f3 ρ1 = some (d3, ρ3) ∧ σ[i]? = some (some (.ref a)) ∧ G a = some (FnO a (Fn1 ca)) ∧ G ca = some (LamX.CodeO ca (FT.qn t1)) ∧
    capD ρ3 js1 = some ds1 ∧ F [.dat d1, .dat (fnD t1 ds1), .dat d3] = some (d, ss) ∧ noF d = true ∧ ∀ v G' H', Rl X.w X.K G' σ ρ3 H' → Sx G σ ρ H G' σ ρ3 H' → Da X.K G' v d → Q v H'
  have hcall : PE X (.Call (.Name x p) [e1, .Name y1 p1, e3] [] pos) tC := by
    refine ⟨fun pins s σ H Q I h => ?_⟩
    obtain ⟨G, ρ, ρ1, ρ3, d1, d3, d, ds1, a, ca, ss, R, q1, q3, sa, ga, gca, c1, qF, nf, hq⟩ := h
    have ha : PA X [e1, .Name y1 p1, e3] (tCons (rE X.w X.K f1) (tCons (tVar i) (tCons (rE X.w X.K f3) tNil))) :=
      pa_cons h1 (pa_cons (pe_var hN1 hv1 hd1 hc1) (pa_cons h3 pa_nil he3) he2) he1
    have ht : tCons (rE X.w X.K f1) (tCons (tVar i) (tCons (rE X.w X.K f3) tNil)) σ H fun vs H3 => ∃ (v1 v3 : V) (G3 : Hp), vs = [v1, .ref a, v3] ∧ Rl X.w X.K G3 σ ρ3 H3 ∧ Sx G σ ρ H G3 σ ρ3 H3 ∧ Da X.K G3 v1 d1 ∧ Da X.K G3 v3 d3 := by
      refine ⟨G, ρ, ρ1, d1, R, q1, fun v1 G1 H1 R1 s1 hv1 => ⟨.ref a, sa, ?_⟩⟩
      refine ⟨G1, ρ1, ρ3, d3, R1, q3, fun v3 G3 H3 R3 s3 hv3 => ?_⟩
      exact ⟨v1, v3, G3, rfl, R3, s1.trans s3, hv1.same s3.gr, hv3⟩
    apply wpAny_Call_Name_kw
    refine ld_glob I hg hm (PySem.W.callWith_K (h₀ := X.base) I.ok.mod.kin hk (thn (ha.run pos pins s σ H _ I ht) ?_) he1 hpl) hdb
    rintro us s1 ⟨vs, H3, I3, r, v1, v3, G3, rfl, R3, sx, hv1, hv3⟩
    refine ⟨I3.kIn, ?_⟩
    have own := S1.own I3.ok hfn
    have A := S1.da I3 R3 own rfl (sx.gr _ _ ga) (sx.gr _ _ gca) c1
    have sg := gho_same I3 own R3.sub
    exact run_gho Fk hG hR hb I3 own R3.sub R3.tb r (.cons (hv1.same sg) (.cons A (.cons (hv3.same sg) .nil))) rfl qF nf fun v G' H' x hv => hq v G' H' (R3.ext x) (sx.trans (Sx.ext x)) hv
  refine pss_imp (pss_cons hs1 (pss_one (ps_ret (pos := rpos) hcall))) ?_
  rintro D σ H ⟨G, ρ, o, R, hf, kk⟩
  unfold fDef1 at hf
  split at hf
  · rename_i ei
    split at hf
    · cases hf
    · rename_i d1 ρ1 q1
      split at hf
      · cases hf
      · rename_i d3 ρ3 q3
        split at hf
        · rename_i ds1 c1
          split at hf
          · cases hf
          · rename_i d ss qF
            split at hf
            · rename_i nf
              cases hf
              refine made_of R hm0 hu hq1 fun a ca G1 H1 na x1 ga gca => ?_
              have R1 := (R.ext x1).raw (x := some (.ref a)) ei
              have sx : Sx G σ ρ H _ (σ.set i (some (.ref a))) ρ _ := (Sx.ext x1).trans (Sx.raw ei)
              have li : i < σ.length := R.lt ei
              refine ⟨_, ρ, ρ1, ρ3, d1, d3, d, ds1, a, ca, ss, R1, q1, q3, ?_, ga, gca, c1, qF, nf, fun v G' H' R' s' hv => ?_⟩
              · rw [List.getElem?_set_self li]
              · exact kk _ v G' H' R' (sx.trans s') hv
            · cases hf
        · cases hf
  · cases hf
end
end DL

set_option Elab.async false
set_option linter.all false
set_option maxRecDepth 100000
set_option maxHeartbeats 4000000
/-! a, b, .. = data, new lists and new dicts. -/
namespace DL
open PySem PySem.Spec PyProof.Rows L2 GX StX
variable [DL.FT]
/-- one of several: a datum or a new container -/
inductive Itc where
  | d (x : PyData) | c (k : Cn)
abbrev CF := Rho → Option (Itc × Rho)
def CtR (ww : World) (K : PySem.W.Frag) (G H : Hp) (σ : L2.St) (ρ : Rho) (H0 : Hp) : Itc → V → Prop
  | .d x, v => Da K G v x
  | .c k, v => ∃ p, v = .ref p ∧ (∀ a ∈ reg p k, G a = none ∧ ¬ Ow σ ρ a ∧ H0 a = none) ∧ Cr ww K G H p k
def rC (ww : World) (K : PySem.W.Frag) (f : CF) : TE := fun σ H Q => ∃ G ρ ρ' a, Rl ww K G σ ρ H ∧ f ρ = some (a, ρ') ∧ ∀ v G' H', Rl ww K G' σ ρ' H' → Sx G σ ρ H G' σ ρ' H' → CtR ww K G' H' σ ρ' H a v → Q v H'
def DC1 (X : Cx) (e : Expr) (f : CF) : Prop := PE X e (rC X.w X.K f)
section
variable {ww : World} {K : PySem.W.Frag} {G G' H H' H0 H1 : Hp} {σ σ' : L2.St} {ρ ρ' : Rho} {a : Itc} {v : V}
theorem CtR.keep (h : CtR ww K G H σ ρ H0 a v) (s : Sx G σ ρ H G' σ' ρ' H') : CtR ww K G' H' σ' ρ' H0 a v := by
  cases a with
  | d x => exact Da.same h s.gr
  | c k =>
    obtain ⟨p, rfl, h1, h2⟩ := h
    refine ⟨p, rfl, fun b hb => ?_, h2.step s.gr fun b hb => ?_⟩
    · obtain ⟨g, no, n⟩ := h1 b hb
      have ne := h2.ne hb
      refine ⟨?_, fun z => ?_, n⟩
      · cases q : G' b with
        | none => rfl
        | some u =>
          rcases s.new b (by rw [q]; simp) with z | z | z
          · exact (z g).elim
          · exact (ne z).elim
          · exact (no z).elim
      · rcases s.ow b z with y | y
        · exact no y
        · exact ne y
    · obtain ⟨g, no, n⟩ := h1 b hb
      cases q : H b with
      | none => exact (h2.ne hb q).elim
      | some o => exact s.fr b o q (h2.noT hb q) no
theorem CtR.new (h : CtR ww K G H σ ρ H1 a v) (b : ∀ p, H1 p = none → H0 p = none) : CtR ww K G H σ ρ H0 a v := by
  cases a with
  | d x => exact h
  | c k =>
    obtain ⟨p, rfl, h1, h2⟩ := h
    exact ⟨p, rfl, fun a ha => ⟨(h1 a ha).1, (h1 a ha).2.1, b _ (h1 a ha).2.2⟩, h2⟩
/-- where it stands -/
def reg1 : Itc → V → List Addr
  | .c k, .ref p => reg p k
  | _, _ => []
theorem CtR.at_ (h : CtR ww K G H σ ρ H0 a v) {b : Addr} (hb : b ∈ reg1 a v) : H b ≠ none ∧ H0 b = none := by
  cases a with
  | d x => cases v <;> cases hb
  | c k =>
    obtain ⟨p, rfl, h1, h2⟩ := h
    exact ⟨h2.ne hb, (h1 b hb).2.2⟩
def setC (ρ : Rho) (i : Nat) : Itc → Rho
  | .d x => ρ.set i (.dat x)
  | .c k => ρ.set i (.own false k)
theorem Sx.holdC2 {G0 H0 G H : Hp} {σ0 σ : L2.St} {ρ0 ρ : Rho} {i : Nat} {p : Addr} {ds : Cn} (s : Sx G0 σ0 ρ0 H0 G σ ρ H) (n : ∀ a ∈ reg p ds, H0 a = none) : Sx G0 σ0 ρ0 H0 G (σ.set i (some (.ref p))) (ρ.set i (.own false ds)) H := by
  refine ⟨s.gr, s.new, s.fr, fun b ⟨j, c, es, r, h1, h2, h3⟩ => ?_, s.al, fun j es h => ?_⟩
  · rcases set_get h1 with ⟨z1, z, _⟩ | ⟨z, h1⟩
    · subst z1
      by_cases hl : j < σ.length
      · rw [List.getElem?_set_self hl] at h2
        cases h2
        cases z
        exact .inr (n b h3)
      · rw [List.getElem?_eq_none (by rw [List.length_set]; omega)] at h2
        cases h2
    · rw [List.getElem?_set_ne (Ne.symm z)] at h2
      exact s.ow b ⟨j, c, es, r, h1, h2, h3⟩
  · rcases set_get h with ⟨_, z, _⟩ | ⟨z, h⟩
    · cases z
    · rw [List.getElem?_set_ne (Ne.symm z)]
      exact s.par j es h
theorem CtR.store {G0 : Hp} {σ0 : L2.St} {ρ0 : Rho} {i : Nat} (R : Rl ww K G σ ρ H) (s : Sx G0 σ0 ρ0 H0 G σ ρ H) (h : CtR ww K G H σ ρ H0 a v) :
    Rl ww K G (σ.set i (some v)) (setC ρ i a) H ∧ Sx G0 σ0 ρ0 H0 G (σ.set i (some v)) (setC ρ i a) H ∧
      ∀ (b : Itc) (u : V), (∀ x ∈ reg1 a v, x ∉ reg1 b u) → CtR ww K G H σ ρ H0 b u → CtR ww K G H (σ.set i (some v)) (setC ρ i a) H0 b u := by
  cases a with
  | d x =>
    refine ⟨R.put h, s.trans (Sx.put R), fun b u _ hb => ?_⟩
    exact CtR.keep hb (Sx.put R)
  | c k =>
    obtain ⟨p, rfl, h1, h2⟩ := h
    refine ⟨R.holdC (fun a ha => (h1 a ha).1) (fun a ha => (h1 a ha).2.1) h2, Sx.holdC2 s (fun a ha => (h1 a ha).2.2), fun b u hu hb => ?_⟩
    cases b with
    | d x => exact hb
    | c l =>
      obtain ⟨q, rfl, k1, k2⟩ := hb
      refine ⟨q, rfl, fun y hy => ⟨(k1 y hy).1, fun ⟨j, c, fs, r, z1, z2, z3⟩ => ?_, (k1 y hy).2.2⟩, k2⟩
      rcases set_get z1 with ⟨y1, y2, _⟩ | ⟨y', z1⟩
      · subst y1
        cases y2
        by_cases hl : j < σ.length
        · rw [List.getElem?_set_self hl] at z2
          cases z2
          exact hu y z3 hy
        · rw [List.getElem?_eq_none (by rw [List.length_set]; omega)] at z2
          cases z2
      · rw [List.getElem?_set_ne (Ne.symm y')] at z2
        exact (k1 y hy).2.1 ⟨j, c, fs, r, z1, z2, z3⟩
/-- several of them, apart -/
inductive CtRs (ww : World) (K : PySem.W.Frag) (G H : Hp) (σ : L2.St) (ρ : Rho) (H0 : Hp) : List Itc → List V → Prop
  | nil : CtRs ww K G H σ ρ H0 [] []
  | cons {a : Itc} {v : V} {as : List Itc} {vs : List V} : CtR ww K G H σ ρ H0 a v → (∀ (i : Nat) (b : Itc) (u : V), as[i]? = some b → vs[i]? = some u → ∀ x ∈ reg1 a v, x ∉ reg1 b u) → CtRs ww K G H σ ρ H0 as vs → CtRs ww K G H σ ρ H0 (a :: as) (v :: vs)
theorem CtRs.map {as : List Itc} {vs : List V} (h : CtRs ww K G H σ ρ H0 as vs) (k : ∀ (i : Nat) (b : Itc) (u : V), as[i]? = some b → vs[i]? = some u → CtR ww K G H σ ρ H0 b u → CtR ww K G' H' σ' ρ' H1 b u) : CtRs ww K G' H' σ' ρ' H1 as vs := by
  induction h with
  | nil => exact .nil
  | cons h1 h2 h3 ih => exact .cons (k 0 _ _ rfl rfl h1) h2 (ih fun i b u e1 e2 => k (i + 1) b u (by simpa using e1) (by simpa using e2))
theorem CtRs.get {as : List Itc} {vs : List V} (h : CtRs ww K G H σ ρ H0 as vs) {i : Nat} {b : Itc} {u : V} (e1 : as[i]? = some b) (e2 : vs[i]? = some u) : CtR ww K G H σ ρ H0 b u := by
  induction h generalizing i with
  | nil => simp at e1
  | cons h1 h2 h3 ih =>
    cases i with
    | zero => simp at e1 e2; subst e1 e2; exact h1
    | succ i => exact ih (by simpa using e1) (by simpa using e2)
theorem CtRs.len {as : List Itc} {vs : List V} (h : CtRs ww K G H σ ρ H0 as vs) : vs.length = as.length := by
  induction h with
  | nil => rfl
  | cons _ _ _ ih => simp [ih]
def setVs : L2.St → List Nat → List V → L2.St
  | σ, i :: is, v :: vs => setVs (σ.set i (some v)) is vs
  | σ, _, _ => σ
def setCs : Rho → List Nat → List Itc → Rho
  | ρ, i :: is, a :: as => setCs (setC ρ i a) is as
  | ρ, _, _ => ρ
end
theorem CtRs.store {ww : World} {K : PySem.W.Frag} {G H H0 G0 : Hp} {σ0 : L2.St} {ρ0 : Rho} : ∀ {is : List Nat} {as : List Itc} {vs : List V} {σ : L2.St} {ρ : Rho}, is.length = as.length → Rl ww K G σ ρ H → Sx G0 σ0 ρ0 H0 G σ ρ H → CtRs ww K G H σ ρ H0 as vs → Rl ww K G (setVs σ is vs) (setCs ρ is as) H ∧ Sx G0 σ0 ρ0 H0 G (setVs σ is vs) (setCs ρ is as) H
  | [], [], _, _, _, _, R, s, h => by cases h; exact ⟨R, s⟩
  | [], _ :: _, _, _, _, l, _, _, _ => by cases l
  | _ :: _, [], _, _, _, l, _, _, _ => by cases l
  | i :: is, a :: as, _, σ, ρ, l, R, s, h => by
    cases h with
    | @cons _ v _ vs h1 h2 h3 =>
      obtain ⟨Ra, sa, ka⟩ := CtR.store (i := i) R s h1
      exact CtRs.store (is := is) (as := as) (vs := vs) (σ := σ.set i (some v)) (ρ := setC ρ i a) (by simpa using l) Ra sa (h3.map fun j b u e1 e2 z => ka b u (h2 j b u e1 e2) z)
def evalC : List CF → Rho → Option (List Itc × Rho)
  | [], ρ => some ([], ρ)
  | f :: fs, ρ => match f ρ with
    | none => none
    | some (a, ρ1) => match evalC fs ρ1 with
      | none => none
      | some (as, ρ2) => some (a :: as, ρ2)
def rCs (ww : World) (K : PySem.W.Frag) (fs : List CF) : TA := fun σ H Q => ∃ G ρ ρ' as, Rl ww K G σ ρ H ∧ evalC fs ρ = some (as, ρ') ∧ ∀ vs G' H', Rl ww K G' σ ρ' H' → Sx G σ ρ H G' σ ρ' H' → CtRs ww K G' H' σ ρ' H as vs → Q vs H'
def DCs (X : Cx) (es : List Expr) (fs : List CF) : Prop := PA X es (rCs X.w X.K fs)
def cDat (f : EF) : CF := fun ρ => match f ρ with
  | some (d, ρ') => some (.d d, ρ')
  | none => none
def cNew (f : LF) : CF := fun ρ => match f ρ with
  | some (ds, ρ') => some (.c (.l ds), ρ')
  | none => none
def cDic0 : CF := fun ρ => some (.c (.k []), ρ)
def cDic1 (fk fv : EF) : CF := fun ρ => match fk ρ with
  | some (.tuple es, ρ1) => match fv ρ1, keyD (.tuple es) with
    | some (d, ρ2), some k => if decide (NestedKey.depth k ≤ 8) = true then some (.c (.k [(k, d)]), ρ2) else none
    | _, _ => none
  | _ => none
section
variable {X : Cx}
theorem dcs_nil : DCs X [] [] := by
  refine pa_imp pa_nil ?_
  rintro σ H Q ⟨G, ρ, ρ', as, R, hf, k⟩
  cases hf
  exact k [] G H R (Sx.refl _ _ _ _) .nil
theorem dcs_cons {e : Expr} {es : List Expr} {f : CF} {fs : List CF} (h1 : DC1 X e f) (h2 : DCs X es fs) (st : starEach (e :: es) X.env = (false, eval e X.env) :: starEach es X.env := by rfl) : DCs X (e :: es) (f :: fs) := by
  refine pa_imp (pa_cons h1 h2 st) ?_
  rintro σ H Q ⟨G, ρ, ρ', as, R, hf, k⟩
  unfold evalC at hf
  split at hf
  · cases hf
  · rename_i a ρ1 e1
    split at hf
    · cases hf
    · rename_i as' ρ2 e2
      cases hf
      refine ⟨G, ρ, ρ1, a, R, e1, fun v G1 H1 R1 s1 q1 => ⟨G1, ρ1, ρ', as', R1, e2, fun vs G2 H2 R2 s2 q2 => ?_⟩⟩
      refine k _ G2 H2 R2 (s1.trans s2) (.cons (q1.keep s2) (fun i b u i1 i2 x hx hx' => ?_) (q2.map fun i b u _ _ z => z.new fun p n => backN s1 n))
      exact (q1.at_ hx).1 ((q2.get i1 i2).at_ hx').2
theorem dc_dat {e : Expr} {f : EF} (h : DE X e f) : DC1 X e (cDat f) := by
  refine pe_imp h ?_
  rintro σ H Q ⟨G, ρ, ρ', a, R, hf, k⟩
  unfold cDat at hf
  split at hf
  · rename_i d ρ1 e1
    cases hf
    exact ⟨G, ρ, _, d, R, e1, fun v G1 H1 R1 s1 q1 => k v G1 H1 R1 s1 q1⟩
  · cases hf
theorem reg_one {p : Addr} {ds : List PyData} {A : Addr → Prop} (h : A p) : ∀ a ∈ reg p (.l ds), A a := fun a ha => by
  simp only [reg, List.mem_singleton] at ha
  rw [ha]; exact h
theorem reg_oneK {p : Addr} {ds : List (NestedKey × PyData)} {A : Addr → Prop} (h : A p) : ∀ a ∈ reg p (.k ds), A a := fun a ha => by
  simp only [reg, List.mem_singleton] at ha
  rw [ha]; exact h
theorem dc_new {e : Expr} {f : LF} (h : DN X e f) : DC1 X e (cNew f) := by
  refine pe_imp h ?_
  rintro σ H Q ⟨G, ρ, ρ', a, R, hf, k⟩
  unfold cNew at hf
  split at hf
  · rename_i ds ρ1 e1
    cases hf
    exact ⟨G, ρ, _, ds, R, e1, fun p xs G1 H1 R1 s1 h1 h2 h3 h4 h5 => k _ G1 H1 R1 s1 ⟨p, rfl, reg_one ⟨h2, h3, h4⟩, xs, h1, h5⟩⟩
  · cases hf
theorem dc_dic0 {pos : Pos} : DC1 X (.Dict [] [] pos) cDic0 := by
  refine pe_imp pe_newK ?_
  rintro σ H Q ⟨G, ρ, ρ', a, R, hf, k⟩
  cases hf
  intro p n
  have x1 := Xt.more (p := p) (o := .ext (DicP X.w p [])) R.sub n
  exact k _ G _ (R.ext x1) (Sx.ext x1) ⟨p, rfl, reg_oneK ⟨Same.free R.sub n, noOw R n, n⟩, [], upd_same, .nil⟩
theorem dc_dic1 (hu : X.A.units + 64 < cLine) {ek ev : Expr} {fk fv : EF} {dpos : Pos} (hk : DE X ek fk) (hv : DE X ev fv)
    (hshape : (evalEachOpt [some ek] X.env).zip ((evalEach [ev] X.env).map fun v => do let x ← v; standAt dpos; pure x) = ([(eval ek X.env, (do let x ← eval ev X.env; standAt dpos; pure x))] : List (Sem Value × Sem Value)).map fun p => (some p.1, p.2) := by rfl) :
    DC1 X (.Dict [some ek] [ev] dpos) (cDic1 fk fv) := by
  refine pe_imp (pe_dsp1 hu hk hv hshape) ?_
  rintro σ H Q ⟨G, ρ, ρ', a, R, hf, k⟩
  unfold cDic1 at hf
  split at hf
  · rename_i es ρ1 e1
    split at hf
    · rename_i d ρ2 kk e2 e3
      split at hf
      · rename_i hdp
        cases hf
        intro p n
        have x1 := Xt.more (p := p) (o := .ext (DicP X.w p [])) R.sub n
        have R1 := R.ext x1
        refine ⟨G, ρ, ρ1, _, R1, e1, fun vk G1 H1 R2 s2 hvk => ⟨G1, ρ1, ρ', d, R2, e2, fun vv G2 H2 R3 s3 hvv => ?_⟩⟩
        have s23 := s2.trans s3
        have no1 : ¬ Ow σ ρ p := noOw R n
        have hp2 : H2 p = some (.ext (DicP X.w p [])) := s23.fr p _ upd_same (fun _ z => nomatch z) no1
        obtain ⟨a, ea⟩ : ∃ a, vk = .ref a := by cases hvk; exact ⟨_, rfl⟩
        subst ea
        have ka : KeyAt X.K G2 a kk := ⟨⟨_, e3, hvk.same s3.gr⟩, of_decide_eq_true hdp⟩
        refine ⟨G2, a, kk, rfl, R3.sub, ka, hp2, ?_⟩
        have g0 : G p = none := Same.free R.sub n
        have g2 : G2 p = none := by
          cases q : G2 p with
          | none => rfl
          | some o =>
            rcases s23.new p (by rw [q]; simp) with z | z | z
            · exact (z g0).elim
            · rw [upd_same] at z; cases z
            · exact (no1 z).elim
        have no2 : ¬ Ow σ ρ' p := fun z => by
          rcases s23.ow p z with y | y
          · exact no1 y
          · rw [upd_same] at y; cases y
        have xA : DicA X.K G2 (xPut [] kk a vv) [(kk, d)] := storedA (kvs := []) .nil ka hvv
        have R4 := R3.other (o := .ext (DicP X.w p (xPut [] kk a vv))) g2 no2 hp2
        have s4 : Sx G σ ρ H G2 σ ρ' (upd H2 p (.ext (DicP X.w p (xPut [] kk a vv)))) := by
          have back : ∀ b, upd H p (.ext (DicP X.w p [])) b = none → H b = none := fun b z => by
            by_cases hb : b = p
            · rw [hb, upd_same] at z; cases z
            · rw [upd_ne hb] at z; exact z
          refine ⟨s23.gr, fun b z => ?_, fun b o e t no => ?_, fun b z => ?_, fun b z => ?_, s23.par⟩
          · rcases s23.new b z with y | y | y
            · exact .inl y
            · exact .inr (.inl (back b y))
            · exact .inr (.inr y)
          · have hb : b ≠ p := fun hb => by rw [hb, n] at e; cases e
            rw [upd_ne hb]
            exact s23.fr b o (by rw [upd_ne hb]; exact e) t no
          · rcases s23.ow b z with y | y
            · exact .inl y
            · exact .inr (back b y)
          · have hb : b ≠ p := fun hb => z (by rw [hb]; exact n)
            rw [upd_ne hb]
            exact s23.al b (by rw [upd_ne hb]; exact z)
        exact k _ G2 _ R4 s4 ⟨p, rfl, reg_oneK ⟨g2, no2, n⟩, _, upd_same, xA⟩
      · cases hf
    · cases hf
  · cases hf
def fParC (is : List Nat) (fs : List CF) : SF := fun ρ => match evalC fs ρ with
  | none => none
  | some (as, ρ1) => if as.length = is.length then some (.nx (setCs ρ1 is as)) else none
theorem ds_pc2 {i j : Nat} {x y : Str} {a b : Expr} {fs : List CF} {px py pt pos : Pos} {kt k2 pt2} (hc : X.calm = true) (hN : X.N.Nodup) (hi : X.N[i]? = some x) (hj : X.N[j]? = some y) (hij : i ≠ j)
    (hx : X.env.scope.names.lookup x = some .local) (hy : X.env.scope.names.lookup y = some .local) (ha : DCs X [a, b] fs)
    (hw : swappedStores [.Tuple [.Name x px, .Name y py] kt pt] (.Tuple [a, b] k2 pt2) X.env = pure (some [x, y]))
    (hs : swapsWithSole [.Tuple [.Name x px, .Name y py] kt pt] (.Tuple [a, b] k2 pt2) pos.line X.env = pure false := by rfl) :
    DS X (.Assign [.Tuple [.Name x px, .Name y py] kt pt] (.Tuple [a, b] k2 pt2) pos) (fParC [i, j] fs) := by
  refine ps_imp (ps_par hc hN hi hj hij hx hy ha hw hs) ?_
  rintro D σ H ⟨G, ρ, o, R, hf, k⟩
  unfold fParC at hf
  split at hf
  · cases hf
  · rename_i as ρ1 e1
    split at hf
    · rename_i hl
      cases hf
      refine ⟨G, ρ, ρ1, as, R, e1, fun vs G1 H1 R1 s1 q1 => ?_⟩
      obtain ⟨Rb, sb⟩ := CtRs.store hl.symm R1 s1 q1
      have lv := q1.len
      rw [hl] at lv
      match vs, lv with
      | [v, w], _ => exact ⟨v, w, rfl, k _ G1 _ Rb sb⟩
    · cases hf
theorem ds_pc3 {i j l : Nat} {x y z : Str} {a b c : Expr} {fs : List CF} {px py pz pt pos : Pos} {kt k2 pt2} (hc : X.calm = true) (hN : X.N.Nodup) (hi : X.N[i]? = some x) (hj : X.N[j]? = some y) (hl : X.N[l]? = some z) (hij : i ≠ j) (hil : i ≠ l) (hjl : j ≠ l)
    (hx : X.env.scope.names.lookup x = some .local) (hy : X.env.scope.names.lookup y = some .local) (hz : X.env.scope.names.lookup z = some .local) (ha : DCs X [a, b, c] fs)
    (hw : swappedStores [.Tuple [.Name x px, .Name y py, .Name z pz] kt pt] (.Tuple [a, b, c] k2 pt2) X.env = pure (some [x, y, z]))
    (hs : swapsWithSole [.Tuple [.Name x px, .Name y py, .Name z pz] kt pt] (.Tuple [a, b, c] k2 pt2) pos.line X.env = pure false := by rfl) :
    DS X (.Assign [.Tuple [.Name x px, .Name y py, .Name z pz] kt pt] (.Tuple [a, b, c] k2 pt2) pos) (fParC [i, j, l] fs) := by
  refine ps_imp (ps_par3 hc hN hi hj hl hij hil hjl hx hy hz ha hw hs) ?_
  rintro D σ H ⟨G, ρ, o, R, hf, k⟩
  unfold fParC at hf
  split at hf
  · cases hf
  · rename_i as ρ1 e1
    split at hf
    · rename_i hlen
      cases hf
      refine ⟨G, ρ, ρ1, as, R, e1, fun vs G1 H1 R1 s1 q1 => ?_⟩
      obtain ⟨Rb, sb⟩ := CtRs.store hlen.symm R1 s1 q1
      have lv := q1.len
      rw [hlen] at lv
      match vs, lv with
      | [v, w, u], _ => exact ⟨v, w, u, rfl, k _ G1 _ Rb sb⟩
    · cases hf
/-- names that are stored one behind another -/
def DNs (X : Cx) (es : List Expr) (is : List Nat) : Prop := ∃ g : TGs, PGs X es g ∧ ∀ vs σ H Q, vs.length = is.length → Q (setVs σ is vs) H → g vs σ H Q
theorem dns_nil : DNs X [] [] := ⟨gNil, pgs_nil, fun vs σ H Q l q => by
  cases vs with
  | nil => exact ⟨rfl, q⟩
  | cons v vs => cases l⟩
theorem dns_cons {i : Nat} {x : Str} {p : Pos} {es : List Expr} {is : List Nat} (nd : X.N.Nodup) (h : DNs X es is) (hi : X.N[i]? = some x := by rfl) (hx : Loc X.env.scope x := by first | exact Or.inl rfl | exact Or.inr rfl) (hf : X.fn x = true ∨ X.env.scope.names.lookup x = some .local := by first | exact .inl rfl | exact .inr rfl)
    (hs : (assignEach (.Name x p :: es) X.env).map (·.2) = assign (.Name x p) X.env :: (assignEach es X.env).map (·.2) := by rfl) : DNs X (.Name x p :: es) (i :: is) := by
  obtain ⟨g, h1, h2⟩ := h
  refine ⟨gCons (gName i) g, pgs_cons (pg_name nd hi hx hf) h1 hs, fun vs σ H Q l q => ?_⟩
  cases vs with
  | nil => cases l
  | cons v vs => exact ⟨v, vs, rfl, h2 vs _ H Q (by simpa using l) q⟩
/-- four and more -/
theorem ds_pcN {es vs : List Expr} {is : List Nat} {fs : List CF} {kt k2 : Nat} {pt pt2 pos : Pos} (hc : X.calm = true) (hn : DNs X es is) (ha : DCs X vs fs) (hz : is.length ≤ sizeLine)
    (hs : swapsWithSole [.Tuple es kt pt] (.Tuple vs k2 pt2) pos.line X.env = pure false := by rfl) (hw : swappedStores [.Tuple es kt pt] (.Tuple vs k2 pt2) X.env = pure none := by rfl)
    (h1 : (assignEach [.Tuple es kt pt] X.env).map (·.2) = [assign (.Tuple es kt pt) X.env] := by rfl) (hln : (assignEach es X.env).length = is.length := by rfl) (hst : (assignEach es X.env).findIdx? (·.1) = none := by rfl) :
    DS X (.Assign [.Tuple es kt pt] (.Tuple vs k2 pt2) pos) (fParC is fs) := by
  obtain ⟨g, g1, g2⟩ := hn
  refine ps_imp (ps_asg (pe_tup ha) (pg_tup hc g1 hln hst) hs hw h1) ?_
  rintro D σ H ⟨G, ρ, o, R, hf, k⟩
  unfold fParC at hf
  split at hf
  · cases hf
  · rename_i as ρ1 e1
    split at hf
    · rename_i hlen
      cases hf
      refine ⟨G, ρ, ρ1, as, R, e1, fun us G1 H1 R1 s1 q1 => ?_⟩
      have lv := q1.len
      rw [hlen] at lv
      refine ⟨by rw [lv]; exact hz, fun p n => ⟨p, us, rfl, ?_, lv, g2 us σ _ _ lv ?_⟩⟩
      · exact .inl (.inl upd_same)
      · have x1 := Xt.more (p := p) (o := .tup us) R1.sub n
        have R2 := R1.ext x1
        have s2 := Sx.ext (σ := σ) (ρ := ρ1) x1
        obtain ⟨Rb, sb⟩ := CtRs.store hlen.symm R2 (s1.trans s2) (q1.map fun i b u _ _ z => z.keep s2)
        exact k _ G1 _ Rb sb
    · cases hf
end
end DL

set_option Elab.async false
set_option linter.all false
set_option maxRecDepth 100000
set_option maxHeartbeats 4000000
/-! xs.remove(x). -/
namespace DL
open PySem PySem.Spec PyProof.Rows L2 GX StX
variable [DL.FT]
theorem Vals.erase : ∀ {xs : List V} {us : List Value} (j : Nat), Vals xs us → Vals (xs.eraseIdx j) (us.eraseIdx j)
  | _, _, j, .nil => by simp; exact .nil
  | _, _, 0, .cons r h => by simpa using h
  | _, _, j + 1, .cons r h => by
    rw [List.eraseIdx_cons_succ, List.eraseIdx_cons_succ]
    exact .cons r (Vals.erase j h)
section
variable {X : Cx}
def rRemD (X : Cx) : V → List V → Hp → VK → Prop := fun x vs H Q => ∃ (G : Hp) (p : Addr) (xs : List V) (ds : List PyData) (d : PyData) (y : V) (j : Nat), x = .ref p ∧ Same G H ∧ H p = some (.lst xs) ∧ DaA X.K G xs ds ∧ vs = [y] ∧ Da X.K G y d ∧ flatD d = true ∧ ds.all flatD = true ∧ idxL d ds = some j ∧ Q .non (upd H p (.lst (xs.eraseIdx j)))
theorem mt_removeD : MtM X "list.remove" (rRemD X) := by
  intro pins s σ H x vs v us Q I rx rs h
  obtain ⟨G, p, xs, ds, d, y, j, rfl, sub, hp, ha, rfl, hy, fd, fs, hj, q⟩ := h
  obtain rfl : v = Value.ref p := rx
  obtain ⟨u, rfl, ru⟩ := rs.one
  obtain ⟨hz, its, n, rv, hl, e⟩ := I.lstM hp
  obtain ⟨j1, j2, j3⟩ := idx_facts hj
  have ll : its.length = ds.length := by rw [← hl, ha.len]
  obtain ⟨f, he, em⟩ := seen_flat (A := X.A.in1) (s := s) ru hy fd rv ha fs
  refine call_meets PySem.F.slot_list_remove ⟨_, e, rfl⟩ PySem.F.entry_list_remove (PySem.F.args_list_remove_2 _ _)
    (SeqAt.list_removeAt p its.toArray n none #[] u f j (by simp; omega) ?_ ?_ (by rw [List.size_toArray]; omega)) ⟨e, he, ?_⟩
  · have z := map_at em j (by omega) j1
    simpa [j2 j1] using z
  · intro m hm hmj
    have hm' : m < its.length := by simpa using hm
    have z := map_at em m hm' (by omega)
    rw [j3 m (by omega) hmj] at z
    simpa using z
  · refine ⟨.non, _, I.lset (its' := its.eraseIdx j) (t' := s.toks) hp e ?_ (Vals.erase j rv) ?_, rfl, q⟩
    · show its.toArray.eraseIdxIfInBounds j = (its.eraseIdx j).toArray
      rw [List.eraseIdxIfInBounds_toArray]
    · have z : (xs.eraseIdx j).length ≤ xs.length := by
        rw [List.length_eraseIdx]
        split <;> omega
      omega
end
def fRem (j : Nat) (f : EF) : SF := fun ρ => match ρ[j]? with
  | some (.own _ (.l _)) => match f ρ with
    | some (d, ρ1) => match ρ1[j]? with
      | some (.own b (.l ds)) => if (flatD d && ds.all flatD) = true then match idxL d ds with
          | some k => some (.nx (ρ1.set j (.own b (.l (ds.eraseIdx k)))))
          | none => none
        else none
      | _ => none
    | none => none
  | _ => none
section
variable {X : Cx}
theorem srem (j : Nat) {x : Str} {e : Expr} {f : EF} {p apos cpos pos : Pos} (he : DE X e f) (hN : X.N[j]? = some x := by rfl) (hv : Vis X.env.scope x := by first | exact Or.inl rfl | exact Or.inr (Or.inl rfl) | exact Or.inr (Or.inr rfl))
    (hd : (x == ("__debug__" : Str)) = false := by decide) (hcd : (x == ("__classdict__" : Str)) = false := by decide)
    (hbase : attributeBase (.Name x p) "remove" X.env (eval (.Name x p) X.env) = eval (.Name x p) X.env := by rfl)
    (hfew : ((backTo cpos (starEach [e] X.env)).all (fun x => !x.1) && (backToKw cpos (keywordEach [] X.env)).all (fun x => x.1.isSome)
      && decide ([e].length + ([] : List Keyword).length + (if ([] : List Keyword).isEmpty then 0 else 1) < 30)) = true := by rfl)
    (hline : (apos.endLine == cpos.line) = true := by rfl) (hs : starEach [e] X.env = (false, eval e X.env) :: starEach [] X.env := by rfl) (hplain : (backTo cpos (starEach [] X.env)).any (·.1) = false := by rfl)
    (hsw : swapsWith (.Call (.Attribute (.Name x p) "remove" apos) [e] [] cpos) none pos.line X.env = pure false := by rfl) :
    DS X (.Expr (.Call (.Attribute (.Name x p) "remove" apos) [e] [] cpos) pos) (fRem j f) := by
  refine ps_imp (ps_expr (pe_bm PySem.F.plainAttrs_list PySem.F.slot_list_remove PySem.F.type_list_remove mt_removeD (pe_var hN hv hd hcd) (pa_cons he pa_nil hs) hbase hfew hline hs hplain) hsw) ?_
  rintro D σ H ⟨G, ρ, o, R, hf, k⟩
  unfold fRem at hf
  split at hf
  · rename_i b0 ds0 e0
    split at hf
    · rename_i d ρ1 h1
      split at hf
      · rename_i b ds e1
        split at hf
        · rename_i hz
          split at hf
          · rename_i kk hk
            cases hf
            rw [Bool.and_eq_true] at hz
            obtain ⟨q, xs0, ep, hp0, _⟩ := R.ownL e0
            refine ⟨_, ep, .inl ⟨rfl, _, SqL.of hp0⟩, ⟨G, ρ, ρ1, d, R, h1, fun v G1 H1 R1 s1 q1 => ?_⟩⟩
            obtain ⟨q', xs, ep', hp, gp, ha⟩ := R1.ownL e1
            rw [ep] at ep'
            cases ep'
            obtain ⟨R2, s2⟩ := R1.mutate (es := ds.eraseIdx kk) e1 ep (DaA.erase kk ha)
            exact ⟨G1, q, xs, ds, d, v, kk, rfl, R1.sub, hp, ha, rfl, q1, hz.1, hz.2, hk, k _ _ _ R2 (s1.trans s2)⟩
          · cases hf
        · cases hf
      · cases hf
    · cases hf
  · cases hf
end
end DL

set_option Elab.async false
set_option linter.all false
set_option maxRecDepth 100000
set_option maxHeartbeats 4000000
/-! A box and a list at a def's beginning; the lines of a box as a tuple. -/
namespace DL
open PySem PySem.Spec PyProof.Rows L2 GX StX BX
variable [DL.FT]
def NewH (m : Nat) (g : SF) (d : PyData) (sls : List Sl) : Prop := allDat sls ∧ ∃ (u1 : PyData) (n1 : Int), sls[0]? = some (.dat (.tuple [.int n1, u1])) ∧ (0 ≤ n1 ∧ n1 ≤ 1000) ∧ ∀ (p q r0 : Addr), ∃ ρ', g (sls ++ .own false (.b p q [r0] [0] [nones n1]) :: .own false (.l []) :: List.replicate m .un) = some (.rt d ρ')
open Classical in
noncomputable def fNewH (m : Nat) (g : SF) : FF := fun sls => if h : ∃ d, NewH m g d sls then some (Classical.choose h, List.replicate sls.length .un) else none
theorem newH_one {m : Nat} {g : SF} {d d' : PyData} {sls : List Sl} (h : NewH m g d sls) (h' : NewH m g d' sls) : d = d' := by
  obtain ⟨_, u1, n1, e, _, k⟩ := h
  obtain ⟨_, u1', n1', e', _, k'⟩ := h'
  rw [e] at e'
  simp only [Option.some.injEq, Sl.dat.injEq, PyData.tuple.injEq, List.cons.injEq, PyData.int.injEq, and_true] at e'
  obtain ⟨rfl, _⟩ := e'
  obtain ⟨s1, a⟩ := k 0 0 0
  obtain ⟨s2, b⟩ := k' 0 0 0
  rw [a] at b
  cases b
  rfl
theorem fNewH_eq {m : Nat} {g : SF} {d : PyData} {sls : List Sl} (h : NewH m g d sls) : fNewH m g sls = some (d, List.replicate sls.length .un) := by
  unfold fNewH
  rw [dif_pos ⟨d, h⟩]
  exact congrArg (fun z => some (z, List.replicate sls.length Sl.un)) (newH_one (Classical.choose_spec (⟨d, h⟩ : ∃ d, NewH m g d sls)) h)
theorem fNewH_of {m : Nat} {g : SF} {d : PyData} {sls sls' : List Sl} (h : fNewH m g sls = some (d, sls')) : NewH m g d sls ∧ sls' = List.replicate sls.length .un := by
  unfold fNewH at h
  split at h
  · rename_i h2
    cases h
    exact ⟨Classical.choose_spec h2, rfl⟩
  · cases h
theorem pure_newH {w : World} {K : PySem.W.Frag} {n m : Nat} {N : List Str} {g : SF} {tx : Str} (hN : N.length = n + (m + 2)) (vs : List V) (H : Hp) (Q : VK) (E : XK) (h : spD w K n (fNewH m g) vs H Q E) :
    tSeq (tPar n (n + 1) (tCons (tCall (spBoxG K) [] E0 (tCons (tTup (tCons (tC (.str tx)) (tCons (tVar 0) tNil))) tNil)) (tCons (tLst tNil) tNil))) (rS w K g) { nx := fun _ H' => Q .non H', rt := Q } (start N vs) H := by
  obtain ⟨hl, G, sls, sls', d, R, hf, k⟩ := h
  obtain ⟨⟨ad, u1, n1, e0, b1, kk⟩, rfl⟩ := fNewH_of hf
  have hls : vs.length = sls.length := by have := R.len; rwa [List.length_map] at this
  have es : start N vs = vs.map some ++ List.replicate (m + 2) none := by
    show vs.map some ++ List.replicate (N.length - vs.length) none = _
    rw [hl, hN]
    congr 2
    omega
  have R0 : Rl w K G (vs.map some ++ List.replicate (m + 2) none) (sls ++ List.replicate (m + 2) .un) H := by
    refine R.alike (by simp [hls]) fun i s hs h => ?_
    have z := app_un hs h
    have li : i < sls.length := (List.getElem?_eq_some_iff.mp z).1
    exact ⟨z, by rw [List.getElem?_append_left (by simp [hls, li])]⟩
  rw [es]
  have ln : n = sls.length := hl.symm.trans hls
  have rl := R.sub
  obtain ⟨v0, ev, hv⟩ := R.dat e0
  have l0 : 0 < sls.length := (List.getElem?_eq_some_iff.mp e0).1
  have ev0 : (vs.map some ++ List.replicate (m + 2) none)[0]? = some (some v0) := by
    rw [List.getElem?_append_left (by simp [hls, l0])]
    exact ev
  cases hv with
  | @tup _ t1 as1 _ ht1 hat1 =>
    cases hat1 with
    | @cons _ a1 _ _ _ ha1 hat1 =>
      cases hat1 with
      | @cons _ c1 _ _ _ hc1 hat1 =>
        cases hat1
        cases ha1
        refine ⟨_, ev0, by show (2 : Nat) ≤ sizeLine; rw [sizeLine_eq]; omega, fun pt hpt => ?_⟩
        have f0 : Fr [] H (upd H pt (.tup [.str tx, .ref t1])) := Fr.upd (.inr hpt)
        refine .inl ⟨pt, t1, .str tx, c1, n1, rfl, .inl (.inl upd_same), sqT_fr (ht1.same rl).sq f0 (by simp), b1, fun b p q r0 H1 NB => ?_⟩
        refine ⟨by show (0 : Nat) ≤ sizeLine; omega, fun a ha => ?_⟩
        have f1 : Fr [] H H1 := f0.trans NB.fr
        have hn : ∀ c ∈ b :: p :: q :: [r0], H c = none := fun c hc => f0.free (NB.new c hc)
        obtain ⟨R1, s1⟩ := new_hold (i := n) R0 f1 NB.bx hn
        have x1 := Xt.more (p := a) (o := .lst []) R1.sub ha
        have R2 := R1.ext x1
        have s2 := s1.trans (Sx.ext x1)
        have na : H a = none := f1.free ha
        have R3 := R2.holdC (i := n + 1) (p := a) (ds := .l []) (reg_one (Same.free R1.sub ha)) (reg_one (noOw R1 ha)) ⟨[], upd_same, .nil⟩
        have s3 := Sx.holdC2 (i := n + 1) (p := a) (ds := .l []) s2 (reg_one na)
        refine ⟨.ref b, .ref a, rfl, ?_⟩
        obtain ⟨ρ', eg⟩ := kk p q r0
        have er : ((sls ++ List.replicate (m + 2) Sl.un).set n (.own false (.b p q [r0] [0] [nones n1]))).set (n + 1) (.own false (.l [])) = sls ++ .own false (.b p q [r0] [0] [nones n1]) :: .own false (.l []) :: List.replicate m .un := by
          rw [ln, List.set_append_right _ _ (Nat.le_refl _), Nat.sub_self, List.set_append_right _ _ (Nat.le_succ _), show sls.length + 1 - sls.length = 1 by omega]
          rfl
        rw [er] at R3 s3
        refine ⟨G, _, .rt d ρ', R3, eg, fun σ' v G' H' R' s' hd => ?_⟩
        obtain ⟨z1, z2⟩ := fin_of (m := m + 2) hls R' (s3.trans s')
        have un : ∀ (i : Nat) (s : Sl), s ≠ Sl.un → (List.replicate sls.length Sl.un)[i]? = some s → (backP sls.length ρ')[i]? = some s ∧ (vs.map some)[i]? = (vs.map some)[i]? := fun i s hs h => (hs (not_un h)).elim
        exact k v G' H' (z1.alike (by simp [hls]) un) (z2.trans (Sx.alike un)) hd
section
variable {X : Cx}
/-- tuple(box[1][a]) -/
def fBoxT (i a : Nat) : EF := fun ρ => match ρ[i]? with
  | some (.own _ (.b _ _ _ _ ls)) => match ls[a]? with
    | some l => some (.tuple (l.map oD), ρ)
    | none => none
  | _ => none
theorem de_boxT (i a : Nat) {e : Expr} (h : PE X e (tCB (rTupN X.K) (tCons (tOp (rIxL X.K) (tOp (rIxL X.K) (tVar i) (tC (.int 1))) (tC (.int a))) tNil))) : DE X e (fBoxT i a) := by
  refine pe_imp h ?_
  rintro σ H Q ⟨G, ρ, ρ', d, R, hf, k⟩
  unfold fBoxT at hf
  split at hf
  · rename_i c p q rs ss ls e0
    split at hf
    · rename_i l el
      cases hf
      obtain ⟨b, eb, _, B⟩ := R.own e0
      have al : a < ls.length := (List.getElem?_eq_some_iff.mp el).1
      obtain ⟨r, hr⟩ : ∃ r, rs[a]? = some r := ⟨_, List.getElem?_eq_getElem (by rw [B.l1]; exact al)⟩
      have eR : atI (rs.map V.ref) (a : Int) = some (.ref r) := atI_map' _ _ hr
      refine ⟨_, eb, b, _, 1, _, rfl, rfl, SqL.of B.hb, rfl, q, _, _, _, rfl, rfl, SqL.of B.hq, eR, ?_⟩
      exact ⟨r, _, rfl, .inl ⟨SqL.of (B.hr a r l hr el), fun t o n od => k _ _ _ (R.ext (Xt.new R.sub n)) (Sx.ext (Xt.new R.sub n)) (newT (Same.free R.sub n) od (ovs_da l))⟩⟩
    · cases hf
  · cases hf
end
end DL

set_option Elab.async false
set_option linter.all false
set_option maxRecDepth 100000
set_option maxHeartbeats 4000000
/-! t[::-1]. -/
namespace DL
open PySem PySem.Spec PyProof.Rows L2 GX StX
section
variable {prog : Program} {w : World} {A : Around} {E : Value → Shared → Prop} {s : Shared}
theorem adj_rev (n : Nat) : Builtin.Slice.sliceAdjust none none (-1) (n : Int) = ((n : Int) - 1, -1) := rfl
theorem places_rev (n : Nat) : Builtin.Slice.slicePlaces ((n : Int) - 1) (-1) (-1) = n := by
  unfold Builtin.Slice.slicePlaces
  have h1 : ¬ ((-1 : Int) > 0) := by omega
  rw [if_neg h1]
  have h2 : (-(-1) : Int) = 1 := rfl
  rw [h2, Int.ediv_one]
  split <;> omega
theorem applied_rev {sl : Addr} {vl vu vs : Value} {n : Nat} {Q : Int × Int × Nat → Shared → Prop} (hs : s.heap.IsSliceOf sl vl vu vs) (pl : IsPart vl none) (pu : IsPart vu none) (ps : IsPart vs (some (-1)))
    (h : Q ((n : Int) - 1, -1, n) s) : wpAny (model prog w) A (Builtin.Slice.sliceApplied (.ref sl) (pure (n : Int))) Q E s := by
  obtain ⟨os, hos, hcs, hds⟩ := id hs
  unfold Builtin.Slice.sliceApplied Builtin.Slice.sliceFields
  refine wpAny_bind (wpAny_bind (wpAny_field hos hds (x := vl) rfl (wpAny_bind (wpAny_field hos hds (x := vu) rfl (wpAny_bind (wpAny_field hos hds (x := vs) rfl (wpAny_pure ?_)))))))
  refine wpAny_bind (HT.slicePart_ ps ?_)
  show wpAny _ _ (if ((-1 : Int) == 0) = true then _ else _) _ _ s
  rw [if_neg (by decide)]
  refine wpAny_bind (HT.slicePart_ pl (wpAny_bind (HT.slicePart_ pu (wpAny_bind (wpAny_pure ?_)))))
  show wpAny _ _ (match Builtin.Slice.sliceAdjust none none (-1) (n : Int) with | (lo, hi) => pure (lo, (-1 : Int), Builtin.Slice.slicePlaces lo hi (-1))) _ _ s
  rw [adj_rev n]
  show wpAny _ _ (pure ((n : Int) - 1, (-1 : Int), Builtin.Slice.slicePlaces ((n : Int) - 1) (-1) (-1))) _ _ s
  rw [places_rev]
  exact wpAny_pure h
theorem pick_rev (xs : Array Value) : ((List.range xs.size).filterMap fun (m : Nat) => xs[(((xs.size : Int) - 1) + (m : Int) * (-1)).toNat]?).toArray = xs.toList.reverse.toArray := by
  have e1 : (List.range xs.size).filterMap (fun (m : Nat) => xs[(((xs.size : Int) - 1) + (m : Int) * (-1)).toNat]?) = ((List.range xs.size).map fun k => xs.size - 1 - k).filterMap (xs[·]?) := by
    rw [List.filterMap_map]
    have go : ∀ l : List Nat, (∀ m ∈ l, m < xs.size) → l.filterMap (fun (m : Nat) => xs[(((xs.size : Int) - 1) + (m : Int) * (-1)).toNat]?) = l.filterMap ((xs[·]?) ∘ fun k => xs.size - 1 - k) := by
      intro l
      induction l with
      | nil => intro _; rfl
      | cons m l ih =>
        intro h
        have hm := h m (by simp)
        have e : (((xs.size : Int) - 1) + (m : Int) * (-1)).toNat = xs.size - 1 - m := by omega
        rw [List.filterMap_cons, List.filterMap_cons, ih fun k hk => h k (by simp [hk]), e]
        rfl
    exact go _ fun m hm => List.mem_range.mp hm
  rw [e1, PySem.W.krv_range, List.filterMap_reverse, PySem.W.krv_all]
theorem getItem_tuple_rev {t sl : Addr} {items : Array Value} {vl vu vs : Value} {Q : Value → Shared → Prop} (ht : IsTup s.heap t items) (hs : s.heap.IsSliceOf sl vl vu vs) (pl : IsPart vl none) (pu : IsPart vu none) (ps : IsPart vs (some (-1)))
    (h : Q (.ref s.heap.objs.size) { s with heap := s.heap.push { cls := .type "tuple", data := .seq items.toList.reverse.toArray } })
    (hsz : items.size ≤ sizeLine) : wpAny (model prog w) A (getItem (.ref t) (.ref sl)) Q E s := by
  have htake : sizeOk (.seq items.toList.reverse.toArray) := by
    show items.toList.reverse.toArray.size ≤ sizeLine
    rw [List.size_toArray, List.length_reverse, Array.length_toList]
    exact hsz
  obtain ⟨os, hos, hcs, hds⟩ := id hs
  have hTs : s.TypeIs (.ref sl) "slice" := ⟨os, hos, hcs⟩
  unfold getItem
  try with_reducible refine wpAny_holding ?_
  first | refine wpAny_bind (wpAny_pure ?_) | skip
  refine wpAny_bind (wpAny_sequenceKey ht.typeIs (by decide) ?_)
  refine wpAny_bind (wpAny_callSpecial?_slot (name := Str.ofString "__getitem__") ht.typeIs PyProof.Rows.slot_tuple_getitem
    (wpAny_call_entry PyProof.Rows.slot_tuple_getitem ht.typeIs entry_tuple_getitem ?_ (args_tuple_getitem _ _)))
  show wpAny _ _ (Builtin.Tuple.tupleItemsOf (.ref t) >>= _) _ _ s
  refine wpAny_bind (tupleItemsOf_ ht ?_)
  refine wpAny_bind (wpAny_typeOf hTs ?_)
  rw [if_pos (by decide)]
  refine wpAny_bind (applied_rev hs pl pu ps ?_)
  have hno : ¬ ((((items.size : Int) - 1) == 0 && (-1 : Int) == 1 && items.size == items.size) = true) := by
    intro q
    rw [Bool.and_eq_true, Bool.and_eq_true] at q
    exact absurd (eq_of_beq q.1.2) (by decide)
  show wpAny _ _ (if (((items.size : Int) - 1) == 0 && (-1 : Int) == 1 && items.size == items.size) = true then _ else _) _ _ s
  rw [if_neg hno, pick_rev]
  first
    | exact wpAny_bind (m := Builtin.Tuple.tupleExact _) (wpAny_newObj_type (wpAny_pure ⟨_, rfl, wpAny_pure h⟩) htake)
    | exact wpAny_bind (m := Builtin.Tuple.tupleExact _) (wpAny_newObj_type (wpAny_bind (wpAny_pure (wpAny_pure ⟨_, rfl, wpAny_pure h⟩))) htake)
    | exact wpAny_bind (wpAny_bind (m := Builtin.Tuple.tupleExact _) (wpAny_newObj_type (wpAny_pure (wpAny_pure ⟨_, rfl, wpAny_pure h⟩)) htake))
    | exact wpAny_bind (wpAny_bind (m := Builtin.Tuple.tupleExact _) (wpAny_newObj_type (wpAny_pure ⟨_, rfl, wpAny_pure h⟩) htake))
end
variable [DL.FT]
section
variable {X : Cx}
def tRevT (K : PySem.W.Frag) (te : TE) : TE := fun σ H Q => te σ H fun x H1 => ∃ a xs, x = .ref a ∧ SqT K H1 a xs ∧ NewT H1 xs.reverse Q
theorem pe_revT {e : Expr} {te : TE} {k : Nat} {p1 p2 p3 pos : Pos} (he : PE X e te) : PE X (.Subscript e (.Slice none none (some (.UnaryOp .USub (.Constant (.int 1) k p1) p2)) p3) pos) (tRevT X.K te) := by
  refine ⟨fun pins s σ H Q I h => ?_⟩
  refine Subscript_ (thn (he.run pins s σ H _ I h) fun v s1 ⟨x, H1, I1, r1, q1⟩ => ?_)
  obtain ⟨a, xs, ex, hx, q⟩ := q1
  subst ex
  cases r1
  have hst : PO X (some (.UnaryOp .USub (.Constant (.int 1) k p1) p2)) (tPart (tUn (rU fun i => .int (-i)) (tC (.int 1)))) := po_some (pe_un un_neg pe_int)
  refine wpAny_Slice (thn (po_none.run pins s1 σ H1 (fun o H2 => o = none ∧ H2 = H1) I1 ⟨rfl, rfl⟩) fun vl s2 ⟨l, H2, I2, pl, el, e2⟩ => ?_)
  subst el e2
  refine thn (po_none.run pins s2 σ H2 (fun o H3 => o = none ∧ H3 = H2) I2 ⟨rfl, rfl⟩) fun vu s3 ⟨u, H3, I3, pu, eu, e3⟩ => ?_
  subst eu e3
  refine thn (hst.run pins s3 σ H3 (fun o H4 => o = some (-1) ∧ H4 = H3) I3 ⟨1, rfl, -1, rfl, rfl, rfl⟩) fun vs s4 ⟨o, H4, I4, ps, eo, e4⟩ => ?_
  subst eo e4
  have I5 : Inv X pins σ H4 { s4 with heap := s4.heap.push { cls := .type "slice", data := .fields #[vl, vu, vs] } } := I4.kept (t' := s4.toks) fun b ob q => Heap.get?_push_of_some _ q
  obtain ⟨its, r, ht, hz⟩ := I5.tuple hx
  have hlen := r.length
  show wpAny (model X.prog X.w) X.A (subscriptTail e (.Slice none none (some (.UnaryOp .USub (.Constant (.int 1) k p1) p2)) p3) (.ref a) (.ref s4.heap.objs.size)) (EP X pins σ Q) X.xe { s4 with heap := s4.heap.push { cls := .type "slice", data := .fields #[vl, vu, vs] } }
  refine tail_any (ops := [.ref a, .ref s4.heap.objs.size]) ht.typeIs (PyProof.Rows.slot_tuple_getitem.lookup) ?_ (by with_unfolding_all rfl)
  refine getItem_tuple_rev ht (Heap.IsSliceOf.new _ vl vu vs) pl pu ps ?_ (by rw [List.size_toArray]; omega)
  exact laidT (us := its.reverse) (t' := s4.toks) I5 r.reverse (by rw [List.length_reverse]; exact hz) q
theorem DaA.revT {K : PySem.W.Frag} {G : Hp} {ds : List PyData} {vs : List V} (h : DaA K G vs ds) : DaA K G vs.reverse ds.reverse := h.rev
def fRevT (f : GF) : EF := fun ρ => match f ρ with
  | some (a, ρ1) => match look ρ1 a with
    | some (.tuple ds) => some (.tuple ds.reverse, ρ1)
    | _ => none
  | none => none
theorem de_revT {e : Expr} {f : GF} {k : Nat} {p1 p2 p3 pos : Pos} (he : DG X e f) : DE X (.Subscript e (.Slice none none (some (.UnaryOp .USub (.Constant (.int 1) k p1) p2)) p3) pos) (fRevT f) := by
  refine pe_imp (pe_revT he) ?_
  rintro σ H Q ⟨G, ρ, ρ', d, R, hf, kk⟩
  unfold fRevT at hf
  split at hf
  · rename_i a ρ1 h1
    split at hf
    · rename_i ds h2
      cases hf
      refine ⟨G, ρ, _, a, R, h1, fun v G1 H1 R1 s1 q1 => ?_⟩
      obtain ⟨q, xs, rfl, hp, ha⟩ := bo_tup (look_bo R1 q1 h2)
      exact ⟨q, xs, rfl, (hp.same R1.sub).sq, fun p o n od => kk _ _ _ (R1.ext (Xt.new R1.sub n)) (s1.trans (.ext (Xt.new R1.sub n))) (newT (Same.free R1.sub n) od ha.rev)⟩
    · cases hf
  · cases hf
end
end DL

set_option Elab.async false
set_option linter.all false
set_option maxRecDepth 100000
set_option maxHeartbeats 4000000
/-! An own list is walked, and goes on. -/
namespace DL
open PySem PySem.Spec PyProof.Rows L2 GX StX
variable [DL.FT]
/-- not known for good any more -/
def del (G : Hp) (p : Addr) : Hp := fun b => if b = p then none else G b
theorem del_at {G : Hp} {p : Addr} : del G p p = none := if_pos rfl
theorem del_ne {G : Hp} {p b : Addr} (h : b ≠ p) : del G p b = G b := if_neg h
theorem del_some {G : Hp} {p b : Addr} {o : HO} (h : del G p b = some o) : b ≠ p ∧ G b = some o := by
  by_cases c : b = p
  · subst c; rw [del_at] at h; cases h
  · rw [del_ne c] at h; exact ⟨c, h⟩
mutual
def flT : PyData → Bool
  | .list _ => false
  | .dict _ => false
  | .tuple ds => flTs ds
  | _ => true
def flTs : List PyData → Bool
  | [] => true
  | d :: ds => flT d && flTs ds
end
theorem tp_del {K : PySem.W.Frag} {G : Hp} {p a : Addr} {xs ys : List V} (hp : G p = some (.lst ys)) (h : TpN K G a xs) : TpN K (del G p) a xs := by
  rcases h with ⟨o, h, z⟩ | h
  · exact .inl ⟨o, by rw [del_ne (fun e => by rw [e, hp] at h; cases h)]; exact h, z⟩
  · exact .inr h
mutual
theorem da_del {K : PySem.W.Frag} {G : Hp} {p : Addr} {ys : List V} (hp : G p = some (.lst ys)) : ∀ {d : PyData} {v : V}, Da K G v d → flT d = true → Da K (del G p) v d
  | .none, _, h, _ => by cases h; exact .non
  | .bool _, _, h, _ => by cases h; exact .bl _
  | .int _, _, h, _ => by cases h; exact .int _
  | .str _, _, h, _ => by cases h; exact .str _
  | .list _, _, _, c => by simp [flT] at c
  | .dict _, _, _, c => by simp [flT] at c
  | .tuple ds, _, h, c => by
    cases h with
    | tup hs ha => exact .tup (tp_del hp hs) (das_del hp ha (by simpa [flT] using c))
theorem das_del {K : PySem.W.Frag} {G : Hp} {p : Addr} {ys : List V} (hp : G p = some (.lst ys)) : ∀ {ds : List PyData} {vs : List V}, DaA K G vs ds → flTs ds = true → DaA K (del G p) vs ds
  | [], _, h, _ => by cases h; exact .nil
  | d :: ds, _, h, c => by
    rw [flTs, Bool.and_eq_true] at c
    cases h with
    | cons h1 h2 => exact .cons (da_del hp h1 c.1) (das_del hp h2 c.2)
end
/-- the slots behind: what was a datum is as it was, the own lists hold plain things -/
def mrgS : Sl → Sl → Option Sl
  | .own b c, .own b' (.l es) => if flTs es = true then some (.own b' (.l es)) else none
  | .own b c, .own b' (.b p q rs ss ls) => some (.own b' (.b p q rs ss ls))
  | .own _ _, _ => none
  | s, _ => some s
def mrg : Rho → Rho → Option Rho
  | [], [] => some []
  | s :: ρ, s' :: ρ' => match mrgS s s', mrg ρ ρ' with
    | some t, some r => some (t :: r)
    | _, _ => none
  | _, _ => none
theorem mrg_at : ∀ {ρ ρ' r : Rho}, mrg ρ ρ' = some r → ρ.length = r.length ∧ ρ'.length = r.length ∧ ∀ (j : Nat) (t : Sl), r[j]? = some t → ∃ s s', ρ[j]? = some s ∧ ρ'[j]? = some s' ∧ mrgS s s' = some t
  | [], [], _, h => by cases h; exact ⟨rfl, rfl, fun j t e => by simp at e⟩
  | [], _ :: _, _, h => by cases h
  | _ :: _, [], _, h => by cases h
  | s :: ρ, s' :: ρ', r, h => by
    unfold mrg at h
    split at h
    · rename_i t r' e1 e2
      cases h
      obtain ⟨l1, l2, k⟩ := mrg_at e2
      refine ⟨by simp [l1], by simp [l2], fun j u e => ?_⟩
      cases j with
      | zero => simp at e; subst e; exact ⟨s, s', rfl, rfl, e1⟩
      | succ j => simpa using k j u (by simpa using e)
    · cases h
/-- an own list is given for a while -/
def fThaw (i : Nat) (h : LF) : LF := fun ρ => match ρ[i]? with
  | some (.own b (.l ds)) => match h (ρ.set i (.dat (.list ds))) with
    | some (es, ρ') => if flTs es = true then match mrg (ρ.set i (.dat (.list ds))) ρ' with
        | some r => some (es, r.set i (.own b (.l ds)))
        | none => none
      else none
    | none => none
  | _ => none
section
variable {ww : World} {K : PySem.W.Frag} {G H G2 H2 : Hp} {σ : L2.St} {ρ ρ' r : Rho} {i : Nat} {b : Bool} {ds : List PyData} {p : Addr} {xs : List V}
theorem set_at {ρ : Rho} {i j : Nat} {s t : Sl} (h : (ρ.set i s)[j]? = some t) : (j = i ∧ s = t) ∨ (j ≠ i ∧ ρ[j]? = some t) := by
  by_cases c : j = i
  · subst c
    have hl : j < ρ.length := by
      have := (List.getElem?_eq_some_iff.mp h).1
      simpa using this
    rw [List.getElem?_set_self hl] at h
    exact .inl ⟨rfl, Option.some.inj h⟩
  · rw [List.getElem?_set_ne (Ne.symm c)] at h
    exact .inr ⟨c, h⟩
/-- the list is taken back -/
theorem thaw (R : Rl ww K G σ ρ H) (h : ρ[i]? = some (.own b (.l ds))) (ep : σ[i]? = some (some (.ref p))) (hp : H p = some (.lst xs)) (gp : G p = none) (hd : DaA K G xs ds)
    {G1 : Hp} (s1 : Sx G σ ρ H G1 σ (ρ.set i (.dat (.list ds))) H) (g1p : G1 p = some (.lst xs))
    (R2 : Rl ww K G2 σ ρ' H2) (s2 : Sx G1 σ (ρ.set i (.dat (.list ds))) H G2 σ ρ' H2) (hm : mrg (ρ.set i (.dat (.list ds))) ρ' = some r) :
    Rl ww K (del G2 p) σ (r.set i (.own b (.l ds))) H2 ∧ Sx G σ ρ H (del G2 p) σ (r.set i (.own b (.l ds))) H2 ∧ G2 p = some (.lst xs) ∧ ∀ c, Ow σ (r.set i (.own b (.l ds))) c → c = p ∨ Ow σ ρ' c := by
  have g2p : G2 p = some (.lst xs) := s2.gr p _ g1p
  have h2p : H2 p = some (.lst xs) := R2.sub p _ g2p
  obtain ⟨l1, l2, mt⟩ := mrg_at hm
  have sg : Same G (del G2 p) := fun c o e => by
    have hc : c ≠ p := fun z => by rw [z, gp] at e; cases e
    rw [del_ne hc]
    exact s2.gr c o (s1.gr c o e)
  have li : i < ρ.length := (List.getElem?_eq_some_iff.mp h).1
  -- what stands in a slot
  have look : ∀ {j : Nat} {t : Sl}, (r.set i (.own b (.l ds)))[j]? = some t → (j = i ∧ t = .own b (.l ds)) ∨ (j ≠ i ∧ ∃ s s', ρ[j]? = some s ∧ ρ'[j]? = some s' ∧ mrgS s s' = some t) := fun {j t} e => by
    rcases set_at e with ⟨z1, z2⟩ | ⟨z1, z2⟩
    · exact .inl ⟨z1, z2.symm⟩
    · obtain ⟨s, s', e1, e2, e3⟩ := mt j t z2
      rcases set_at e1 with ⟨y, _⟩ | ⟨_, y⟩
      · exact (z1 y).elim
      · exact .inr ⟨z1, s, s', y, e2, e3⟩
  have own1 : ∀ {j : Nat} {b' : Bool} {c : Cn}, (r.set i (.own b (.l ds)))[j]? = some (.own b' c) → j ≠ i → ρ'[j]? = some (.own b' c) ∧ (∃ b'' c', ρ[j]? = some (.own b'' c')) ∧ ((∃ es, c = .l es ∧ flTs es = true) ∨ ∃ p q rs ss ls, c = .b p q rs ss ls) := fun {j b' c} e n => by
    rcases look e with ⟨z, _⟩ | ⟨_, s, s', e1, e2, e3⟩
    · exact (n z).elim
    · cases s with
      | un => simp [mrgS] at e3
      | dat d => simp [mrgS] at e3
      | scr ns => simp [mrgS] at e3
      | own b0 c0 =>
        cases s' with
        | un => simp [mrgS] at e3
        | dat d => simp [mrgS] at e3
        | scr ns => simp [mrgS] at e3
        | own b1 c1 =>
          cases c1 with
          | l es =>
            unfold mrgS at e3
            dsimp only at e3
            split at e3
            · rename_i hf
              cases e3
              exact ⟨e2, ⟨_, _, e1⟩, .inl ⟨_, rfl, hf⟩⟩
            · cases e3
          | k kvs => simp [mrgS] at e3
          | d kvs => simp [mrgS] at e3
          | b p1 q1 rs ss ls =>
            have e4 : some (Sl.own b1 (.b p1 q1 rs ss ls)) = some (.own b' c) := e3
            cases e4
            exact ⟨e2, ⟨_, _, e1⟩, .inr ⟨_, _, _, _, _, rfl⟩⟩
  have ownP : ∀ {j : Nat} {b' : Bool} {c : Cn} {q a : Addr}, ρ'[j]? = some (.own b' c) → σ[j]? = some (some (.ref q)) → a ∈ reg q c → a ≠ p := fun {j b' c q a} e1 e2 ha z => by
    obtain ⟨q', e3, eg, _⟩ := R2.own e1
    rw [e2] at e3
    cases e3
    have := eg a ha
    rw [z, g2p] at this
    cases this
  have lr : (r.set i (.own b (.l ds))).length = r.length := List.length_set ..
  have lρ : ρ.length = r.length := by rw [← l1, List.length_set]
  refine ⟨⟨by rw [lr, ← lρ]; exact R.len, fun c o e => R2.sub c o (del_some e).2, fun {j d} e => ?_, fun {j b' c} e => ?_, fun {j k c c' es fs p1 q1 a} h1 h2 h3 h4 h5 h6 => ?_, fun {j ns} e => ?_, ?_⟩, ⟨sg, fun c n => ?_, fun c o e t no => ?_, fun c o => ?_, s2.al, fun j es e => ?_⟩, g2p, fun c o => ?_⟩
  · rcases look e with ⟨_, z⟩ | ⟨n, s, s', e1, e2, e3⟩
    · cases z
    · have hs : s = .dat d := by
        unfold mrgS at e3
        split at e3
        · split at e3 <;> cases e3
        · cases e3
        · cases e3
        · exact Option.some.inj e3
      subst hs
      obtain ⟨v, ev, hv⟩ := R.dat e1
      exact ⟨v, ev, hv.same sg⟩
  · by_cases n : j = i
    · subst n
      rcases look e with ⟨_, z⟩ | ⟨n, _⟩
      · cases z
        refine ⟨p, ep, reg_one del_at, xs, h2p, hd.same sg⟩
      · exact (n rfl).elim
    · obtain ⟨e1, _, hc⟩ := own1 e n
      obtain ⟨q, eq, eg, cr⟩ := R2.own e1
      refine ⟨q, eq, fun a ha => ?_, ?_⟩
      · rw [del_ne (ownP e1 eq ha)]
        exact eg a ha
      · rcases hc with ⟨es, rfl, hf⟩ | ⟨p', q', rs, ss, ls, rfl⟩
        · obtain ⟨ys, hy, da⟩ := cr
          exact ⟨ys, hy, das_del g2p da hf⟩
        · exact cr
  · by_cases n : j = i <;> by_cases n' : k = i
    · omega
    · obtain ⟨e1, _, _⟩ := own1 h2 n'
      subst n
      rcases look h1 with ⟨_, z⟩ | ⟨n, _⟩
      · cases z
        rw [ep] at h3
        cases h3
        simp only [reg, List.mem_singleton] at h5
        exact (ownP e1 h4 h6 h5).elim
      · exact (n rfl).elim
    · obtain ⟨e1, _, _⟩ := own1 h1 n
      subst n'
      rcases look h2 with ⟨_, z⟩ | ⟨n, _⟩
      · cases z
        rw [ep] at h4
        cases h4
        simp only [reg, List.mem_singleton] at h6
        exact (ownP e1 h3 h5 h6).elim
      · exact (n rfl).elim
    · obtain ⟨e1, _, _⟩ := own1 h1 n
      obtain ⟨e2, _, _⟩ := own1 h2 n'
      exact R2.dis e1 e2 h3 h4 h5 h6
  · rcases look e with ⟨_, z⟩ | ⟨n, s, s', e1, e2, e3⟩
    · cases z
    · have hs : s = .scr ns := by
        unfold mrgS at e3
        split at e3
        · split at e3 <;> cases e3
        · cases e3
        · cases e3
        · exact Option.some.inj e3
      subst hs
      obtain ⟨q, eq, hq⟩ := R.scr e1
      refine ⟨q, eq, ?_⟩
      rcases hq with ⟨o, hq⟩ | hq
      · refine .inl ⟨o, s2.fr q _ hq (fun _ z => nomatch z) fun ⟨k, c, fs, r1, y1, y2, y3⟩ => ?_⟩
        obtain ⟨r2, y4, _, y5⟩ := (show ∃ r2, σ[k]? = some (some (.ref r2)) ∧ (∀ a ∈ reg r2 fs, G a = none) ∧ Cr ww K G H r2 fs from by
          rcases set_at y1 with ⟨_, z⟩ | ⟨_, z⟩
          · cases z
          · exact R.own z)
        rw [y2] at y4
        cases y4
        exact y5.nf y3 o _ hq
      · exact .inr hq
  · exact fun P' hP' => by
      obtain ⟨g, ps, t1, t2, t3⟩ := R2.tb P' hP'
      refine ⟨by by_cases z : P'.1 = p; · rw [z]; exact del_at
                 · rw [del_ne z]; exact g, ps, t1, t2, fun pos cv hcv => ?_⟩
      obtain ⟨c, e1, e2⟩ := t3 pos cv hcv
      exact ⟨c, e1, by rw [del_ne (fun z => by rw [z, g2p] at e2; cases e2)]; exact e2⟩
  · have hc : c ≠ p := fun z => n (by rw [z]; exact del_at)
    rw [del_ne hc] at n
    rcases s2.new c n with z | z | ⟨k, c', fs, r1, y1, y2, y3⟩
    · exact s1.new c z
    · exact .inr (.inl z)
    · rcases set_at y1 with ⟨_, z⟩ | ⟨_, z⟩
      · cases z
      · exact .inr (.inr ⟨k, c', fs, r1, z, y2, y3⟩)
  · refine s2.fr c o e t fun ⟨k, c', fs, r1, y1, y2, y3⟩ => no ?_
    rcases set_at y1 with ⟨_, z⟩ | ⟨_, z⟩
    · cases z
    · exact ⟨k, c', fs, r1, z, y2, y3⟩
  · obtain ⟨k, c', fs, r1, y1, y2, y3⟩ := o
    by_cases n : k = i
    · subst n
      rcases look y1 with ⟨_, z⟩ | ⟨n, _⟩
      · cases z
        rw [ep] at y2
        cases y2
        exact .inl ⟨k, b, _, p, h, ep, y3⟩
      · exact (n rfl).elim
    · obtain ⟨e1, _, _⟩ := own1 y1 n
      rcases s2.ow c ⟨k, c', fs, r1, e1, y2, y3⟩ with ⟨k', c2, f2, r2, x1, x2, x3⟩ | z
      · rcases set_at x1 with ⟨_, z⟩ | ⟨_, z⟩
        · cases z
        · exact .inl ⟨k', c2, f2, r2, z, x2, x3⟩
      · exact .inr z
  · by_cases n : j = i
    · subst n
      rcases look e with ⟨_, z⟩ | ⟨n, _⟩
      · cases z
        exact ⟨⟨_, h, fun _ => rfl⟩, rfl⟩
      · exact (n rfl).elim
    · obtain ⟨e1, _, _⟩ := own1 e n
      obtain ⟨⟨es', y1, y2⟩, y3⟩ := s2.par j es e1
      rcases set_at y1 with ⟨_, z⟩ | ⟨_, z⟩
      · cases z
      · exact ⟨⟨es', z, y2⟩, y3⟩
  · obtain ⟨k, c', fs, r1, y1, y2, y3⟩ := o
    by_cases n : k = i
    · subst n
      rcases look y1 with ⟨_, z⟩ | ⟨n, _⟩
      · cases z
        rw [ep] at y2
        cases y2
        simp only [reg, List.mem_singleton] at y3
        exact .inl y3
      · exact (n rfl).elim
    · obtain ⟨e1, _, _⟩ := own1 y1 n
      exact .inr ⟨k, c', fs, r1, e1, y2, y3⟩
end
section
variable {X : Cx}
theorem dn_thaw (i : Nat) {e : Expr} {h : LF} (hd : DN X e h) : DN X e (fThaw i h) := by
  refine pe_imp hd ?_
  rintro σ H Q ⟨G, ρ, ρ', es, R, hf, k⟩
  unfold fThaw at hf
  split at hf
  · rename_i b ds e0
    split at hf
    · rename_i es' ρ1 e1
      split at hf
      · rename_i hfl
        split at hf
        · rename_i r hm
          cases hf
          obtain ⟨p, xs, ep, hp, gp, hda⟩ := R.ownL e0
          obtain ⟨p', G1, ep', R1, s1, hd1⟩ := R.freeze e0
          rw [ep] at ep'
          cases ep'
          obtain ⟨xs', g1p⟩ : ∃ xs', G1 p = some (.lst xs') := by
            cases hd1 with
            | lst z _ => exact ⟨_, z⟩
          have ex := R1.sub p _ g1p
          rw [hp] at ex
          cases ex
          refine ⟨_, _, ρ1, es, R1, e1, fun q ys G2 H2 R2 s2 hq gq no nq da => ?_⟩
          obtain ⟨R3, s3, g2p, h2o⟩ := thaw R e0 ep hp gp hda s1 g1p R2 s2 hm
          have qp : q ≠ p := fun z => by rw [z, g2p] at gq; cases gq
          exact k q ys _ H2 R3 s3 hq (by rw [del_ne qp]; exact gq) (fun o => (h2o q o).elim qp no) nq (das_del g2p da hfl)
        · cases hf
      · cases hf
    · cases hf
  · cases hf
end
end DL

set_option Elab.async false
set_option linter.all false
set_option maxRecDepth 100000
set_option maxHeartbeats 4000000
/-! sum of a tuple; a def and a lambda, handed to a def at once. -/
namespace DL
open PySem PySem.Spec PyProof.Rows L2 GX StX NdefX
variable [DL.FT]
section
variable {X : Cx}
def rSumT (K : PySem.W.Frag) : List V → Hp → VK → Prop := fun vs H Q => ∃ (a : Addr) (ns : List Int), vs = [V.ref a] ∧ SqT K H a (ns.map V.int) ∧ Q (.int ns.sum) H
theorem cr_sumT (hc : X.calm = true) : CallR X (.builtin "sum") (rSumT X.K) := by
  intro pins s σ H vs us Q I r h
  obtain ⟨a, ns, rfl, hs, q⟩ := h
  obtain ⟨its, rv, ht, _⟩ := I.tuple hs
  rw [Vals.ref1 r]
  have hi := rv.ints
  have hl : s.heap.IsTuple a its.toArray := by
    obtain ⟨o, ho, hc, n, hd⟩ := ht
    first
      | exact ⟨o, ho, hc, n, hd⟩
      | exact ⟨o, ho, hc, hd, n⟩
  obtain ⟨xs, hx⟩ := hi.allInts.items
  have hn : numsOf its.toArray.toList = ns := by rw [show its.toArray.toList = its from rfl, hi.numsOf]
  rw [hx] at hl hn
  rw [nums_intItems] at hn
  refine PySem.W.ktm_sumG (I.ok.hd hc) hl fun h' tk t' hk => ⟨.int _, H, I.kept hk, ⟨t', ?_⟩, q⟩
  rw [preSum_eq, List.take_of_length_le (by simp), hn]
def sumTD : OpN
  | [.tuple ds] => match intsOf ds with
    | some ns => some (.int ns.sum)
    | none => none
  | _ => none
theorem cl_sumT (hc : X.calm = true) : CallR X (.builtin "sum") (rCl X.w X.K sumTD) := by
  refine CallR.imp (cr_sumT hc) ?_
  rintro xs H Q ⟨G, ds, r, sub, hd, h, k⟩
  unfold sumTD at h
  split at h
  · split at h
    · rename_i ds' ns e
      cases h
      obtain ⟨v, rfl, hv⟩ := pair1 hd
      obtain ⟨p, ys, rfl, hp, ha⟩ := bo_tup hv
      rw [intsOf_eq e] at ha
      rw [ha.ints] at hp
      exact ⟨p, ns, rfl, (hp.same sub).sq, k _ G H (Xt.refl sub) (.int _)⟩
    · cases h
  · cases h
end
def fDefLam (F : FF) (i : Nat) (js1 js2 : List Nat) (t1 t2 : Str) (f1 : EF) : SF := fun ρ => match ρ[i]? with
  | some .un => match f1 ρ with
    | none => none
    | some (d1, ρ1) => match capD ρ1 js2, capD ρ1 js1 with
      | some ds2, some ds1 => match F [.dat d1, .dat (fnD t2 ds2), .dat (fnD t1 ds1)] with
        | none => none
        | some (d, _) => if noF d = true then some (.rt d ρ1) else none
      | _, _ => none
  | _ => none
section
variable {X : Cx} {k i : Nat} {x y1 : Str} {ps fr1 fr2 : List Str} {js1 js2 : List Nat} {p p1 pos rpos : Pos} {e1 lam e : Expr} {f1 : EF} {F : FF} {t1 t2 : Str} {Fn1 Fn2 : Addr → NF} {cl1 cl2 : List (Str × Addr)} {P : Addr} {nm : Nat → Nat → Str} {pos1 lpos : Pos} {st1 : Stmt}
/-- def y1 ..; return x(a, lambda .., y1): both have the same cells -/
theorem dss_defLam (c : Cal X.prog X.w X.K X.mg X.base k x ps (spD X.w X.K 3 F)) (hG : Gd X.A) (hR : Room k X.A) (hs1 : PS X st1 (tNdefT P (FT.qn t1) pos1 i Fn1)) (hlam : PE X lam (tLamT P (FT.qn t2) lpos Fn2 e)) (hm0 : (P, nm) ∈ FT.tabs) (hu : ∀ p ∈ FT.tabs, p.1 = P → p.2 = nm) (hq1 : nm pos1.line pos1.col = FT.qn t1) (hq2 : nm lpos.line lpos.col = FT.qn t2) (h1 : DE X e1 f1)
    (S1 : FnS X cl1 (fun c a => FnO a (Fn1 c)) t1 fr1 js1) (S2 : FnS X cl2 (fun c a => LamO (Fn2 c) e a) t2 fr2 js2) (hcc : cl2.map (·.2) = cl1.map (·.2)) (hfn : ∀ y, X.fn y = true)
    (hN1 : X.N[i]? = some y1) (hv1 : Vis X.env.scope y1)
    (hg : Gl X x := by rfl) (hdb : (x == ("__debug__" : Str)) = false := by decide) (hd1 : (y1 == ("__debug__" : Str)) = false := by decide) (hc1 : (y1 == ("__classdict__" : Str)) = false := by decide)
    (he1 : starEach [e1, lam, .Name y1 p1] X.env = (false, eval e1 X.env) :: starEach [lam, .Name y1 p1] X.env := by rfl) (he2 : starEach [lam, .Name y1 p1] X.env = (false, eval lam X.env) :: starEach [.Name y1 p1] X.env := by rfl) (he3 : starEach [.Name y1 p1] X.env = (false, eval (.Name y1 p1) X.env) :: starEach [] X.env := by rfl)
    (hpl : (backTo pos (starEach [lam, .Name y1 p1] X.env)).any (·.1) = false := by rfl) :
    DSs X [st1, .Return (some (.Call (.Name x p) [e1, lam, .Name y1 p1] [] pos)) rpos] (fDefLam F i js1 js2 t1 t2 f1) := by
  obtain ⟨f, fd, Fk, hm, hk, hb⟩ := c
  let tC : TE := fun σ H Q => ∃ (G : Hp) (ρ ρ1 : Rho) (d1 d : PyData) (ds1 ds2 : List PyData) (a ca : Addr) (ss : List Sl), Rl X.w X.K G σ ρ H ∧ f1 ρ = some (d1, ρ1) ∧ σ[i]? = some (some (.ref a)) ∧ G a = some (FnO a (Fn1 ca)) ∧ G ca = some (LamX.CodeO ca (FT.qn t1)) ∧
    capD ρ1 js1 = some ds1 ∧ capD ρ1 js2 = some ds2 ∧ F [.dat d1, .dat (fnD t2 ds2), .dat (fnD t1 ds1)] = some (d, ss) ∧ noF d = true ∧ ∀ v G' H', Rl X.w X.K G' σ ρ1 H' → Sx G σ ρ H G' σ ρ1 H' → Da X.K G' v d → Q v H'
  have hcall : PE X (.Call (.Name x p) [e1, lam, .Name y1 p1] [] pos) tC := by
    refine ⟨fun pins s σ H Q I h => ?_⟩
    obtain ⟨G, ρ, ρ1, d1, d, ds1, ds2, a, ca, ss, R, q1, sa, ga, gca, c1, c2, qF, nf, hq⟩ := h
    have ha : PA X [e1, lam, .Name y1 p1] (tCons (rE X.w X.K f1) (tCons (tLamT P (FT.qn t2) lpos Fn2 e) (tCons (tVar i) tNil))) :=
      pa_cons h1 (pa_cons hlam (pa_cons (pe_var hN1 hv1 hd1 hc1) pa_nil he3) he2) he1
    have ht : tCons (rE X.w X.K f1) (tCons (tLamT P (FT.qn t2) lpos Fn2 e) (tCons (tVar i) tNil)) σ H fun vs H3 => ∃ (v1 : V) (b cb : Addr) (G3 : Hp), vs = [v1, .ref b, .ref a] ∧ Rl X.w X.K G3 σ ρ1 H3 ∧ Sx G σ ρ H G3 σ ρ1 H3 ∧ Da X.K G3 v1 d1 ∧ G3 b = some (LamO (Fn2 cb) e b) ∧ G3 cb = some (LamX.CodeO cb (FT.qn t2)) := by
      refine ⟨G, ρ, ρ1, d1, R, q1, fun v1 G1 H1 R1 s1 hv1 => ?_⟩
      refine mk_lam R1 hm0 hu hq2 fun b cb G2 H2 xn g1 g2 => ⟨.ref a, sa, ?_⟩
      exact ⟨v1, b, cb, G2, rfl, R1.ext xn, s1.trans (Sx.ext xn), hv1.same xn.gg, g1, g2⟩
    apply wpAny_Call_Name_kw
    refine ld_glob I hg hm (PySem.W.callWith_K (h₀ := X.base) I.ok.mod.kin hk (thn (ha.run pos pins s σ H _ I ht) ?_) he1 hpl) hdb
    rintro us s1 ⟨vs, H3, I3, r, v1, b, cb, G3, rfl, R3, sx, hv1, gb, gcb⟩
    refine ⟨I3.kIn, ?_⟩
    have own := S1.own I3.ok hfn
    have A := S1.da I3 R3 own rfl (sx.gr _ _ ga) (sx.gr _ _ gca) c1
    have B := S2.da I3 R3 own hcc gb gcb c2
    exact run_gho Fk hG hR hb I3 own R3.sub R3.tb r (.cons (hv1.same (gho_same I3 own R3.sub)) (.cons B (.cons A .nil))) rfl qF nf fun v G' H' x hv => hq v G' H' (R3.ext x) (sx.trans (Sx.ext x)) hv
  refine pss_imp (pss_cons hs1 (pss_one (ps_ret (pos := rpos) hcall))) ?_
  rintro D σ H ⟨G, ρ, o, R, hf, kk⟩
  unfold fDefLam at hf
  split at hf
  · rename_i ei
    split at hf
    · cases hf
    · rename_i d1 ρ1 q1
      split at hf
      · rename_i ds2 ds1 c2 c1
        split at hf
        · cases hf
        · rename_i d ss qF
          split at hf
          · rename_i nf
            cases hf
            refine made_of R hm0 hu hq1 fun a ca G1 H1 na x1 ga gca => ?_
            have R1 := (R.ext x1).raw (x := some (.ref a)) ei
            have sx : Sx G σ ρ H _ (σ.set i (some (.ref a))) ρ _ := (Sx.ext x1).trans (Sx.raw ei)
            have li : i < σ.length := R.lt ei
            refine ⟨_, ρ, ρ1, d1, d, ds1, ds2, a, ca, ss, R1, q1, ?_, ga, gca, c1, c2, qF, nf, fun v G' H' R' s' hv => ?_⟩
            · rw [List.getElem?_set_self li]
            · exact kk _ v G' H' R' (sx.trans s') hv
          · cases hf
      · cases hf
  · cases hf
end
end DL

set_option Elab.async false
set_option linter.all false
set_option maxRecDepth 100000
set_option maxHeartbeats 4000000
/-! max of a list with a lambda as its key. -/
namespace DL
open PySem PySem.Spec PyProof.Rows L2 GX StX NdefX
variable [DL.FT]
/-- the keys of the items -/
def keysM (M : MF) (ds : List PyData) : List PyData → Option (List Int)
  | [] => some []
  | a :: as => match M ds [a] with
    | some (.int k) => match keysM M ds as with
      | some ks => if noF a = true then some (k :: ks) else none
      | none => none
    | _ => none
theorem keysM_at {M : MF} {ds : List PyData} : ∀ {as : List PyData} {ks : List Int}, keysM M ds as = some ks → ks.length = as.length ∧ ∀ (i : Nat) (a : PyData), as[i]? = some a → M ds [a] = some (.int (ks.getD i 0)) ∧ noF a = true
  | [], ks, h => by cases h; exact ⟨rfl, fun i a e => by simp at e⟩
  | a :: as, ks, h => by
    unfold keysM at h
    split at h
    · rename_i k e1
      split at h
      · rename_i ks' e2
        split at h
        · rename_i e3
          cases h
          obtain ⟨l, q⟩ := keysM_at e2
          refine ⟨by simp [l], fun i b e => ?_⟩
          cases i with
          | zero =>
            simp at e
            subst e
            exact ⟨e1, e3⟩
          | succ i =>
            have := q i b (by simpa using e)
            simpa using this
        · cases h
      · cases h
    · cases h
/-- the place of the first item with the greatest key -/
def btK (ks : List Int) (i j : Nat) : Bool := decide (ks.getD i 0 > ks.getD j 0)
def bestK (ks : List Int) : Nat := argBest (btK ks) (ks.length - 1)
theorem moved_eq {wr : List Addr} {s s' : Shared} (m : Moved wr (fun a b => b = a) s s') : s' = { s with heap := s'.heap, toks := s'.toks } := by
  obtain ⟨h, g, d, t, o⟩ := s'
  obtain ⟨_, e1, e2, e3, _⟩ := m
  dsimp only at e1 e2 e3
  rw [e1, e2, e3]
section
variable {X : Cx} {pins : List (Addr × Obj)} {σ : L2.St} {G H : Hp} {s : Shared} {cs : List Addr}
theorem env0_in1 {P : Program} {w : World} {K : PySem.W.Frag} {mg : Str → Option Value} {base : Heap} {A : Around} {outer : List Env} {s : Shared} {H : Hp} (e : Env0 P w K mg base A outer s H) : Env0 P w K mg base A.in1 outer s H :=
  ⟨e.frames, e.mod, e.bs, e.bsz, e.funs, e.frf, e.hok, e.bare⟩
/-- what stays while keys are asked -/
structure KJ (X : Cx) (pins : List (Addr × Obj)) (σ : L2.St) (G H : Hp) (cs : List Addr) (h0 : Heap) (S I : Addr) (s' : Shared) (G' H' : Hp) : Prop where
  inv : Inv X pins σ H' s'
  xt : Xt G H G' H'
  cz : ∀ c ∈ cs, s'.heap.get? c = h0.get? c
  fs : FpOk X pins H' S
  fi : FpOk X pins H' I
theorem KJ.moved {h0 : Heap} {S I : Addr} {s1 s2 : Shared} {G' H' : Hp} (j : KJ X pins σ G H cs h0 S I s1 G' H') (nc : ∀ c ∈ cs, c ≠ S ∧ c ≠ I) (cg : ∀ c ∈ cs, ∃ o, h0.get? c = some o) (m : Moved [S, I] (fun a b => b = a) s1 s2) : KJ X pins σ G H cs h0 S I s2 G' H' := by
  refine ⟨?_, j.xt, fun c hc => ?_, j.fs, j.fi⟩
  · rw [moved_eq m]
    exact j.inv.turnedL (ch := [S, I]) (fun b o hb e => m.heap b o hb e) fun b hb => by
      simp only [List.mem_cons, List.not_mem_nil, or_false] at hb
      rcases hb with rfl | rfl
      · exact j.fs
      · exact j.fi
  · obtain ⟨o, e⟩ := cg c hc
    obtain ⟨n1, n2⟩ := nc c hc
    rw [e]
    refine m.heap c o (fun hb => ?_) ((j.cz c hc).trans e)
    simp only [List.mem_cons, List.not_mem_nil, or_false] at hb
    rcases hb with z | z
    · exact n1 z
    · exact n2 z
theorem gho_step {h0 h1 : Heap} {G G' : Hp} {cs : List Addr} (x : Same G G') (cz : ∀ c ∈ cs, h1.get? c = h0.get? c) (cg : ∀ c ∈ cs, ∃ o, h0.get? c = some o) : Same (gho h0 cs G) (gho h1 cs G') := fun b o e => by
  by_cases hb : b ∈ cs
  · obtain ⟨ob, eo⟩ := cg b hb
    rw [gho_in hb eo] at e
    rw [gho_in hb ((cz b hb).trans eo)]
    exact e
  · rw [gho_out hb] at e ⊢
    exact x _ _ e
/-- max(l, key=q): the first item with the greatest key -/
theorem run_maxK {k : Nat} {t : Str} {M : MF} {l q : Addr} {xs : List V} {ds as : List PyData} {ks : List Int} {d : PyData} {Q : VK} (C : CloG X.prog X.w X.K X.mg X.base k t 1 M) (hG : Gd X.A) (hR : Room (k + 1) X.A)
    (I : Inv X pins σ H s) (z : OwnCs X cs) (sub : Same G H) (tb : TbG G H) (hl : H l = some (.lst xs)) (hA : DaA X.K G xs as) (hq : Da X.K (gho s.heap cs G) (.ref q) (fnD t ds)) (hk : keysM M ds as = some ks) (hb : as[bestK ks]? = some d)
    (hQ : ∀ v G' H', Xt G H G' H' → Da X.K G' v d → Q v H') :
    wpAny (model X.prog X.w) X.A (call (.builtin "max") [.ref l] [(Str.ofString "key", .ref q)]) (EP X pins σ Q) X.xe s := by
  obtain ⟨lk, hkeys⟩ := keysM_at hk
  have hne : 0 < as.length := by
    cases as with
    | nil => simp at hb
    | cons a as => simp
  obtain ⟨its, rv, hls, hz⟩ := I.list (.inl (.inl hl))
  have xl : xs.length = as.length := hA.len
  have il : its.length = as.length := by rw [← rv.length, xl]
  have hlt : l < s.heap.objs.size := by
    obtain ⟨o, n, ho, _⟩ := hls
    exact Heap.lt_size ho
  have cg : ∀ c ∈ cs, ∃ o, s.heap.get? c = some o := fun c hc => (own_free I z hc).2.1
  have hR1 : Room k X.A.in1 := hR.in1
  -- the iterator stands at the end of the heap, the list of the best one behind it
  have sz : ∀ o : Obj, (s.heap.push o).objs.size = s.heap.objs.size + 1 := fun o => size_push' ..
  have W : WalksS X.prog X.w X.A.in1 s.heap.objs.size [s.heap.objs.size, l] [s.heap.objs.size] (fun a b => b = a) as.length (fun i v => ∃ x, xs[i]? = some x ∧ RelV x v)
      (fun i s' => s'.heap.IsListIter s.heap.objs.size l i ∧ ∃ its : List Value, Vals xs its ∧ s'.heap.IsList l its.toArray) := by
    have Wi : ∀ its : List Value, WalksS X.prog X.w X.A.in1 s.heap.objs.size [s.heap.objs.size, l] [s.heap.objs.size] (fun a b => b = a) its.toArray.size (fun i v => its.toArray[i]? = some v) (fun i s' => s'.heap.IsListIter s.heap.objs.size l i ∧ s'.heap.IsList l its.toArray) :=
      fun its => (Walks.list (prog := X.prog) (w := X.w) (A := X.A.in1) hR.hd s.heap.objs.size l (Nat.ne_of_lt hlt) its.toArray).toS
    refine ⟨fun b hb => by simp at hb; simp [hb], fun _ => rfl, fun _ _ _ h1 h2 => h2.trans h1, fun i s' h' tk st le kk => ?_, fun i s' Q E hi st hQ => ?_, fun s' Q E st hQ => ?_, fun i s' Q E st hQ => wpAny_pyIter_listiter st.1 hQ⟩
    · obtain ⟨h1, its, r, h2⟩ := st
      exact ⟨((Wi its).frame i s' h' tk ⟨h1, h2⟩ le kk).1, its, r, ((Wi its).frame i s' h' tk ⟨h1, h2⟩ le kk).2⟩
    · obtain ⟨h1, its, r, h2⟩ := st
      have ll : its.toArray.size = as.length := by rw [List.size_toArray, ← r.length, xl]
      refine (Wi its).item i s' Q E (by rw [ll]; exact hi) ⟨h1, h2⟩ fun v s2 hv st' m => hQ v s2 ?_ ⟨st'.1, its, r, st'.2⟩ m
      obtain ⟨u, e1, e2⟩ := r.get (List.getElem?_eq_getElem (show i < xs.length by omega))
      refine ⟨_, List.getElem?_eq_getElem (show i < xs.length by omega), ?_⟩
      have : its[i]? = some v := by simpa using hv
      rw [this] at e1
      cases e1
      exact e2
    · obtain ⟨h1, its, r, h2⟩ := st
      have ll : its.toArray.size = as.length := by rw [List.size_toArray, ← r.length, xl]
      exact (Wi its).done s' Q E ⟨by rw [ll]; exact h1, h2⟩ hQ
  have nS : ∀ c ∈ cs, c ≠ s.heap.objs.size + 1 ∧ c ≠ s.heap.objs.size := fun c hc => by
    obtain ⟨o, e⟩ := cg c hc
    have q := Heap.lt_size e
    exact ⟨Nat.ne_of_lt (Nat.lt_succ_of_lt q), Nat.ne_of_lt q⟩
  have fS : FpOk X pins H (s.heap.objs.size + 1) := I.fpOk (Nat.le_succ _) (I.hok.fresh (Nat.le_succ _))
  have fI : FpOk X pins H s.heap.objs.size := I.fpOk (Nat.le_refl _) (I.hok.fresh (Nat.le_refl _))
  have K : KeyRun X.prog X.w X.A.in1 (.ref q) .Gt (s.heap.objs.size + 1) [s.heap.objs.size] (fun a b => b = a) as.length (fun i v => ∃ x, xs[i]? = some x ∧ RelV x v)
      (fun i s' => s'.heap.IsListIter s.heap.objs.size l i ∧ ∃ its : List Value, Vals xs its ∧ s'.heap.IsList l its.toArray)
      (fun s' => ∃ G' H', KJ X pins σ G H cs s.heap (s.heap.objs.size + 1) s.heap.objs.size s' G' H') (fun i v _ => ∃ t, v = Value.int (ks.getD i 0) t) (btK ks) := by
    refine ⟨fun s1 s2 hj m => ?_, fun _ _ _ _ h _ => h, fun i v s1 o Qf Ef hi hP hJ hst hSo hc => ?_, fun i j ki kj s1 Qf Ef _ h1 h2 hq => ?_⟩
    · obtain ⟨G', H', j⟩ := hj
      exact ⟨G', H', j.moved nS cg m⟩
    · obtain ⟨G', H', j⟩ := hJ
      obtain ⟨x, ex, rx⟩ := hP
      have ea : as[i]? = some as[i] := List.getElem?_eq_getElem hi
      obtain ⟨hM, hno⟩ := hkeys i _ ea
      have hx : Da X.K G x as[i] := by
        obtain ⟨x', ex', hx⟩ := hA.get ea
        rw [ex] at ex'
        cases ex'
        exact hx
      have z1 := z
      have sg := gho_same j.inv z1 j.xt.gh
      have subg : Same (gho s1.heap cs G') (gho s1.heap cs H') := fun b o e => by
        by_cases hb : b ∈ cs
        · obtain ⟨_, ⟨ob, eo⟩, _⟩ := own_free j.inv z1 hb
          rw [gho_in hb eo] at e ⊢; exact e
        · rw [gho_out hb] at e ⊢; exact j.xt.gh _ _ e
      have hq' : Da X.K (gho s1.heap cs G') (.ref q) (fnD t ds) := hq.same (gho_step j.xt.gg j.cz cg)
      refine wpAny_call (codeAny_mono (C.run X.A.in1 X.stack s1 (gho s1.heap cs G') (gho s1.heap cs H') q [v] [x] ds [as[i]] _ (fun v' H2 => ∃ G2, Xt G H G2 (drp H2 cs) ∧ v' = .int (ks.getD i 0)) hG hR1 (env0_in1 (env0_gho j.inv z1)) subg ((j.xt.tt tb).gho j.xt.gh j.inv z1) hq' (.cons rx .nil) (.cons (hx.same (fun b o e => sg _ _ (j.xt.gg _ _ e))) .nil) (by simp [noFs, hno]) rfl hM fun v' G2 H2 x2 hv => ?_) fun r s2 hr => ?_)
      · refine ⟨drp G2 cs, j.xt.trans (xt_gho j.inv z1 j.xt.gh x2), ?_⟩
        cases hv
        rfl
      · cases r with
        | error e => exact (show False from hr).elim
        | ok fl =>
          cases fl with
          | next => exact False.elim hr
          | brk => exact False.elim hr
          | cont => exact False.elim hr
          | ret u =>
            obtain ⟨v', H3, os, bare, un, hok3, ru, G3, x3, ev⟩ := ce_gho (Q := fun v' H2 => ∃ G2, Xt G H G2 H2 ∧ v' = .int (ks.getD i 0)) j.inv z1 hr
            have I3 : Inv X pins σ H3 s2 := j.inv.call' os un hok3 bare fun b z => absurd z (by simp)
            have nx : ∀ b : Addr, b ∉ ([] : List Addr) := fun b q => by simp at q
            have nf : ∀ b, b ≠ X.env.locals → b ∉ X.fs → b ∉ frs X.stack := fun b n1 n2 hb => by
              rcases List.mem_cons.mp (j.inv.stkSub b hb) with y | y
              · exact n1 y
              · exact n2 y
            have kS := un.keep _ o hSo j.fs.1 (nf _ j.fs.2.1 j.fs.2.2.1) (nx _)
            obtain ⟨oI, gI, c1, c2⟩ := hst.1
            have kI := un.keep _ oI gI j.fi.1 (nf _ j.fi.2.1 j.fi.2.2.1) (nx _)
            have hl3 : H3 l = some (.lst xs) := x3.hh _ _ hl (fun _ z => nomatch z)
            obtain ⟨its3, rv3, hls3, _⟩ := I3.list (.inl (.inl hl3))
            rw [ev] at ru
            refine hc u s2 ⟨G3, H3, I3, x3, fun c hc => ?_, ⟨un.free _ o hSo j.fs.1 (nx _), j.fs.2⟩, ⟨un.free _ oI gI j.fi.1 (nx _), j.fi.2⟩⟩ ⟨⟨oI, kI, c1, c2⟩, its3, rv3, hls3.isList⟩ kS ru fun _ _ h => h
            obtain ⟨n1, ⟨ob, eo⟩, le, ne⟩ := own_free j.inv z1 hc
            have k := un.keep c ob eo n1 (nf c ne fun y => by
              obtain ⟨_, o', ho', _⟩ := j.inv.ok.funs.mem y
              exact absurd (Nat.lt_of_lt_of_le (Heap.lt_size ho') le) (Nat.lt_irrefl _)) (nx _)
            rw [k, ← eo]
            exact j.cz c hc
    · obtain ⟨t1, rfl⟩ := h1
      obtain ⟨t2, rfl⟩ := h2
      exact CmpOf.ints_gt (prog := X.prog) (w := X.w) (A := X.A.in1) (P := fun i v => ∃ t, v = .int (ks.getD i 0) t) (fun i => ks.getD i 0) (fun i v h => h) i j _ _ _ _ _ ⟨t1, rfl⟩ ⟨t2, rfl⟩ hq
  refine PySem.call_max_walkK ?_
  refine wpAny_pyIter_list hls.isList ?_
  refine ⟨s.heap.objs.size, _, _, _, as.length, _, _, (fun s' => ∃ G' H', KJ X pins σ G H cs s.heap (s.heap.objs.size + 1) s.heap.objs.size s' G' H'), (fun i v _ => ∃ t, v = Value.int (ks.getD i 0) t), btK ks, rfl, W, ⟨⟨_, Heap.get?_push_size _ rfl, rfl, rfl⟩, its, rv, ?_⟩, fun b hb => ?_, hne, ?_, ⟨G, H, ?_, Xt.refl sub, fun c hc => ?_, fS, fI⟩, fun v s' hP hJ => ?_⟩
  · exact hls.isList.at fun o e => Heap.get?_push_of_some _ e
  · rw [sz]
    simp only [List.mem_cons, List.not_mem_nil, or_false] at hb
    rcases hb with rfl | rfl
    · exact Nat.lt_succ_self _
    · exact Nat.lt_succ_of_lt hlt
  · rw [sz]
    exact K
  · exact I.kept fun b o e => Heap.get?_push_of_some _ e
  · obtain ⟨o, e⟩ := cg c hc
    rw [e]
    exact Heap.get?_push_of_some _ e
  · obtain ⟨x, ex, rx⟩ := hP
    obtain ⟨G', H', j⟩ := hJ
    have eb : bestK ks = argBest (btK ks) (as.length - 1) := by unfold bestK; rw [lk]
    rw [eb] at hb
    obtain ⟨x', ex', hx⟩ := hA.get hb
    rw [ex] at ex'
    cases ex'
    exact ⟨x, H', j.inv, rx, hQ x G' H' j.xt (hx.same j.xt.gg)⟩
end
def fMaxK (M : MF) (js : List Nat) (f : GF) : EF := fun ρ => match f ρ with
  | none => none
  | some (a, ρ1) => match look ρ1 a with
    | some (.list as) => match capD ρ1 js with
      | none => none
      | some ds => match keysM M ds as with
        | none => none
        | some ks => match as[bestK ks]? with
          | some d => some (d, ρ1)
          | none => none
    | _ => none
section
variable {X : Cx} {k : Nat} {fr : List Str} {js : List Nat} {p pos kpos : Pos} {e1 lam e : Expr} {f1 : GF} {M : MF} {mk : Addr → List Addr → NF} {t : Str} {Fn : Addr → NF} {cl : List (Str × Addr)} {P : Addr} {nm : Nat → Nat → Str} {lpos : Pos} {key : Option Str}
/-- max(a, key=lambda ..) -/
theorem de_maxK (C : CloG X.prog X.w X.K X.mg X.base k t 1 M) (hG : Gd X.A) (hR : Room (k + 1) X.A) (h1 : DG X e1 f1) (hlam : PE X lam (tLamT P (FT.qn t) lpos Fn e)) (hm0 : (P, nm) ∈ FT.tabs) (hu : ∀ p ∈ FT.tabs, p.1 = P → p.2 = nm) (hq0 : nm lpos.line lpos.col = FT.qn t)
    (hnf : ∀ c cs, cs.length = fr.length → FT.nf t c cs = some (LamO (mk c cs) e)) (hFn : ∀ c, Fn c = mk c (cl.map (·.2))) (hcl : cl.map (·.1) = fr) (hC : X.Ok → Caps X cl fr js) (hfr : fr.Nodup) (hfn : ∀ y, X.fn y = true)
    (hm : X.mg "max" = none) (hg : Gl X "max" := by rfl)
    (he1 : starEach [e1] X.env = (false, eval e1 X.env) :: starEach [] X.env := by rfl) (he : backTo pos (starEach [e1] X.env) = (false, eval e1 X.env) :: backTo pos (starEach [] X.env) := by rfl) (hpl : (backTo pos (starEach [e1] X.env)).any (·.1) = false := by rfl)
    (hall : (backToKw pos (keywordEach [⟨key, lam, kpos⟩] X.env)).all (·.1.isSome) = true := by rfl) (hnone : (backToKw pos (keywordEach [⟨key, lam, kpos⟩] X.env)).any (·.1.isNone) = false := by rfl) (hks : (backToKw pos (keywordEach [⟨key, lam, kpos⟩] X.env)).filterMap (·.1) = [Str.ofString "key"] := by rfl) :
    DE X (.Call (.Name "max" p) [e1] [⟨key, lam, kpos⟩] pos) (fMaxK M js f1) := by
  refine ⟨fun pins s σ H Q I h => ?_⟩
  obtain ⟨G, ρ, ρ', d, R, hf, hq⟩ := h
  unfold fMaxK at hf
  split at hf
  · cases hf
  · rename_i a ρ1 q1
    split at hf
    · rename_i as ql
      split at hf
      · cases hf
      · rename_i ds qc
        split at hf
        · cases hf
        · rename_i ks qk
          split at hf
          · rename_i d' qb
            cases hf
            have ha : PA X [e1] (tCons (rG X.w X.K f1) tNil) := pa_cons h1 pa_nil he1
            have ht : tCons (rG X.w X.K f1) tNil σ H fun vs H1 => ∃ (v1 : V) (G1 : Hp), vs = [v1] ∧ Rl X.w X.K G1 σ ρ' H1 ∧ Sx G σ ρ H G1 σ ρ' H1 ∧ AgR X.K G1 σ a v1 :=
              ⟨G, ρ, ρ', a, R, q1, fun v1 G1 H1 R1 s1 hv1 => ⟨v1, G1, rfl, R1, s1, hv1⟩⟩
            have hk : PK X [⟨key, lam, kpos⟩] (tCons (tLamT P (FT.qn t) lpos Fn e) tNil) := pk_cons hlam pk_nil
            refine wpAny_Call_Name_kw (ld_blt I hg hm (by rfl) ?_ (by decide) (by decide))
            refine PyProof.Rows.callWith_kw (thn (ha.run pos pins s σ H _ I ht) fun us s1 ⟨vs, H1, I1, r1, v1, G1, ev, R1, sx1, hv1⟩ => ?_) he hpl hall hnone
            have ht2 : tCons (tLamT P (FT.qn t) lpos Fn e) tNil σ H1 fun zs H2 => ∃ (b c : Addr) (G2 : Hp), zs = [.ref b] ∧ Rl X.w X.K G2 σ ρ' H2 ∧ Sx G1 σ ρ' H1 G2 σ ρ' H2 ∧ G2 b = some (LamO (Fn c) e b) ∧ G2 c = some (LamX.CodeO c (FT.qn t)) :=
              mk_lam R1 hm0 hu hq0 fun b c G2 H2 xn g1 g2 => ⟨b, c, G2, rfl, R1.ext xn, Sx.ext xn, g1, g2⟩
            refine thn (hk.run pos pins s1 σ H1 _ I1 ht2) fun ws s2 ⟨zs, H2, I2, r2, b, cc, G2, ez2, R2, sx2, hla, hco⟩ => ?_
            rw [hks]
            subst ev
            subst ez2
            obtain ⟨u1, rfl, ru1⟩ := Vals.one r1
            obtain ⟨u2, rfl, ru2⟩ := Vals.one r2
            obtain rfl : u2 = Value.ref b := ru2
            have B := look_bo R2 (hv1.same sx2.gr) ql
            obtain ⟨l, xs, rfl, hl, hA⟩ := bo_list B R2.sub
            obtain rfl : u1 = Value.ref l := ru1
            have C2 := hC I2.ok
            have ez : cl = fr.zip (cl.map (·.2)) := by
              rw [← hcl]
              exact zip_unz _
            have hlen : (cl.map (·.2)).length = fr.length := by rw [← hcl, List.length_map, List.length_map]
            have own : OwnCs X (cl.map (·.2)) := fun c hc => by
              obtain ⟨i, hi⟩ := List.mem_iff_getElem?.mp hc
              have li : i < fr.length := by rw [← hlen]; exact (List.getElem?_eq_some_iff.mp hi).1
              have l := zip_lk hfr (List.getElem?_eq_getElem li) hi
              rw [← ez] at l
              exact ⟨_, C2.sub _ _ l, hfn _⟩
            have hnf' := hnf cc _ hlen
            rw [← hFn] at hnf'
            rw [ez] at C2
            have dl := da_gho I2 R2 C2 own hfr hlen hnf' hla hco qc
            exact run_maxK C hG hR I2 own R2.sub R2.tb hl hA dl qk qb fun v G' H' x hv => hq v G' H' (R2.ext x) ((sx1.trans sx2).trans (Sx.ext x)) hv
          · cases hf
    · cases hf
end
end DL

set_option Elab.async false
set_option linter.all false
set_option maxRecDepth 100000
set_option maxHeartbeats 4000000
/-! y = [.. for x in an own list that goes on]. -/
namespace DL
open PySem PySem.Spec PyProof.Rows L2 GX StX
variable [DL.FT]
theorem rF_thaw {ww : World} {K : PySem.W.Frag} (i : Nat) {h : LF} : ∀ σ H Q, rF ww K (fThaw i h) σ H Q → rF ww K h σ H Q := by
  rintro σ H Q ⟨G, ρ, ρ', es, R, hf, k⟩
  unfold fThaw at hf
  split at hf
  · rename_i b ds e0
    split at hf
    · rename_i es' ρ1 e1
      split at hf
      · rename_i hfl
        split at hf
        · rename_i r hm
          cases hf
          obtain ⟨p, xs, ep, hp, gp, hda⟩ := R.ownL e0
          obtain ⟨p', G1, ep', R1, s1, hd1⟩ := R.freeze e0
          rw [ep] at ep'
          cases ep'
          obtain ⟨xs', g1p⟩ : ∃ xs', G1 p = some (.lst xs') := by
            cases hd1 with
            | lst z _ => exact ⟨_, z⟩
          have ex := R1.sub p _ g1p
          rw [hp] at ex
          cases ex
          refine ⟨_, _, ρ1, es, R1, e1, fun q ys G2 H2 R2 s2 hq gq no nq da => ?_⟩
          obtain ⟨R3, s3, g2p, h2o⟩ := thaw R e0 ep hp gp hda s1 g1p R2 s2 hm
          have qp : q ≠ p := fun z => by rw [z, g2p] at gq; cases gq
          exact k q ys _ H2 R3 s3 hq (by rw [del_ne qp]; exact gq) (fun o => (h2o q o).elim qp no) nq (das_del g2p da hfl)
        · cases hf
      · cases hf
    · cases hf
  · cases hf
section
variable {X : Cx}
theorem ds_setCW (j : Nat) {i k : Nat} {y x : Str} {py : Pos} {elt iter : Expr} {ifs : List Expr} {scope : Scope} {pos p spos : Pos} {it : LF} {c : TF} {f : EF} (hc : X.calm = true) (hN : X.N.Nodup) (hy : X.N[i]? = some y) (hyl : X.env.scope.names.lookup y = some .local)
    (hsw : swapsWith (.ListComp elt [⟨.Name x p, iter, ifs, 0⟩] scope pos) (some (.Name y py)) spos.line X.env = pure true) (hi : DI X (.Name x p) iter it) (ok : BlkOk X.N X.env.scope scope [(x, k)])
    (hg : ∀ (s : Shared) (H : Hp) (C : Addr) (cl : List (Str × Addr)) (fp : List Addr), PG (X.blk s H scope (compEnvC scope cl C X.env) fp) (.Name x p) (gName k))
    (ht : ∀ (s : Shared) (H : Hp) (C : Addr) (cl : List (Str × Addr)) (fp : List Addr), DC (X.blk s H scope (compEnvC scope cl C X.env) fp) ifs c)
    (he : ∀ (s : Shared) (H : Hp) (C : Addr) (cl : List (Str × Addr)) (fp : List Addr), DE (X.blk s H scope (compEnvC scope cl C X.env) fp) elt f) (hs : ∀ x, foldedSetIterable iter X.env x = pure x := by intro _; rfl) :
    DS X (.Assign [.Name y py] (.ListComp elt [⟨.Name x p, iter, ifs, 0⟩] scope pos) spos) (fHold i (fThaw j (fComp it [k] (tName k) c f))) := by
  refine ps_imp (ps_setLc (own := [(x, k)]) (tt := rT X.w X.K c) (te := rE X.w X.K f) hc hN hy hyl hsw hi ok hg ht he hs) ?_
  intro D σ H h
  exact rF_comp (fun _ _ _ h => h) (fun _ _ _ h => h) _ _ _ (rF_thaw j _ _ _ (rS_hold _ _ _ h))
end
end DL

set_option Elab.async false
set_option linter.all false
set_option maxRecDepth 100000
set_option maxHeartbeats 4000000
/-! y = {k: v} as an own plain dict; range(a, b, -1); min of a list of pairs. -/
namespace DL
open PySem PySem.Spec PyProof.Rows L2 GX StX
open PySem.W (dataLt dataLt_ii AlikeAll alike alikeAll)
variable [DL.FT]
/-! ### y = {k: v} -/
/-- an empty plain dict that no slot holds is changed -/
theorem Rl.otherK {ww : World} {K : PySem.W.Frag} {G H : Hp} {σ : L2.St} {ρ : Rho} {p : Addr} {o : HO} {kvs : List (Key × V)} (R : Rl ww K G σ ρ H) (g : G p = none) (no : ¬ Ow σ ρ p) (hp : H p = some (.dK kvs)) : Rl ww K G σ ρ (upd H p o) where
  len := R.len
  sub := fun b u e => by
    have hb : b ≠ p := fun hb => by rw [hb, g] at e; cases e
    rw [upd_ne hb]; exact R.sub _ _ e
  dat := R.dat
  own := fun {i b c} q => by
    obtain ⟨r, e, h1, h2⟩ := R.own q
    exact ⟨r, e, h1, h2.step (Same.refl _) fun a ha => upd_ne fun hb => no ⟨i, b, c, r, q, e, hb ▸ ha⟩⟩
  dis := R.dis
  scr := fun q => by
    obtain ⟨r, e, h⟩ := R.scr q
    refine ⟨r, e, ?_⟩
    rcases h with ⟨ob, h⟩ | h
    · exact .inl ⟨ob, by rw [upd_ne fun hb => by rw [hb, hp] at h; cases h]; exact h⟩
    · exact .inr h
  tb := R.tb.step (Same.refl _) fun P ps h1 h2 => ⟨h2, (upd_ne (fun z : P = p => by rw [z, hp] at h1; cases h1)).trans h1⟩
def fDicP1 (i : Nat) (fk fv : EF) : SF := fun ρ => match fk ρ with
  | some (e, ρ1) => match fv ρ1, keyP e with
    | some (d, ρ2), some k => some (.nx (ρ2.set i (.own false (.d [(k, d)]))))
    | _, _ => none
  | none => none
section
variable {X : Cx}
theorem ds_dicP1 (i : Nat) {x : Str} {ek ev : Expr} {fk fv : EF} {dpos pos pos' : Pos} (hk : DE X ek fk) (hv : DE X ev fv) (nd : X.N.Nodup) (hN : X.N[i]? = some x := by rfl) (hx : Loc X.env.scope x := by first | exact Or.inl rfl | exact Or.inr rfl)
    (hs : swapsWith (.Dict [some ek] [ev] dpos) (some (.Name x pos')) pos.line X.env = pure false := by rfl) (hf : X.fn x = true ∨ X.env.scope.names.lookup x = some .local := by first | exact .inl rfl | exact .inr rfl) :
    DS X (.Assign [.Name x pos'] (.Dict [some ek] [ev] dpos) pos) (fDicP1 i fk fv) := by
  refine ps_imp (ps_set nd hN hx (pe_disp (pps_cons hk hv pps_nil) rfl rfl (by simp) (by simp)) hs hf) ?_
  rintro D σ H ⟨G, ρ, o, R, hf, k⟩
  unfold fDicP1 at hf
  split at hf
  · rename_i e ρ1 e1
    split at hf
    · rename_i d ρ2 kk e2 e3
      cases hf
      intro p n
      have x1 := Xt.more (p := p) (o := .dK []) R.sub n
      have R1 := R.ext x1
      refine ⟨G, ρ, ρ1, _, R1, e1, fun vk G1 H1 R2 s2 hvk => ⟨G1, ρ1, ρ2, d, R2, e2, fun vv G2 H2 R3 s3 hvv => ?_⟩⟩
      have s23 := s2.trans s3
      have no1 : ¬ Ow σ ρ p := noOw R n
      have hp2 : H2 p = some (.dK []) := s23.fr p _ upd_same (fun _ z => nomatch z) no1
      have ek0 := keyP_da hvk e3
      subst ek0
      have g0 : G p = none := Same.free R.sub n
      have g2 : G2 p = none := by
        cases q : G2 p with
        | none => rfl
        | some o =>
          rcases s23.new p (by rw [q]; simp) with z | z | z
          · exact (z g0).elim
          · rw [upd_same] at z; cases z
          · exact (no1 z).elim
      have no2 : ¬ Ow σ ρ2 p := fun z => by
        rcases s23.ow p z with y | y
        · exact no1 y
        · rw [upd_same] at y; cases y
      refine ⟨hp2, [(kk, vv)], rfl, by simp, ?_⟩
      have xA : DdK X.K G2 (mergeK [] [(kk, vv)]) [(kk, d)] := .cons ⟨rfl, hvv⟩ .nil
      have R4 := R3.otherK (o := .dK (mergeK [] [(kk, vv)])) g2 no2 hp2
      have s4 : Sx G σ ρ H G2 σ ρ2 (upd H2 p (.dK (mergeK [] [(kk, vv)]))) := by
        have back : ∀ b, upd H p (.dK []) b = none → H b = none := fun b z => by
          by_cases hb : b = p
          · rw [hb, upd_same] at z; cases z
          · rw [upd_ne hb] at z; exact z
        refine ⟨s23.gr, fun b z => ?_, fun b o e t no => ?_, fun b z => ?_, fun b z => ?_, s23.par⟩
        · rcases s23.new b z with y | y | y
          · exact .inl y
          · exact .inr (.inl (back b y))
          · exact .inr (.inr y)
        · have hb : b ≠ p := fun hb => by rw [hb, n] at e; cases e
          rw [upd_ne hb]
          exact s23.fr b o (by rw [upd_ne hb]; exact e) t no
        · rcases s23.ow b z with y | y
          · exact .inl y
          · exact .inr (back b y)
        · have hb : b ≠ p := fun hb => z (by rw [hb]; exact n)
          rw [upd_ne hb]
          exact s23.al b (by rw [upd_ne hb]; exact z)
      have one : ∀ {A : Addr → Prop}, A p → ∀ a ∈ reg p (.d [(kk, d)]), A a := fun {A} h a ha => by
        simp only [reg, List.mem_singleton] at ha
        rw [ha]; exact h
      exact k _ G2 _ (R4.holdC (ds := .d [(kk, d)]) (one g2) (one no2) ⟨_, upd_same, xA⟩) (Sx.holdC (ds := .d [(kk, d)]) s4 (one n))
    · cases hf
  · cases hf
/-! ### range(a, b, -1) -/
def downD (i : Int) (n : Nat) : List PyData := (List.range n).map fun j => .int (i - ((j : Nat) : Int))
theorem jd_down {K : PySem.W.Frag} {G : Hp} (lo : Int) (n : Nat) : JD K G (L2.Itc lo (-1) n) (downD lo n) := by
  refine ⟨fun i H _ hi => ?_, fun i H _ hi => ?_, fun i G1 H x H' d _ _ hy hd => ?_⟩
  · have z : i < n := by simpa [downD] using hi
    exact z
  · have z : n ≤ i := by simpa [downD] using hi
    exact z
  · obtain ⟨e, rfl⟩ := hy
    unfold downD at hd
    rw [List.getElem?_map] at hd
    cases q : (List.range n)[i]? with
    | none => rw [q] at hd; cases hd
    | some j =>
      rw [q] at hd
      cases hd
      obtain ⟨hl, z⟩ := List.getElem?_eq_some_iff.mp q
      rw [List.getElem_range] at z
      subst z
      refine ⟨e, ?_⟩
      have w : lo + ((i : Nat) : Int) * (-1) = lo - ((i : Nat) : Int) := by omega
      rw [w]
      exact .int _
def iDown (f : LF) : LF := fun ρ => match f ρ with
  | some ([.int i, .int j, .int c], ρ') => if (small62 i && small62 j && decide (c = -1)) = true then some (downD i (i - j).toNat, ρ') else none
  | _ => none
theorem di_down {tg a b c : Expr} {f : LF} {p pos : Pos} (hg : Gl X "range") (hm : X.mg "range" = none) (ha : DLs X [a, b, c] f)
    (hs : starEach [a, b, c] X.env = (false, eval a X.env) :: starEach [b, c] X.env := by rfl) (hpl : (backTo pos (starEach [b, c] X.env)).any (·.1) = false := by rfl) (hs3 : starEach [a, b, c] X.env = [(false, eval a X.env), (false, eval b X.env), (false, eval c X.env)] := by rfl)  (hs2 : starEach [b, c] X.env = [(false, eval b X.env), (false, eval c X.env)] := by rfl) (hs1 : starEach [c] X.env = [(false, eval c X.env)] := by rfl) :
    DI X tg (.Call (.Name "range" p) [a, b, c] [] pos) (iDown f) := by
  refine pi_imp (pi_range3 hg hm ha hs hpl) ?_
  rintro σ H R ⟨G, ρ, ρ', ds, Rr, hf, k⟩
  unfold iDown at hf
  split at hf
  · rename_i i j c ρ1 e1
    split at hf
    · rename_i hz
      cases hf
      refine ⟨G, ρ, _, _, Rr, e1, fun vs G1 H1 R1 s1 q1 => ?_⟩
      rw [Bool.and_eq_true, Bool.and_eq_true] at hz
      obtain ⟨⟨h1, h2⟩, h3⟩ := hz
      have h3 : c = -1 := of_decide_eq_true h3
      subst h3
      obtain ⟨z1, z2⟩ := small62_of h1
      obtain ⟨z3, z4⟩ := small62_of h2
      have e2 := DaA.ints (ns := [i, j, -1]) q1
      exact ⟨i, j, -1, _, e2, RgC.neg z1 z2 z3 z4, k _ _ _ R1 s1 (jd_down i (i - j).toNat)⟩
    · cases hf
  · cases hf
end
/-! ### min of a list of pairs -/
def pD (p : Int × Int) : PyData := .tuple [.int p.1, .int p.2]
def pairsP : List PyData → Option (List (Int × Int))
  | [] => some []
  | .tuple [.int a, .int b] :: ds => (pairsP ds).map fun ps => (a, b) :: ps
  | _ => none
theorem pairsP_eq : ∀ {ds : List PyData} {ps : List (Int × Int)}, pairsP ds = some ps → ds = ps.map pD
  | [], ps, h => by cases h; rfl
  | d :: ds, ps, h => by
    unfold pairsP at h
    split at h
    · rename_i e; cases e
    · rename_i a b ds' e
      cases e
      cases q : pairsP ds with
      | none => rw [q] at h; cases h
      | some qs =>
        rw [q] at h
        cases h
        rw [pairsP_eq q]
        rfl
    · cases h
theorem pairsP_of : ∀ (ps : List (Int × Int)), pairsP (ps.map pD) = some ps
  | [] => rfl
  | (a, b) :: ps => by
    show (pairsP (ps.map pD)).map (fun ps => (a, b) :: ps) = _
    rw [pairsP_of ps]
    rfl
def ltP (p q : Int × Int) : Bool := decide (p.1 < q.1 ∨ (p.1 = q.1 ∧ p.2 < q.2))
def minPs (p : Int × Int) (ps : List (Int × Int)) : Int × Int := ps.foldl (fun a y => if ltP y a = true then y else a) p
theorem lt_pD (p q : Int × Int) : dataLt (pD p) (pD q) = ltP p q := dataLt_ii p.1 p.2 q.1 q.2
def minPD : OpN
  | [.list ds] => match pairsP ds with
    | some (p :: ps) => some (pD (minPs p ps))
    | _ => none
  | _ => none
theorem fold_pD : ∀ (ps : List (Int × Int)) (p : Int × Int), (ps.map pD).foldl (fun a y => if dataLt y a = true then y else a) (pD p) = pD (minPs p ps)
  | [], p => rfl
  | q :: ps, p => by
    rw [List.map_cons, List.foldl_cons, lt_pD]
    unfold minPs
    rw [List.foldl_cons]
    by_cases c : ltP q p = true
    · rw [if_pos c, if_pos c]; exact fold_pD ps q
    · rw [if_neg c, if_neg c]; exact fold_pD ps p
theorem alike_pD (ps : List (Int × Int)) : AlikeAll (ps.map pD) := by
  refine ⟨fun x hx y hy => ?_, fun x hx => ?_⟩
  · obtain ⟨p, _, rfl⟩ := List.mem_map.mp hx
    obtain ⟨q, _, rfl⟩ := List.mem_map.mp hy
    simp [pD, alike, alikeAll]
  · obtain ⟨p, _, rfl⟩ := List.mem_map.mp hx
    simp [pD]
theorem depth_pD : ∀ (ps : List (Int × Int)), PyData.depthAll (ps.map pD) ≤ 4
  | [] => by simp [PyData.depthAll]
  | p :: ps => by
    have := depth_pD ps
    rw [List.map_cons]
    simp only [PyData.depthAll, pD, PyData.depth]
    omega
theorem noDict_pD : ∀ (ps : List (Int × Int)), PyData.hasDictAll (ps.map pD) = false
  | [] => rfl
  | p :: ps => by
    rw [List.map_cons]
    simp only [PyData.hasDictAll, pD, PyData.hasDict, noDict_pD ps, Bool.or_false]
section
variable {X : Cx}
def rMinP (K : PySem.W.Frag) : List V → Hp → VK → Prop := fun xs H Q => ∃ (a : Addr) (G : Hp) (vs : List V) (p : Int × Int) (ps : List (Int × Int)), xs = [.ref a] ∧ Same G H ∧ H a = some (.lst vs) ∧ DaA K G vs ((p :: ps).map pD) ∧ ∀ v, Da K G v (pD (minPs p ps)) → Q v H
theorem cr_minP (hc : X.calm = true) (hu : X.A.units + 64 < cLine) : CallR X (.builtin "min") (rMinP X.K) := by
  intro pins s σ H xs us Q I r h
  obtain ⟨a, G, vs, p, ps, rfl, sub, hl, ha, q⟩ := h
  rw [Vals.ref1 r]
  obtain ⟨its, rv, hls, _⟩ := I.list (.inl (.inl hl))
  obtain ⟨as, hr⟩ := DaA.reads0 I _ _ its (ha.same sub) (noDict_pD (p :: ps)) rv
  have len1 : vs.length = ps.length + 1 := by rw [ha.len]; simp
  have len2 : its.length = ps.length + 1 := by rw [← rv.length, len1]
  have hr' : ReadsAll s.heap its.toArray.toList ((p :: ps).map pD) as := by simpa using hr
  have hh : X.A.in1.handled = none := I.ok.hd hc
  refine PySem.call_min_walkH (PySem.W.iter_listW hh hls.isList fun s2 e W st hfp hw hk => ?_)
  refine ⟨_, _, _, _, _, _, _, s.heap, _, rfl, W, st, hfp, by simp [len2], hw, hk, PySem.W.cmpIn_lt hr' (alike_pD _) ?_, fun v s' hP m => ?_⟩
  · have := depth_pD (p :: ps)
    show X.A.units + 1 + _ < _
    omega
  · obtain ⟨h', tk, rfl, hk'⟩ := PySem.W.moved_old e rfl m
    have sz : its.toArray.size - 1 = (ps.map pD).length := by simp [len2]
    have f2 := PySem.W.argBest_fold dataLt PyData.none (pD p) (ps.map pD) (ps.map pD).length (Nat.le_refl _)
    obtain ⟨f3, f4⟩ := f2
    rw [List.take_length, fold_pD] at f4
    rw [sz] at hP
    have f5 : PySem.argBest (fun i j => dataLt (((p :: ps).map pD).getD i .none) (((p :: ps).map pD).getD j .none)) (ps.map pD).length < ((p :: ps).map pD).length := by
      simp only [List.map_cons, List.length_cons]
      exact Nat.lt_succ_of_le f3
    obtain ⟨x, hx, hd⟩ := ha.get (List.getElem?_eq_getElem f5)
    obtain ⟨u, e1, e2⟩ := rv.get hx
    have hv : its[PySem.argBest (fun i j => dataLt (((p :: ps).map pD).getD i .none) (((p :: ps).map pD).getD j .none)) (ps.map pD).length]? = some v := by simpa using hP
    rw [hv] at e1
    cases e1
    refine ⟨x, H, I.kept hk', e2, q x ?_⟩
    have g : ((p :: ps).map pD)[PySem.argBest (fun i j => dataLt (((p :: ps).map pD).getD i .none) (((p :: ps).map pD).getD j .none)) (ps.map pD).length]'f5 = pD (minPs p ps) := by
      rw [← f4]
      simp only [List.map_cons]
      rw [List.getD_eq_getElem?_getD, List.getElem?_eq_getElem (by simpa using f5)]
      rfl
    rw [g] at hd
    exact hd
theorem cl_minP (hc : X.calm = true) (hu : X.A.units + 64 < cLine) : CallR X (.builtin "min") (rCl X.w X.K minPD) := by
  refine CallR.imp (cr_minP hc hu) ?_
  rintro xs H Q ⟨G, ds, r, sub, hd, h, k⟩
  unfold minPD at h
  split at h
  · split at h
    · rename_i ds' p ps e
      cases h
      obtain ⟨v, rfl, hv⟩ := pair1 hd
      obtain ⟨a, ys, rfl, hp, ha⟩ := bo_list hv sub
      rw [pairsP_eq e] at ha
      exact ⟨a, G, ys, p, ps, rfl, sub, hp, ha, fun v hv => k v G H (Xt.refl sub) hv⟩
    · cases h
  · cases h
end
end DL

set_option Elab.async false
set_option linter.all false
set_option maxRecDepth 100000
set_option maxHeartbeats 4000000
/-! Where the row's defs stand; what its names are. -/
namespace K75
open PySem PySem.Spec PyProof.Rows L2 GX StX DL
def top (i : Nat) : Stmt := PySem.Challenge.pw_missbounds_k75_weights.main.body.getD i (.Pass ⟨0, 0, 0, 0⟩)
def frees : List Str := ["len", "int", "abs", "divmod", "isinstance", "sum", "repr", "all", "range", "max", "min", "tuple", "str", "bool", "enumerate", "any", "list", "zip", "reversed"]
structure Fx (K : PySem.W.Frag) (w : World) (mg : Str → Option Value) : Prop where
  free : ∀ x ∈ frees, mg x = none
  i4 : ∃ t, mg "MOST_LINES" = some (.int 4 t)
  i2000 : ∃ t, mg "MOST_REQUESTS" = some (.int 2000 t)
  i200 : ∃ t, mg "MOST_KEPT" = some (.int 200 t)
  i6 : ∃ t, mg "LONGEST" = some (.int 6 t)
  letters : ∃ t, mg "LETTERS" = some (.str "abcdefghijklmnopqrstuvwxyz" t)
end K75

set_option Elab.async false
set_option linter.all false
set_option maxRecDepth 100000
set_option maxHeartbeats 4000000
/-! The program. -/
namespace K75
open PySem PySem.Spec PyProof.Rows L2 GX StX DL PySem.Calls NdefX
variable [DL.FT]
section
variable {P : Program} {w : World} {K : PySem.W.Frag} {mg : Str → Option Value} {base : Heap} {k : Nat} {f : Addr} {fd : FuncData}
abbrev N_iswhole : List Str := ["value"]
theorem sc_iswhole : FnScope N_iswhole ["value"] (defScope (top 7)) := ⟨rfl, rfl, rfl, by decide +kernel, rfl, by decide +kernel, by decide +kernel⟩
def g_iswhole : SF := (fSq (fRet (fAndV (fIsa dInt (gVar 0)) (fNotV (fIsa dBool (gVar 0)))))
  fNx)
def F_iswhole : FF := fBody 0 g_iswhole
theorem ok_iswhole (F : FunD K "is_whole" "is_whole" (defArgs (top 7)) (defBody (top 7)) (defScope (top 7)) [] [] f fd) (T : Fx K w mg) :
    FnG P w K mg base (k + 1) f fd ["value"] (spD w K 1 F_iswhole) := by
  have h1 := okD (P := P) (w := w) (base := base) (mg := mg) (k := k) F sc_iswhole (g := g_iswhole)
  rw [show F_iswhole = fBody (N_iswhole.length - (["value"] : List Str).length) g_iswhole from rfl]
  refine h1 fun cdv A outer s H E hG hR => ?_
  have hu : (A.deeper (envOfC "is_whole" (defScope (top 7)) s.heap.objs.size f cdv)).units + 65 < cLine := by
    have := hR.un
    omega
  have hu64 : (A.deeper (envOfC "is_whole" (defScope (top 7)) s.heap.objs.size f cdv)).units + 64 < cLine := by omega
  exact (dss_cons (ds_ret (de_and (de_isa kit_int (gv 0) rfl (T.free "isinstance" (by decide)) rfl (T.free "int" (by decide)) (by decide +kernel)) (de_one (de_not (de_isa kit_bool (gv 0) rfl (T.free "isinstance" (by decide)) rfl (T.free "bool" (by decide)) (by decide +kernel))))))
    dss_nil)
abbrev N_isbetween : List Str := ["value", "least", "most"]
theorem sc_isbetween : FnScope N_isbetween ["value", "least", "most"] (defScope (top 8)) := ⟨rfl, rfl, rfl, by decide +kernel, rfl, by decide +kernel, by decide +kernel⟩
def g_isbetween : SF := (fSq (fRet (fAndV (fCa 1 F_iswhole (aCons (gVar 0) aNil)) (fChain leD leD (gVar 1) (gVar 0) (gVar 2))))
  fNx)
def F_isbetween : FF := fBody 0 g_isbetween
theorem ok_isbetween (F : FunD K "is_between" "is_between" (defArgs (top 8)) (defBody (top 8)) (defScope (top 8)) [] [] f fd) (T : Fx K w mg) (c_iswhole : Cal P w K mg base k "is_whole" ["value"] (spD w K 1 F_iswhole)) :
    FnG P w K mg base (k + 1) f fd ["value", "least", "most"] (spD w K 3 F_isbetween) := by
  have h1 := okD (P := P) (w := w) (base := base) (mg := mg) (k := k) F sc_isbetween (g := g_isbetween)
  rw [show F_isbetween = fBody (N_isbetween.length - (["value", "least", "most"] : List Str).length) g_isbetween from rfl]
  refine h1 fun cdv A outer s H E hG hR => ?_
  have hu : (A.deeper (envOfC "is_between" (defScope (top 8)) s.heap.objs.size f cdv)).units + 65 < cLine := by
    have := hR.un
    omega
  have hu64 : (A.deeper (envOfC "is_between" (defScope (top 8)) s.heap.objs.size f cdv)).units + 64 < cLine := by omega
  exact (dss_cons (ds_ret (de_and (ecall c_iswhole hG hR (das_cons (gv 0) das_nil)) (de_one (de_chain op_leD op_leD (gv 1) (gv 0) (gv 2)))))
    dss_nil)
abbrev N_istuple : List Str := ["value", "least", "most"]
theorem sc_istuple : FnScope N_istuple ["value", "least", "most"] (defScope (top 9)) := ⟨rfl, rfl, rfl, by decide +kernel, rfl, by decide +kernel, by decide +kernel⟩
def g_istuple : SF := (fSq (fRet (fAndV (fIsa dTup (gVar 0)) (fChain leD leD (gVar 1) (gVal (fCl lenD (aCons (gVar 0) aNil))) (gVar 2))))
  fNx)
def F_istuple : FF := fBody 0 g_istuple
theorem ok_istuple (F : FunD K "is_tuple" "is_tuple" (defArgs (top 9)) (defBody (top 9)) (defScope (top 9)) [] [] f fd) (T : Fx K w mg) :
    FnG P w K mg base (k + 1) f fd ["value", "least", "most"] (spD w K 3 F_istuple) := by
  have h1 := okD (P := P) (w := w) (base := base) (mg := mg) (k := k) F sc_istuple (g := g_istuple)
  rw [show F_istuple = fBody (N_istuple.length - (["value", "least", "most"] : List Str).length) g_istuple from rfl]
  refine h1 fun cdv A outer s H E hG hR => ?_
  have hu : (A.deeper (envOfC "is_tuple" (defScope (top 9)) s.heap.objs.size f cdv)).units + 65 < cLine := by
    have := hR.un
    omega
  have hu64 : (A.deeper (envOfC "is_tuple" (defScope (top 9)) s.heap.objs.size f cdv)).units + 64 < cLine := by omega
  exact (dss_cons (ds_ret (de_and (de_isa kit_tup (gv 0) rfl (T.free "isinstance" (by decide)) rfl (T.free "tuple" (by decide)) (by decide +kernel)) (de_one (de_chain op_leD op_leD (gv 1) (dg_val (de_callB cl_len rfl (T.free "len" (by decide)) (by decide +kernel) (das_cons (gv 0) das_nil))) (gv 2)))))
    dss_nil)
abbrev N_isname : List Str := ["value", "letter"]
theorem sc_isname : FnScope N_isname ["value"] (defScope (top 16)) := ⟨rfl, rfl, rfl, by decide +kernel, rfl, by decide +kernel, by decide +kernel⟩
def g_isname : SF := (fSq (fIfS (fOr (fNot (fTst (fIsa dStr (gVar 0)))) (fNot (fTst (fChain leD leD (gVal (fC (.int 1))) (gVal (fCl lenD (aCons (gVar 0) aNil))) (gVal (fC (.int 6))))))) (fSq (fRet (fC (.bool false)))
  fNx) fNx)
  (fSq (fRet (fCl allD (aCons (gVal (fLst (fComp (iTxt (fVar 0)) [1] (tName 1) fYes (fOp inS (gVar 1) (gVal (fC (.str "abcdefghijklmnopqrstuvwxyz"))))))) aNil)))
  fNx))
def F_isname : FF := fBody 1 g_isname
theorem ok_isname (F : FunD K "is_name" "is_name" (defArgs (top 16)) (defBody (top 16)) (defScope (top 16)) [] [] f fd) (T : Fx K w mg) :
    FnG P w K mg base (k + 1) f fd ["value"] (spD w K 1 F_isname) := by
  have h1 := okD (P := P) (w := w) (base := base) (mg := mg) (k := k) F sc_isname (g := g_isname)
  rw [show F_isname = fBody (N_isname.length - (["value"] : List Str).length) g_isname from rfl]
  refine h1 fun cdv A outer s H E hG hR => ?_
  have hu : (A.deeper (envOfC "is_name" (defScope (top 16)) s.heap.objs.size f cdv)).units + 65 < cLine := by
    have := hR.un
    omega
  have hu64 : (A.deeper (envOfC "is_name" (defScope (top 16)) s.heap.objs.size f cdv)).units + 64 < cLine := by omega
  exact (dss_cons (ds_if (dt_w (dw_or (dt_not (dt_val (de_isa kit_str (gv 0) rfl (T.free "isinstance" (by decide)) rfl (T.free "str" (by decide)) (by decide +kernel)))) (dw_or1 (dt_not (dt_chain op_leD op_leD (dg_val de_int) (dg_val (de_callB cl_len rfl (T.free "len" (by decide)) (by decide +kernel) (das_cons (gv 0) das_nil))) (dg_val (de_gint rfl T.i6.choose_spec))))))) (dss_cons (ds_ret de_bl)
    dss_nil) dss_nil)
    (dss_cons (ds_ret (de_callB (cl_all rfl) rfl (T.free "all" (by decide)) (by decide +kernel) (das_cons (dg_val (de_new (dn_comp rfl sc_isname.nd (di_txt (ev 0)) (blkOk_by (N := N_isname) (sc := (defScope (top 16))) (own := [("letter", 1)]) (by decide +kernel)) (fun _ _ _ _ _ => kn 1 sc_isname.nd) (fun _ _ _ _ _ => dc_nil) (fun _ _ _ _ _ => (de_cmp op_inS (gv 1) (dg_val (de_gstr rfl T.letters.choose_spec)) (by rfl)))))) das_nil)))
    dss_nil))
abbrev N_checkhistory : List Str := ["value", "index", "name"]
theorem sc_checkhistory : FnScope N_checkhistory ["value"] (defScope (top 17)) := ⟨rfl, rfl, rfl, by decide +kernel, rfl, by decide +kernel, by decide +kernel⟩
def g_checkhistory : SF := (fSq (fIfS (fNot (fTst (fCa 3 F_istuple (aCons (gVar 0) (aCons (gVal (fC (.int 0))) (aCons (gVal (fC (.int 2000))) aNil)))))) (fSq fNv
  fNx) fNx)
  (fSq (fFor (iEnum (fVar 0)) (tTupT 2 [(tName 1), (tName 2)]) (fSq (fIfS (fNot (fTst (fCa 1 F_isname (aCons (gVar 2) aNil)))) (fSq fNv
  fNx) fNx)
  fNx))
  fNx))
def F_checkhistory : FF := fBody 2 g_checkhistory
theorem ok_checkhistory (F : FunD K "check_history" "check_history" (defArgs (top 17)) (defBody (top 17)) (defScope (top 17)) [] [] f fd) (T : Fx K w mg) (c_isname : Cal P w K mg base k "is_name" ["value"] (spD w K 1 F_isname)) (c_istuple : Cal P w K mg base k "is_tuple" ["value", "least", "most"] (spD w K 3 F_istuple)) :
    FnG P w K mg base (k + 1) f fd ["value"] (spD w K 1 F_checkhistory) := by
  have h1 := okD (P := P) (w := w) (base := base) (mg := mg) (k := k) F sc_checkhistory (g := g_checkhistory)
  rw [show F_checkhistory = fBody (N_checkhistory.length - (["value"] : List Str).length) g_checkhistory from rfl]
  refine h1 fun cdv A outer s H E hG hR => ?_
  have hu : (A.deeper (envOfC "check_history" (defScope (top 17)) s.heap.objs.size f cdv)).units + 65 < cLine := by
    have := hR.un
    omega
  have hu64 : (A.deeper (envOfC "check_history" (defScope (top 17)) s.heap.objs.size f cdv)).units + 64 < cLine := by omega
  exact (dss_cons (ds_if (dt_not (dt_val (ecall c_istuple hG hR (das_cons (gv 0) (das_cons (dg_val de_int) (das_cons (dg_val (de_gint rfl T.i2000.choose_spec)) das_nil)))))) (dss_cons ds_nv
    dss_nil) dss_nil)
    (dss_cons (ds_forP PassesOwn.never rfl (dip_enumT rfl (T.free "enumerate" (by decide)) (ev 0)) (dtgs_cons (tn 1 sc_checkhistory.nd) (dtgs_cons (tn 2 sc_checkhistory.nd) dtgs_nil)) (dss_cons (ds_if (dt_not (dt_val (ecall c_isname hG hR (das_cons (gv 2) das_nil)))) (dss_cons ds_nv
    dss_nil) dss_nil)
    dss_nil))
    dss_nil))
abbrev N_checkknown : List Str := ["names", "lines"]
theorem sc_checkknown : FnScope N_checkknown ["names", "lines"] (defScope (top 20)) := ⟨rfl, rfl, rfl, by decide +kernel, rfl, by decide +kernel, by decide +kernel⟩
def g_checkknown : SF := (fSq (fDrop (fCa 1 F_checkhistory (aCons (gVar 0) aNil)))
  (fSq (fIfS (fNot (fTst (fCa 3 F_isbetween (aCons (gVar 1) (aCons (gVal (fC (.int 1))) (aCons (gVal (fC (.int 4))) aNil)))))) (fSq fNv
  fNx) fNx)
  (fSq (fIfS (fTst (fOp gtD (gVal (fCl lenD (aCons (gVar 0) aNil))) (gVal (fC (.int 200))))) (fSq fNv
  fNx) fNx)
  fNx)))
def F_checkknown : FF := fBody 0 g_checkknown
theorem ok_checkknown (F : FunD K "check_known" "check_known" (defArgs (top 20)) (defBody (top 20)) (defScope (top 20)) [] [] f fd) (T : Fx K w mg) (c_checkhistory : Cal P w K mg base k "check_history" ["value"] (spD w K 1 F_checkhistory)) (c_isbetween : Cal P w K mg base k "is_between" ["value", "least", "most"] (spD w K 3 F_isbetween)) :
    FnG P w K mg base (k + 1) f fd ["names", "lines"] (spD w K 2 F_checkknown) := by
  have h1 := okD (P := P) (w := w) (base := base) (mg := mg) (k := k) F sc_checkknown (g := g_checkknown)
  rw [show F_checkknown = fBody (N_checkknown.length - (["names", "lines"] : List Str).length) g_checkknown from rfl]
  refine h1 fun cdv A outer s H E hG hR => ?_
  have hu : (A.deeper (envOfC "check_known" (defScope (top 20)) s.heap.objs.size f cdv)).units + 65 < cLine := by
    have := hR.un
    omega
  have hu64 : (A.deeper (envOfC "check_known" (defScope (top 20)) s.heap.objs.size f cdv)).units + 64 < cLine := by omega
  exact (dss_cons (ds_expr (ecall c_checkhistory hG hR (das_cons (gv 0) das_nil)))
    (dss_cons (ds_if (dt_not (dt_val (ecall c_isbetween hG hR (das_cons (gv 1) (das_cons (dg_val de_int) (das_cons (dg_val (de_gint rfl T.i4.choose_spec)) das_nil)))))) (dss_cons ds_nv
    dss_nil) dss_nil)
    (dss_cons (ds_if (dt_cmp op_gtD (dg_val (de_callB cl_len rfl (T.free "len" (by decide)) (by decide +kernel) (das_cons (gv 0) das_nil))) (dg_val (de_gint rfl T.i200.choose_spec)) (by rfl)) (dss_cons ds_nv
    dss_nil) dss_nil)
    dss_nil)))
abbrev N_nextrequests : List Str := ["names", "later", "follows", "index"]
theorem sc_nextrequests : FnScope N_nextrequests ["names"] (defScope (top 21)) := ⟨rfl, rfl, rfl, by decide +kernel, rfl, by decide +kernel, by decide +kernel⟩
def g_nextrequests : SF := (fSq (fDicP 1)
  (fSq (fHold 2 (lLst lNil))
  (fSq (fFor (iRev (fCl lenD (aCons (gVar 0) aNil))) (tName 3) (fSq (fApp 2 (fGetP 1 (fOp ixD (gVar 0) (gVar 3))))
  (fSq (fAsg (fVar 3) (tSubP 1 (fOp ixD (gVar 0) (gVar 3))))
  fNx)))
  (fSq (fRet (fLst (fRevL (gVar 2))))
  fNx))))
def F_nextrequests : FF := fBody 3 g_nextrequests
theorem ok_nextrequests (F : FunD K "next_requests" "next_requests" (defArgs (top 21)) (defBody (top 21)) (defScope (top 21)) [] [] f fd) (T : Fx K w mg) :
    FnG P w K mg base (k + 1) f fd ["names"] (spD w K 1 F_nextrequests) := by
  have h1 := okD (P := P) (w := w) (base := base) (mg := mg) (k := k) F sc_nextrequests (g := g_nextrequests)
  rw [show F_nextrequests = fBody (N_nextrequests.length - (["names"] : List Str).length) g_nextrequests from rfl]
  refine h1 fun cdv A outer s H E hG hR => ?_
  have hu : (A.deeper (envOfC "next_requests" (defScope (top 21)) s.heap.objs.size f cdv)).units + 65 < cLine := by
    have := hR.un
    omega
  have hu64 : (A.deeper (envOfC "next_requests" (defScope (top 21)) s.heap.objs.size f cdv)).units + 64 < cLine := by omega
  exact (dss_cons (ds_dicP 1 sc_nextrequests.nd)
    (dss_cons (shold 2 sc_nextrequests.nd (dn_lst dls_nil))
    (dss_cons (ds_for PassesOwn.never rfl (di_rev rfl (T.free "reversed" (by decide)) rfl (T.free "range" (by decide)) (de_callB cl_len rfl (T.free "len" (by decide)) (by decide +kernel) (das_cons (gv 0) das_nil))) (tn 3 sc_nextrequests.nd) (dss_cons (sapp 2 (de_getP hu64 1 (de_ix ix_D (gv 0) (gv 3))))
    (dss_cons (ds_asg (ev 3) (dtg_subP hu64 1 (de_ix ix_D (gv 0) (gv 3))))
    dss_nil)))
    (dss_cons (ds_ret (de_new (dn_revL (gv 2))))
    dss_nil))))
end
end K75

set_option Elab.async false
set_option linter.all false
set_option maxRecDepth 100000
set_option maxHeartbeats 4000000
/-! The best weights. -/
namespace K75
open PySem PySem.Spec PyProof.Rows L2 GX StX DL PySem.Calls NdefX
variable [DL.FT]
section
variable {P : Program} {w : World} {K : PySem.W.Frag} {mg : Str → Option Value} {base : Heap} {k : Nat} {f : Addr} {fd : FuncData}
abbrev N_cheapesttimes : List Str := ["follows", "price", "costs", "sources", "time", "missed", "offers", "before", "cost", "times"]
theorem sc_cheapesttimes : FnScope N_cheapesttimes ["follows", "price"] (defScope (top 22)) := ⟨rfl, rfl, rfl, by decide +kernel, rfl, by decide +kernel, by decide +kernel⟩
def g_cheapesttimes : SF := (fSq (fDicP1 2 (fC (.int (-1))) (fC (.int 0)))
  (fSq (fDicP 3)
  (fSq (fFor (iRange1 (lCons (fOp addD (gVal (fCl lenD (aCons (gVar 0) aNil))) (gVal (fC (.int 1)))) lNil)) (tName 4) (fSq (fAsg (fC (.int 0)) (tName 5))
  (fSq (fHold 6 (lLst lNil))
  (fSq (fFor (iDown (lCons (fOp subD (gVar 4) (gVal (fC (.int 1)))) (lCons (fC (.int (-2))) (lCons (fC (.int (-1))) lNil)))) (tName 7) (fSq (fIfS (fAnd (fTst (fOp geD (gVar 7) (gVal (fC (.int 0))))) (fAnd (fTst (fOp isNotD (gVal (fOp ixD (gVar 0) (gVar 7))) (gVal (fC .none)))) (fTst (fOp leD (gVal (fOp ixD (gVar 0) (gVar 7))) (gVar 4))))) (fSq (fAugI 5 (fC (.int 1)))
  fNx) fNx)
  (fSq (fApp 6 (fTup (lCons (fOp addD (gVal (fIxP 2 (fVar 7))) (gVar 5)) (lCons (fVar 7) lNil))))
  fNx)))
  (fSq (fAsg (fCl minPD (aCons (gVar 6) aNil)) (tTupT 2 [(tName 8), (tSubP 3 (fVar 4))]))
  (fSq (fAsg (fOp addD (gVar 8) (gVar 1)) (tSubP 2 (fVar 4)))
  fNx))))))
  (fSq (fHold 9 (lLst (lCons (fIxP 3 (fCl lenD (aCons (gVar 0) aNil))) lNil)))
  (fSq (fWh (fTst (fOp geD (gVal (fOp ixD (gVar 9) (gVal (fC (.int (-1)))))) (gVal (fC (.int 0))))) (fSq (fApp 9 (fIxP 3 (fOp ixD (gVar 9) (gVal (fC (.int (-1)))))))
  fNx) 260)
  (fSq (fRet (fSl (gVar 9) oNone (oSome (fC (.int (-1))))))
  fNx))))))
def F_cheapesttimes : FF := fBody 8 g_cheapesttimes
theorem ok_cheapesttimes (F : FunD K "cheapest_times" "cheapest_times" (defArgs (top 22)) (defBody (top 22)) (defScope (top 22)) [] [] f fd) (T : Fx K w mg) :
    FnG P w K mg base (k + 1) f fd ["follows", "price"] (spD w K 2 F_cheapesttimes) := by
  have h1 := okD (P := P) (w := w) (base := base) (mg := mg) (k := k) F sc_cheapesttimes (g := g_cheapesttimes)
  rw [show F_cheapesttimes = fBody (N_cheapesttimes.length - (["follows", "price"] : List Str).length) g_cheapesttimes from rfl]
  refine h1 fun cdv A outer s H E hG hR => ?_
  have hu : (A.deeper (envOfC "cheapest_times" (defScope (top 22)) s.heap.objs.size f cdv)).units + 65 < cLine := by
    have := hR.un
    omega
  have hu64 : (A.deeper (envOfC "cheapest_times" (defScope (top 22)) s.heap.objs.size f cdv)).units + 64 < cLine := by omega
  exact (dss_cons (ds_dicP1 2 de_neg de_int sc_cheapesttimes.nd)
    (dss_cons (ds_dicP 3 sc_cheapesttimes.nd)
    (dss_cons (ds_for PassesOwn.never rfl (di_range1 rfl (T.free "range" (by decide)) (dls_cons (de_op op_addD (dg_val (de_callB cl_len rfl (T.free "len" (by decide)) (by decide +kernel) (das_cons (gv 0) das_nil))) (dg_val de_int)) dls_nil)) (tn 4 sc_cheapesttimes.nd) (dss_cons (sset 5 sc_cheapesttimes.nd de_int)
    (dss_cons (shold 6 sc_cheapesttimes.nd (dn_lst dls_nil))
    (dss_cons (ds_for PassesOwn.never rfl (di_down rfl (T.free "range" (by decide)) (dls_cons (de_op op_subD (gv 4) (dg_val de_int)) (dls_cons de_neg (dls_cons de_neg dls_nil)))) (tn 7 sc_cheapesttimes.nd) (dss_cons (ds_if (dt_w (dw_and (dt_cmp op_geD (gv 7) (dg_val de_int) (by rfl)) (dw_and (dt_cmp op_isNotD (dg_val (de_ix ix_D (gv 0) (gv 7))) (dg_val de_non) (by rfl)) (dw_and1 (dt_cmp op_leD (dg_val (de_ix ix_D (gv 0) (gv 7))) (gv 4) (by rfl)))))) (dss_cons (ds_augI 5 sc_cheapesttimes.nd de_int)
    dss_nil) dss_nil)
    (dss_cons (sapp 6 (de_tup (dls_cons (de_op op_addD (dg_val (de_ixP hu64 2 (ev 7))) (gv 5)) (dls_cons (ev 7) dls_nil))))
    dss_nil)))
    (dss_cons (ds_asg (de_callB (cl_minP rfl hu64) rfl (T.free "min" (by decide)) (by decide +kernel) (das_cons (gv 6) das_nil)) (dtg_tup rfl (dtgs_cons (tn 8 sc_cheapesttimes.nd) (dtgs_cons (dtg_subP hu64 3 (ev 4)) dtgs_nil))))
    (dss_cons (ds_asg (de_op op_addD (gv 8) (gv 1)) (dtg_subP hu64 2 (ev 4)))
    dss_nil))))))
    (dss_cons (shold 9 sc_cheapesttimes.nd (dn_lst (dls_cons (de_ixP hu64 3 (de_callB cl_len rfl (T.free "len" (by decide)) (by decide +kernel) (das_cons (gv 0) das_nil))) dls_nil)))
    (dss_cons (ds_while 260 PassesOwn.never (dt_cmp op_geD (dg_val (de_ix ix_D (gv 9) (dg_val de_neg))) (dg_val de_int) (by rfl)) (dss_cons (sapp 9 (de_ixP hu64 3 (de_ix ix_D (gv 9) (dg_val de_neg))))
    dss_nil))
    (dss_cons (ds_ret (de_slice (gv 9) do_none (do_some de_neg)))
    dss_nil))))))
abbrev N_bestweights : List Str := ["names", "lines", "times", "time"]
theorem sc_bestweights : FnScope N_bestweights ["names", "lines"] (defScope (top 19)) := ⟨rfl, rfl, rfl, by decide +kernel, rfl, by decide +kernel, by decide +kernel⟩
def g_bestweights : SF := (fSq (fDrop (fCa 2 F_checkknown (aCons (gVar 0) (aCons (gVar 1) aNil))))
  (fSq (fAsg (fCa 2 F_cheapesttimes (aCons (gVal (fCa 1 F_nextrequests (aCons (gVar 0) aNil))) (aCons (gVal (fOp subD (gVar 1) (gVal (fC (.int 1))))) aNil))) (tName 2))
  (fSq (fRet (fCl tupleD (aCons (gVal (fLst (fComp (iRange1 (lCons (fCl lenD (aCons (gVar 0) aNil)) lNil)) [3] (tName 3) fYes (fIf (fTst (fOp inD (gVar 3) (gVar 2))) (fC (.int 1)) (fC (.int 0)))))) aNil)))
  fNx)))
def F_bestweights : FF := fBody 2 g_bestweights
theorem ok_bestweights (F : FunD K "best_weights" "best_weights" (defArgs (top 19)) (defBody (top 19)) (defScope (top 19)) [] [] f fd) (T : Fx K w mg) (c_cheapesttimes : Cal P w K mg base k "cheapest_times" ["follows", "price"] (spD w K 2 F_cheapesttimes)) (c_checkknown : Cal P w K mg base k "check_known" ["names", "lines"] (spD w K 2 F_checkknown)) (c_nextrequests : Cal P w K mg base k "next_requests" ["names"] (spD w K 1 F_nextrequests)) :
    FnG P w K mg base (k + 1) f fd ["names", "lines"] (spD w K 2 F_bestweights) := by
  have h1 := okD (P := P) (w := w) (base := base) (mg := mg) (k := k) F sc_bestweights (g := g_bestweights)
  rw [show F_bestweights = fBody (N_bestweights.length - (["names", "lines"] : List Str).length) g_bestweights from rfl]
  refine h1 fun cdv A outer s H E hG hR => ?_
  have hu : (A.deeper (envOfC "best_weights" (defScope (top 19)) s.heap.objs.size f cdv)).units + 65 < cLine := by
    have := hR.un
    omega
  have hu64 : (A.deeper (envOfC "best_weights" (defScope (top 19)) s.heap.objs.size f cdv)).units + 64 < cLine := by omega
  exact (dss_cons (ds_expr (ecall c_checkknown hG hR (das_cons (gv 0) (das_cons (gv 1) das_nil))))
    (dss_cons (sset 2 sc_bestweights.nd (ecall c_cheapesttimes hG hR (das_cons (dg_val (ecall c_nextrequests hG hR (das_cons (gv 0) das_nil))) (das_cons (dg_val (de_op op_subD (gv 1) (dg_val de_int))) das_nil))))
    (dss_cons (ds_ret (de_callTy cl_tuple rfl (T.free "tuple" (by decide)) (by decide +kernel) (das_cons (dg_val (de_new (dn_comp rfl sc_bestweights.nd (di_range1 rfl (T.free "range" (by decide)) (dls_cons (de_callB cl_len rfl (T.free "len" (by decide)) (by decide +kernel) (das_cons (gv 0) das_nil)) dls_nil)) (blkOk_by (N := N_bestweights) (sc := (defScope (top 19))) (own := [("time", 3)]) (by decide +kernel)) (fun _ _ _ _ _ => kn 3 sc_bestweights.nd) (fun _ _ _ _ _ => dc_nil) (fun _ _ _ _ _ => (de_if (dt_cmp (op_inDD hu) (gv 3) (gv 2) (by rfl)) de_int de_int))))) das_nil)))
    dss_nil)))
end
end K75

set_option Elab.async false
set_option linter.all false
set_option maxRecDepth 100000
set_option maxHeartbeats 4000000
/-! What is drawn. -/
namespace K75
open PySem PySem.Spec PyProof.Rows L2 GX StX DL PySem.Calls NdefX
variable [DL.FT]
section
variable {P : Program} {w : World} {K : PySem.W.Frag} {mg : Str → Option Value} {base : Heap} {k : Nat} {f : Addr} {fd : FuncData}
abbrev N_Lcell : List Str := ["_law_script", "_law_k", "_law_state", "_law_figure"]
theorem sc_Lcell : FnScope N_Lcell ["_law_script", "_law_k"] (defScope (top 24)) := ⟨rfl, rfl, rfl, by decide +kernel, rfl, by decide +kernel, by decide +kernel⟩
def g_Lcell : SF := (fSq (fIfS (fTst (fOp ltD (gVar 1) (gVal (fScrLen 0)))) (fSq (fRet (fCl intD (aCons (gVal (fScrIx 0 (fVar 1))) aNil)))
  fNx) fNx)
  (fSq (fAsg (fOp modD (gVal (fOp mulD (gVal (fC (.int 60013))) (gVal (fOp addD (gVal (fOp addD (gVal (fOp mulD (gVar 1) (gVar 1))) (gVal (fOp mulD (gVal (fC (.int 5))) (gVar 1))))) (gVal (fC (.int 3))))))) (gVal (fC (.int 2147483249)))) (tName 2))
  (fSq (fFor (iSeq (fScrTo 0 3)) (tName 3) (fSq (fAsg (fOp modD (gVal (fOp addD (gVal (fOp mulD (gVar 2) (gVal (fC (.int 41221))))) (gVal (fCl intD (aCons (gVar 3) aNil))))) (gVal (fC (.int 2147483249)))) (tName 2))
  fNx))
  (fSq (fRet (fVar 2))
  fNx))))
def F_Lcell : FF := fBody 2 g_Lcell
theorem ok_Lcell (F : FunD K "_law_cell" "_law_cell" (defArgs (top 24)) (defBody (top 24)) (defScope (top 24)) [] [] f fd) (T : Fx K w mg) :
    FnG P w K mg base (k + 1) f fd ["_law_script", "_law_k"] (spD w K 2 F_Lcell) := by
  have h1 := okD (P := P) (w := w) (base := base) (mg := mg) (k := k) F sc_Lcell (g := g_Lcell)
  rw [show F_Lcell = fBody (N_Lcell.length - (["_law_script", "_law_k"] : List Str).length) g_Lcell from rfl]
  refine h1 fun cdv A outer s H E hG hR => ?_
  have hu : (A.deeper (envOfC "_law_cell" (defScope (top 24)) s.heap.objs.size f cdv)).units + 65 < cLine := by
    have := hR.un
    omega
  have hu64 : (A.deeper (envOfC "_law_cell" (defScope (top 24)) s.heap.objs.size f cdv)).units + 64 < cLine := by omega
  exact (dss_cons (ds_if (dt_cmp op_ltD (gv 1) (dg_val (eslen 0 (T.free "len" (by decide)))) (by rfl)) (dss_cons (ds_ret (de_callTy cl_int rfl (T.free "int" (by decide)) (by decide +kernel) (das_cons (dg_val (esix 0 (ev 1))) das_nil)))
    dss_nil) dss_nil)
    (dss_cons (sset 2 sc_Lcell.nd (de_op op_modD (dg_val (de_op op_mulD (dg_val de_int) (dg_val (de_op op_addD (dg_val (de_op op_addD (dg_val (de_op op_mulD (gv 1) (gv 1))) (dg_val (de_op op_mulD (dg_val de_int) (gv 1))))) (dg_val de_int))))) (dg_val de_int)))
    (dss_cons (ds_for PassesOwn.never rfl (di_seq (essl 0)) (tn 3 sc_Lcell.nd) (dss_cons (sset 2 sc_Lcell.nd (de_op op_modD (dg_val (de_op op_addD (dg_val (de_op op_mulD (gv 2) (dg_val de_int))) (dg_val (de_callTy cl_int rfl (T.free "int" (by decide)) (by decide +kernel) (das_cons (gv 3) das_nil))))) (dg_val de_int)))
    dss_nil))
    (dss_cons (ds_ret (ev 2))
    dss_nil))))
abbrev N_Lpool : List Str := ["_law_figure", "_law_digits"]
theorem sc_Lpool : FnScope N_Lpool ["_law_figure"] (defScope (top 25)) := ⟨rfl, rfl, rfl, by decide +kernel, rfl, by decide +kernel, by decide +kernel⟩
def g_Lpool : LF := (fThen (fAsg (fIf (fOr (fTst (fOp ltD (gVar 0) (gVal (fC (.int 0))))) (fTst (fOp geD (gVar 0) (gVal (fOp powD (gVal (fC (.int 10))) (gVal (fC (.int 18)))))))) (fCl absD (aCons (gVar 0) aNil)) (fC (.int 0))) (tName 1)) (lLst (lCons (fOp modD (gVal (fCl intD (aCons (gVar 0) aNil))) (gVal (fC (.int 2147483249)))) (lCons (fVar 1) (lCons (fC (.int 0)) lNil)))))
def F_Lpool : FL := fBodyL 1 g_Lpool
theorem ok_Lpool (F : FunD K "_law_pool" "_law_pool" (defArgs (top 25)) (defBody (top 25)) (defScope (top 25)) [] [] f fd) (T : Fx K w mg) :
    FnG P w K mg base (k + 1) f fd ["_law_figure"] (spL w K 1 F_Lpool) := by
  have h1 := okL (P := P) (w := w) (base := base) (mg := mg) (k := k) F sc_Lpool (g := g_Lpool)
  rw [show F_Lpool = fBodyL (N_Lpool.length - (["_law_figure"] : List Str).length) g_Lpool from rfl]
  refine h1 fun cdv A outer s H E hG hR => ?_
  have hu : (A.deeper (envOfC "_law_pool" (defScope (top 25)) s.heap.objs.size f cdv)).units + 65 < cLine := by
    have := hR.un
    omega
  have hu64 : (A.deeper (envOfC "_law_pool" (defScope (top 25)) s.heap.objs.size f cdv)).units + 64 < cLine := by omega
  exact (dsl_cons (sset 1 sc_Lpool.nd (de_if (dt_w (dw_or (dt_cmp op_ltD (gv 0) (dg_val de_int) (by rfl)) (dw_or1 (dt_cmp op_geD (gv 0) (dg_val (de_op op_powD (dg_val de_int) (dg_val de_int))) (by rfl))))) (de_callB cl_abs rfl (T.free "abs" (by decide)) (by decide +kernel) (das_cons (gv 0) das_nil)) de_int)) (dsl_ret (dn_lst (dls_cons (de_op op_modD (dg_val (de_callTy cl_int rfl (T.free "int" (by decide)) (by decide +kernel) (das_cons (gv 0) das_nil))) (dg_val de_int)) (dls_cons (ev 1) (dls_cons de_int dls_nil))))))
abbrev N_Ldraw : List Str := ["_law_pool_here", "_law_most", "_law_state", "_law_digit"]
theorem sc_Ldraw : FnScope N_Ldraw ["_law_pool_here", "_law_most"] (defScope (top 26)) := ⟨rfl, rfl, rfl, by decide +kernel, rfl, by decide +kernel, by decide +kernel⟩
def g_Ldraw : SF := (fSq (fAsg (fOp addD (gVal (fOp ixD (gVar 0) (gVal (fC (.int 2))))) (gVal (fC (.int 1)))) (tSub 0 (fC (.int 2))))
  (fSq (fAsg (fCl intD (aCons (gVal (fOp ixD (gVar 0) (gVal (fC (.int 0))))) aNil)) (tName 2))
  (fSq (fAsg (fOp modD (gVal (fOp addD (gVal (fOp mulD (gVar 2) (gVal (fOp addD (gVal (fOp modD (gVar 2) (gVal (fC (.int 50021))))) (gVal (fC (.int 30011))))))) (gVal (fOp mulD (gVal (fC (.int 80021))) (gVal (fOp ixD (gVar 0) (gVal (fC (.int 2))))))))) (gVal (fC (.int 2147483249)))) (tSub 0 (fC (.int 0))))
  (fSq (fIfS (fTst (fOp gtD (gVal (fOp ixD (gVar 0) (gVal (fC (.int 1))))) (gVal (fC (.int 0))))) (fSq (fAsg (fCl divmodD (aCons (gVal (fOp ixD (gVar 0) (gVal (fC (.int 1))))) (aCons (gVar 1) aNil))) (tTupT 2 [(tSub 0 (fC (.int 1))), (tName 3)]))
  (fSq (fRet (fVar 3))
  fNx)) fNx)
  (fSq (fRet (fOp modD (gVal (fOp divD (gVal (fOp ixD (gVar 0) (gVal (fC (.int 0))))) (gVal (fC (.int 64))))) (gVar 1)))
  fNx)))))
def F_Ldraw : FF := fBody 2 g_Ldraw
theorem ok_Ldraw (F : FunD K "_law_draw" "_law_draw" (defArgs (top 26)) (defBody (top 26)) (defScope (top 26)) [] [] f fd) (T : Fx K w mg) :
    FnG P w K mg base (k + 1) f fd ["_law_pool_here", "_law_most"] (spD w K 2 F_Ldraw) := by
  have h1 := okD (P := P) (w := w) (base := base) (mg := mg) (k := k) F sc_Ldraw (g := g_Ldraw)
  rw [show F_Ldraw = fBody (N_Ldraw.length - (["_law_pool_here", "_law_most"] : List Str).length) g_Ldraw from rfl]
  refine h1 fun cdv A outer s H E hG hR => ?_
  have hu : (A.deeper (envOfC "_law_draw" (defScope (top 26)) s.heap.objs.size f cdv)).units + 65 < cLine := by
    have := hR.un
    omega
  have hu64 : (A.deeper (envOfC "_law_draw" (defScope (top 26)) s.heap.objs.size f cdv)).units + 64 < cLine := by omega
  exact (dss_cons (ds_asg (de_op op_addD (dg_val (de_ix ix_D (gv 0) (dg_val de_int))) (dg_val de_int)) (tsub 0 de_int))
    (dss_cons (sset 2 sc_Ldraw.nd (de_callTy cl_int rfl (T.free "int" (by decide)) (by decide +kernel) (das_cons (dg_val (de_ix ix_D (gv 0) (dg_val de_int))) das_nil)))
    (dss_cons (ds_asg (de_op op_modD (dg_val (de_op op_addD (dg_val (de_op op_mulD (gv 2) (dg_val (de_op op_addD (dg_val (de_op op_modD (gv 2) (dg_val de_int))) (dg_val de_int))))) (dg_val (de_op op_mulD (dg_val de_int) (dg_val (de_ix ix_D (gv 0) (dg_val de_int))))))) (dg_val de_int)) (tsub 0 de_int))
    (dss_cons (ds_if (dt_cmp op_gtD (dg_val (de_ix ix_D (gv 0) (dg_val de_int))) (dg_val de_int) (by rfl)) (dss_cons (ds_asg (de_callB cl_divmod rfl (T.free "divmod" (by decide)) (by decide +kernel) (das_cons (dg_val (de_ix ix_D (gv 0) (dg_val de_int))) (das_cons (gv 1) das_nil))) (dtg_tup rfl (dtgs_cons (tsub 0 de_int) (dtgs_cons (tn 3 sc_Ldraw.nd) dtgs_nil))))
    (dss_cons (ds_ret (ev 3))
    dss_nil)) dss_nil)
    (dss_cons (ds_ret (de_op op_modD (dg_val (de_op op_divD (dg_val (de_ix ix_D (gv 0) (dg_val de_int))) (dg_val de_int))) (gv 1)))
    dss_nil)))))
abbrev N_Lrow : List Str := ["_law_pool_here", "_law_many", "_law_most", "_law_count", "_law_who", "_law_at"]
theorem sc_Lrow : FnScope N_Lrow ["_law_pool_here", "_law_many", "_law_most"] (defScope (top 27)) := ⟨rfl, rfl, rfl, by decide +kernel, rfl, by decide +kernel, by decide +kernel⟩
def g_Lrow : SF := (fSq (fAsg (fTup (lCons (fCa 2 F_Ldraw (aCons (gVar 0) (aCons (gVal (fOp addD (gVar 1) (gVal (fC (.int 1))))) aNil))) (lCons (fOp addD (gVal (fC (.int 1))) (gVal (fCa 2 F_Ldraw (aCons (gVar 0) (aCons (gVar 2) aNil))))) lNil))) (tTupT 2 [(tName 3), (tName 4)]))
  (fSq (fIfS (fTst (fOp eqD (gVal (fCa 2 F_Ldraw (aCons (gVar 0) (aCons (gVal (fC (.int 4))) aNil)))) (gVal (fC (.int 0))))) (fSq (fRet (fCl tupleD (aCons (gVal (fLst (fComp (iRange1 (lCons (fVar 3) lNil)) [5] (tName 5) fYes (fOp ixD (gVal (fC (.str "abcdefghijkl"))) (gVal (fOp modD (gVar 5) (gVar 4))))))) aNil)))
  fNx) fNx)
  (fSq (fRet (fCl tupleD (aCons (gVal (fLst (fComp (iRange1 (lCons (fVar 3) lNil)) [5] (tName 5) fYes (fOp ixD (gVal (fC (.str "abcdefghijkl"))) (gVal (fCa 2 F_Ldraw (aCons (gVar 0) (aCons (gVar 4) aNil)))))))) aNil)))
  fNx)))
def F_Lrow : FF := fBody 3 g_Lrow
theorem ok_Lrow (F : FunD K "_law_row" "_law_row" (defArgs (top 27)) (defBody (top 27)) (defScope (top 27)) [] [] f fd) (T : Fx K w mg) (c_Ldraw : Cal P w K mg base k "_law_draw" ["_law_pool_here", "_law_most"] (spD w K 2 F_Ldraw)) :
    FnG P w K mg base (k + 1) f fd ["_law_pool_here", "_law_many", "_law_most"] (spD w K 3 F_Lrow) := by
  have h1 := okD (P := P) (w := w) (base := base) (mg := mg) (k := k) F sc_Lrow (g := g_Lrow)
  rw [show F_Lrow = fBody (N_Lrow.length - (["_law_pool_here", "_law_many", "_law_most"] : List Str).length) g_Lrow from rfl]
  refine h1 fun cdv A outer s H E hG hR => ?_
  have hu : (A.deeper (envOfC "_law_row" (defScope (top 27)) s.heap.objs.size f cdv)).units + 65 < cLine := by
    have := hR.un
    omega
  have hu64 : (A.deeper (envOfC "_law_row" (defScope (top 27)) s.heap.objs.size f cdv)).units + 64 < cLine := by omega
  exact (dss_cons (ds_asg (de_tup (dls_cons (ecall c_Ldraw hG hR (das_cons (gv 0) (das_cons (dg_val (de_op op_addD (gv 1) (dg_val de_int))) das_nil))) (dls_cons (de_op op_addD (dg_val de_int) (dg_val (ecall c_Ldraw hG hR (das_cons (gv 0) (das_cons (gv 2) das_nil))))) dls_nil))) (dtg_tup rfl (dtgs_cons (tn 3 sc_Lrow.nd) (dtgs_cons (tn 4 sc_Lrow.nd) dtgs_nil))))
    (dss_cons (ds_if (dt_cmp (op_eqDD hu64) (dg_val (ecall c_Ldraw hG hR (das_cons (gv 0) (das_cons (dg_val de_int) das_nil)))) (dg_val de_int) (by rfl)) (dss_cons (ds_ret (de_callTy cl_tuple rfl (T.free "tuple" (by decide)) (by decide +kernel) (das_cons (dg_val (de_new (dn_comp rfl sc_Lrow.nd (di_range1 rfl (T.free "range" (by decide)) (dls_cons (ev 3) dls_nil)) (blkOk_by (N := N_Lrow) (sc := (defScope (top 27))) (own := [("_law_at", 5)]) (by decide +kernel)) (fun _ _ _ _ _ => kn 5 sc_Lrow.nd) (fun _ _ _ _ _ => dc_nil) (fun _ _ _ _ _ => (de_ix ix_D (dg_val de_str) (dg_val (de_op op_modD (gv 5) (gv 4)))))))) das_nil)))
    dss_nil) dss_nil)
    (dss_cons (ds_ret (de_callTy cl_tuple rfl (T.free "tuple" (by decide)) (by decide +kernel) (das_cons (dg_val (de_new (dn_comp rfl sc_Lrow.nd (di_range1 rfl (T.free "range" (by decide)) (dls_cons (ev 3) dls_nil)) (blkOk_by (N := N_Lrow) (sc := (defScope (top 27))) (own := [("_law_at", 5)]) (by decide +kernel)) (fun _ _ _ _ _ => kn 5 sc_Lrow.nd) (fun _ _ _ _ _ => dc_nil) (fun _ _ _ _ _ => (de_ix ix_D (dg_val de_str) (dg_val (ecall c_Ldraw hG hR (das_cons (gv 0) (das_cons (gv 4) das_nil))))))))) das_nil)))
    dss_nil)))
end
end K75

set_option Elab.async false
set_option linter.all false
set_option maxRecDepth 100000
set_option maxHeartbeats 4000000
/-! The law. -/
namespace K75
open PySem PySem.Spec PyProof.Rows L2 GX StX DL PySem.Calls NdefX
variable [DL.FT]
section
variable {P : Program} {w : World} {K : PySem.W.Frag} {mg : Str → Option Value} {base : Heap} {k : Nat} {f : Addr} {fd : FuncData}
abbrev N_Llater : List Str := ["_law_row_here", "_law_found", "_law_at", "_law_rest", "_law_spot"]
theorem sc_Llater : FnScope N_Llater ["_law_row_here"] (defScope (top 28)) := ⟨rfl, rfl, rfl, by decide +kernel, rfl, by decide +kernel, by decide +kernel⟩
def g_Llater : SF := (fSq (fHold 1 (lLst lNil))
  (fSq (fFor (iRange1 (lCons (fCl lenD (aCons (gVar 0) aNil)) lNil)) (tName 2) (fSq (fHold 3 (fComp (iRange2 (lCons (fOp addD (gVar 2) (gVal (fC (.int 1)))) (lCons (fCl lenD (aCons (gVar 0) aNil)) lNil))) [4] (tName 4) (fTst (fOp eqD (gVal (fOp ixD (gVar 0) (gVar 4))) (gVal (fOp ixD (gVar 0) (gVar 2))))) (fVar 4)))
  (fSq (fApp 1 (fOp ixD (gVal (fOp addD (gVar 3) (gVal (fLst (lLst (lCons (fC .none) lNil)))))) (gVal (fC (.int 0)))))
  fNx)))
  (fSq (fRet (fVar 1))
  fNx)))
def F_Llater : FF := fBody 4 g_Llater
theorem ok_Llater (F : FunD K "_law_later" "_law_later" (defArgs (top 28)) (defBody (top 28)) (defScope (top 28)) [] [] f fd) (T : Fx K w mg) :
    FnG P w K mg base (k + 1) f fd ["_law_row_here"] (spD w K 1 F_Llater) := by
  have h1 := okD (P := P) (w := w) (base := base) (mg := mg) (k := k) F sc_Llater (g := g_Llater)
  rw [show F_Llater = fBody (N_Llater.length - (["_law_row_here"] : List Str).length) g_Llater from rfl]
  refine h1 fun cdv A outer s H E hG hR => ?_
  have hu : (A.deeper (envOfC "_law_later" (defScope (top 28)) s.heap.objs.size f cdv)).units + 65 < cLine := by
    have := hR.un
    omega
  have hu64 : (A.deeper (envOfC "_law_later" (defScope (top 28)) s.heap.objs.size f cdv)).units + 64 < cLine := by omega
  exact (dss_cons (shold 1 sc_Llater.nd (dn_lst dls_nil))
    (dss_cons (ds_for PassesOwn.never rfl (di_range1 rfl (T.free "range" (by decide)) (dls_cons (de_callB cl_len rfl (T.free "len" (by decide)) (by decide +kernel) (das_cons (gv 0) das_nil)) dls_nil)) (tn 2 sc_Llater.nd) (dss_cons (ds_setC (i := 3) rfl sc_Llater.nd rfl rfl rfl (di_range2 rfl (T.free "range" (by decide)) (dls_cons (de_op op_addD (gv 2) (dg_val de_int)) (dls_cons (de_callB cl_len rfl (T.free "len" (by decide)) (by decide +kernel) (das_cons (gv 0) das_nil)) dls_nil))) (blkOk_by (N := N_Llater) (sc := (defScope (top 28))) (own := [("_law_spot", 4)]) (by decide +kernel)) (fun _ _ _ _ _ => kn 4 sc_Llater.nd) (fun _ _ _ _ _ => dc_one (dt_cmp (op_eqDD hu64) (dg_val (de_ix ix_D (gv 0) (gv 4))) (dg_val (de_ix ix_D (gv 0) (gv 2))) (by rfl))) (fun _ _ _ _ _ => (ev 4)))
    (dss_cons (sapp 1 (de_ix ix_D (dg_val (de_op op_addD (gv 3) (dg_val (de_new (dn_lst (dls_cons de_non dls_nil)))))) (dg_val de_int)))
    dss_nil)))
    (dss_cons (ds_ret (ev 1))
    dss_nil)))
abbrev N_Lforeseen : List Str := ["_law_row_here", "_law_many", "_law_held", "_law_misses", "_law_at", "_law_rests", "_law_who"]
theorem sc_Lforeseen : FnScope N_Lforeseen ["_law_row_here", "_law_many"] (defScope (top 29)) := ⟨rfl, rfl, rfl, by decide +kernel, rfl, by decide +kernel, by decide +kernel⟩
def g_Lforeseen : SF := (fSq (fPar2 2 3 (xNew (lLst lNil)) (xDat (fC (.int 0))))
  (fSq (fFor (iRange1 (lCons (fCl lenD (aCons (gVar 0) aNil)) lNil)) (tName 4) (fSq (fIfS (fTst (fOp notInD (gVal (fOp ixD (gVar 0) (gVar 4))) (gVar 2))) (fSq (fAsg (fOp addD (gVar 3) (gVal (fC (.int 1)))) (tName 3))
  (fSq (fIfS (fTst (fOp eqD (gVal (fCl lenD (aCons (gVar 2) aNil))) (gVar 1))) (fSq (fHold 5 (fThaw 2 (fComp (iSeq (fVar 2)) [6] (tName 6) fYes (fIf (fTst (fOp inD (gVar 6) (gVal (fSl (gVar 0) (oSome (fVar 4)) oNone)))) (fMe "tuple" tIndexD (gVal (fSl (gVar 0) (oSome (fVar 4)) oNone)) (aCons (gVar 6) aNil)) (fCl lenD (aCons (gVar 0) aNil))))))
  (fSq (fDrop (fPop 2 (fMe "list" lIndexD (gVar 5) (aCons (gVal (fCl maxD (aCons (gVar 5) aNil))) aNil))))
  fNx)) fNx)
  (fSq (fApp 2 (fOp ixD (gVar 0) (gVar 4)))
  fNx))) fNx)
  fNx))
  (fSq (fRet (fVar 3))
  fNx)))
def F_Lforeseen : FF := fBody 5 g_Lforeseen
theorem ok_Lforeseen (F : FunD K "_law_foreseen" "_law_foreseen" (defArgs (top 29)) (defBody (top 29)) (defScope (top 29)) [] [] f fd) (T : Fx K w mg) :
    FnG P w K mg base (k + 1) f fd ["_law_row_here", "_law_many"] (spD w K 2 F_Lforeseen) := by
  have h1 := okD (P := P) (w := w) (base := base) (mg := mg) (k := k) F sc_Lforeseen (g := g_Lforeseen)
  rw [show F_Lforeseen = fBody (N_Lforeseen.length - (["_law_row_here", "_law_many"] : List Str).length) g_Lforeseen from rfl]
  refine h1 fun cdv A outer s H E hG hR => ?_
  have hu : (A.deeper (envOfC "_law_foreseen" (defScope (top 29)) s.heap.objs.size f cdv)).units + 65 < cLine := by
    have := hR.un
    omega
  have hu64 : (A.deeper (envOfC "_law_foreseen" (defScope (top 29)) s.heap.objs.size f cdv)).units + 64 < cLine := by omega
  exact (dss_cons (ds_par2 (i := 2) (j := 3) rfl sc_Lforeseen.nd rfl rfl (by decide) rfl rfl (dx_new (dn_lst dls_nil)) (dx_dat de_int) rfl)
    (dss_cons (ds_for PassesOwn.never rfl (di_range1 rfl (T.free "range" (by decide)) (dls_cons (de_callB cl_len rfl (T.free "len" (by decide)) (by decide +kernel) (das_cons (gv 0) das_nil)) dls_nil)) (tn 4 sc_Lforeseen.nd) (dss_cons (ds_if (dt_cmp (op_notInDD hu) (dg_val (de_ix ix_D (gv 0) (gv 4))) (gv 2) (by rfl)) (dss_cons (sset 3 sc_Lforeseen.nd (de_op op_addD (gv 3) (dg_val de_int)))
    (dss_cons (ds_if (dt_cmp (op_eqDD hu64) (dg_val (de_callB cl_len rfl (T.free "len" (by decide)) (by decide +kernel) (das_cons (gv 2) das_nil))) (gv 1) (by rfl)) (dss_cons (ds_setCW 2 (i := 5) rfl sc_Lforeseen.nd rfl rfl rfl (di_seq (ev 2)) (blkOk_by (N := N_Lforeseen) (sc := (defScope (top 29))) (own := [("_law_who", 6)]) (by decide +kernel)) (fun _ _ _ _ _ => kn 6 sc_Lforeseen.nd) (fun _ _ _ _ _ => dc_nil) (fun _ _ _ _ _ => (de_if (dt_cmp (op_inDD hu) (gv 6) (dg_val (de_slice (gv 0) (do_some (ev 4)) do_none)) (by rfl)) (mtindex hu (dg_val (de_slice (gv 0) (do_some (ev 4)) do_none)) (das_cons (gv 6) das_nil)) (de_callB cl_len rfl (T.free "len" (by decide)) (by decide +kernel) (das_cons (gv 0) das_nil)))))
    (dss_cons (ds_expr (de_pop 2 (mlindex hu (gv 5) (das_cons (dg_val (de_callB (cl_max rfl) rfl (T.free "max" (by decide)) (by decide +kernel) (das_cons (gv 5) das_nil))) das_nil))))
    dss_nil)) dss_nil)
    (dss_cons (sapp 2 (de_ix ix_D (gv 0) (gv 4)))
    dss_nil))) dss_nil)
    dss_nil))
    (dss_cons (ds_ret (ev 3))
    dss_nil)))
abbrev N_Lbound : List Str := ["_law_row_here", "_law_many", "_law_told", "_law_goals", "_law_found", "_law_at"]
theorem sc_Lbound : FnScope N_Lbound ["_law_row_here", "_law_many", "_law_told"] (defScope (top 30)) := ⟨rfl, rfl, rfl, by decide +kernel, rfl, by decide +kernel, by decide +kernel⟩
def g_Lbound : SF := (fSq (fPar 3 4 (lCons (fCa 1 F_Llater (aCons (gVar 0) aNil)) (lCons (fOp mulD (gVal (fOp subD (gVar 1) (gVal (fC (.int 1))))) (gVal (fCl sumTD (aCons (gVar 2) aNil)))) lNil)))
  (fSq (fFor (iRange1 (lCons (fCl lenD (aCons (gVar 0) aNil)) lNil)) (tName 5) (fSq (fIfS (fTst (fOp isNotD (gVal (fOp ixD (gVar 3) (gVar 5))) (gVal (fC .none)))) (fSq (fAsg (fOp addD (gVar 4) (gVal (fCl maxD (aCons (gVal (fC (.int 0))) (aCons (gVal (fOp subD (gVal (fC (.int 1))) (gVal (fCl sumTD (aCons (gVal (fSl (gVar 2) (oSome (fOp addD (gVar 5) (gVal (fC (.int 1))))) (oSome (fOp ixD (gVar 3) (gVar 5))))) aNil))))) aNil))))) (tName 4))
  fNx) fNx)
  fNx))
  (fSq (fRet (fVar 4))
  fNx)))
def F_Lbound : FF := fBody 3 g_Lbound
theorem ok_Lbound (F : FunD K "_law_bound" "_law_bound" (defArgs (top 30)) (defBody (top 30)) (defScope (top 30)) [] [] f fd) (T : Fx K w mg) (c_Llater : Cal P w K mg base k "_law_later" ["_law_row_here"] (spD w K 1 F_Llater)) :
    FnG P w K mg base (k + 1) f fd ["_law_row_here", "_law_many", "_law_told"] (spD w K 3 F_Lbound) := by
  have h1 := okD (P := P) (w := w) (base := base) (mg := mg) (k := k) F sc_Lbound (g := g_Lbound)
  rw [show F_Lbound = fBody (N_Lbound.length - (["_law_row_here", "_law_many", "_law_told"] : List Str).length) g_Lbound from rfl]
  refine h1 fun cdv A outer s H E hG hR => ?_
  have hu : (A.deeper (envOfC "_law_bound" (defScope (top 30)) s.heap.objs.size f cdv)).units + 65 < cLine := by
    have := hR.un
    omega
  have hu64 : (A.deeper (envOfC "_law_bound" (defScope (top 30)) s.heap.objs.size f cdv)).units + 64 < cLine := by omega
  exact (dss_cons (ds_par (i := 3) (j := 4) rfl sc_Lbound.nd rfl rfl (by decide) rfl rfl (dls_cons (ecall c_Llater hG hR (das_cons (gv 0) das_nil)) (dls_cons (de_op op_mulD (dg_val (de_op op_subD (gv 1) (dg_val de_int))) (dg_val (de_callB (cl_sumT rfl) rfl (T.free "sum" (by decide)) (by decide +kernel) (das_cons (gv 2) das_nil)))) dls_nil)) rfl)
    (dss_cons (ds_for PassesOwn.never rfl (di_range1 rfl (T.free "range" (by decide)) (dls_cons (de_callB cl_len rfl (T.free "len" (by decide)) (by decide +kernel) (das_cons (gv 0) das_nil)) dls_nil)) (tn 5 sc_Lbound.nd) (dss_cons (ds_if (dt_cmp op_isNotD (dg_val (de_ix ix_D (gv 3) (gv 5))) (dg_val de_non) (by rfl)) (dss_cons (sset 4 sc_Lbound.nd (de_op op_addD (gv 4) (dg_val (de_callB (cl_max rfl) rfl (T.free "max" (by decide)) (by decide +kernel) (das_cons (dg_val de_int) (das_cons (dg_val (de_op op_subD (dg_val de_int) (dg_val (de_callB (cl_sumT rfl) rfl (T.free "sum" (by decide)) (by decide +kernel) (das_cons (dg_val (de_slice (gv 2) (do_some (de_op op_addD (gv 5) (dg_val de_int))) (do_some (de_ix ix_D (gv 3) (gv 5))))) das_nil))))) das_nil))))))
    dss_nil) dss_nil)
    dss_nil))
    (dss_cons (ds_ret (ev 4))
    dss_nil)))
end
end K75

set_option Elab.async false
set_option linter.all false
set_option maxRecDepth 100000
set_option maxHeartbeats 4000000
/-! What is asked. -/
namespace K75
open PySem PySem.Spec PyProof.Rows L2 GX StX DL PySem.Calls NdefX
variable [DL.FT]
section
variable {P : Program} {w : World} {K : PySem.W.Frag} {mg : Str → Option Value} {base : Heap} {k : Nat} {f : Addr} {fd : FuncData}
abbrev N_Lholds : List Str := ["_law_row_here", "_law_many", "_law_due", "_law_told", "_law_part"]
theorem sc_Lholds : FnScope N_Lholds ["_law_row_here", "_law_many", "_law_due"] (defScope (top 31)) := ⟨rfl, rfl, rfl, by decide +kernel, rfl, by decide +kernel, by decide +kernel⟩
def g_Lholds : SF := (fSq (fAsg (fCa 2 F_bestweights (aCons (gVar 0) (aCons (gVar 1) aNil))) (tName 3))
  (fSq (fIfS (fOr (fNot (fTst (fIsa dTup (gVar 3)))) (fOr (fTst (fOp neD (gVal (fCl lenD (aCons (gVar 3) aNil))) (gVal (fCl lenD (aCons (gVar 0) aNil))))) (fTst (fOp neD (gVal (fCl reprXD (aCons (gVal (fCa 2 F_bestweights (aCons (gVar 0) (aCons (gVar 1) aNil)))) aNil))) (gVal (fCl reprXD (aCons (gVar 3) aNil))))))) (fSq (fRet (fC (.bool false)))
  fNx) fNx)
  (fSq (fIfS (fTst (fOp neD (gVal (fLst (fComp (iSeq (fVar 3)) [4] (tName 4) (fOr (fNot (fTst (fIsa dInt (gVar 4)))) (fOr (fTst (fIsa dBool (gVar 4))) (fTst (fOp ltD (gVar 4) (gVal (fC (.int 0))))))) (fVar 4)))) (gVal (fLst (lLst lNil))))) (fSq (fRet (fC (.bool false)))
  fNx) fNx)
  (fSq (fRet (fOp eqD (gVal (fOp subD (gVal (fCl lenD (aCons (gVar 0) aNil))) (gVal (fCa 3 F_Lbound (aCons (gVar 0) (aCons (gVar 1) (aCons (gVar 3) aNil))))))) (gVar 2)))
  fNx))))
def F_Lholds : FF := fBody 2 g_Lholds
theorem ok_Lholds (F : FunD K "_law_holds" "_law_holds" (defArgs (top 31)) (defBody (top 31)) (defScope (top 31)) [] [] f fd) (T : Fx K w mg) (c_Lbound : Cal P w K mg base k "_law_bound" ["_law_row_here", "_law_many", "_law_told"] (spD w K 3 F_Lbound)) (c_bestweights : Cal P w K mg base k "best_weights" ["names", "lines"] (spD w K 2 F_bestweights)) :
    FnG P w K mg base (k + 1) f fd ["_law_row_here", "_law_many", "_law_due"] (spD w K 3 F_Lholds) := by
  have h1 := okD (P := P) (w := w) (base := base) (mg := mg) (k := k) F sc_Lholds (g := g_Lholds)
  rw [show F_Lholds = fBody (N_Lholds.length - (["_law_row_here", "_law_many", "_law_due"] : List Str).length) g_Lholds from rfl]
  refine h1 fun cdv A outer s H E hG hR => ?_
  have hu : (A.deeper (envOfC "_law_holds" (defScope (top 31)) s.heap.objs.size f cdv)).units + 65 < cLine := by
    have := hR.un
    omega
  have hu64 : (A.deeper (envOfC "_law_holds" (defScope (top 31)) s.heap.objs.size f cdv)).units + 64 < cLine := by omega
  exact (dss_cons (sset 3 sc_Lholds.nd (ecall c_bestweights hG hR (das_cons (gv 0) (das_cons (gv 1) das_nil))))
    (dss_cons (ds_if (dt_w (dw_or (dt_not (dt_val (de_isa kit_tup (gv 3) rfl (T.free "isinstance" (by decide)) rfl (T.free "tuple" (by decide)) (by decide +kernel)))) (dw_or (dt_cmp (op_neDD hu64) (dg_val (de_callB cl_len rfl (T.free "len" (by decide)) (by decide +kernel) (das_cons (gv 3) das_nil))) (dg_val (de_callB cl_len rfl (T.free "len" (by decide)) (by decide +kernel) (das_cons (gv 0) das_nil))) (by rfl)) (dw_or1 (dt_cmp (op_neDD hu64) (dg_val (de_callB (cl_reprX hG hu64) rfl (T.free "repr" (by decide)) (by decide +kernel) (das_cons (dg_val (ecall c_bestweights hG hR (das_cons (gv 0) (das_cons (gv 1) das_nil)))) das_nil))) (dg_val (de_callB (cl_reprX hG hu64) rfl (T.free "repr" (by decide)) (by decide +kernel) (das_cons (gv 3) das_nil))) (by rfl)))))) (dss_cons (ds_ret de_bl)
    dss_nil) dss_nil)
    (dss_cons (ds_if (dt_cmp (op_neDD hu64) (dg_val (de_new (dn_comp rfl sc_Lholds.nd (di_seq (ev 3)) (blkOk_by (N := N_Lholds) (sc := (defScope (top 31))) (own := [("_law_part", 4)]) (by decide +kernel)) (fun _ _ _ _ _ => kn 4 sc_Lholds.nd) (fun _ _ _ _ _ => dc_one (dt_w (dw_or (dt_not (dt_val (de_isa kit_int (gv 4) rfl (T.free "isinstance" (by decide)) rfl (T.free "int" (by decide)) (by decide +kernel)))) (dw_or (dt_val (de_isa kit_bool (gv 4) rfl (T.free "isinstance" (by decide)) rfl (T.free "bool" (by decide)) (by decide +kernel))) (dw_or1 (dt_cmp op_ltD (gv 4) (dg_val de_int) (by rfl))))))) (fun _ _ _ _ _ => (ev 4))))) (dg_val (de_new (dn_lst dls_nil))) (by rfl)) (dss_cons (ds_ret de_bl)
    dss_nil) dss_nil)
    (dss_cons (ds_ret (de_cmp (op_eqDD hu64) (dg_val (de_op op_subD (dg_val (de_callB cl_len rfl (T.free "len" (by decide)) (by decide +kernel) (das_cons (gv 0) das_nil))) (dg_val (ecall c_Lbound hG hR (das_cons (gv 0) (das_cons (gv 1) (das_cons (gv 3) das_nil))))))) (gv 2) (by rfl)))
    dss_nil))))
abbrev N_Lright : List Str := ["_law_pool_here", "_law_turn", "_law_row_here", "_law_many"]
theorem sc_Lright : FnScope N_Lright ["_law_pool_here"] (defScope (top 32)) := ⟨rfl, rfl, rfl, by decide +kernel, rfl, by decide +kernel, by decide +kernel⟩
noncomputable def g_Lright : SF := (fSq (fFor (iRange1 (lCons (fC (.int 7)) lNil)) (tName 1) (fSq (fPar 2 3 (lCons (fCa 3 F_Lrow (aCons (gVar 0) (aCons (gVal (fOp ixD (gVal (fLst (lLst (lCons (fC (.int 12)) (lCons (fC (.int 60)) lNil))))) (gVal (fCl intD (aCons (gVal (fOp gtD (gVar 1) (gVal (fC (.int 4))))) aNil))))) (aCons (gVal (fOp ixD (gVal (fLst (lLst (lCons (fC (.int 4)) (lCons (fC (.int 8)) lNil))))) (gVal (fCl intD (aCons (gVal (fOp gtD (gVar 1) (gVal (fC (.int 4))))) aNil))))) aNil)))) (lCons (fOp addD (gVal (fC (.int 1))) (gVal (fCa 2 F_Ldraw (aCons (gVar 0) (aCons (gVal (fC (.int 4))) aNil))))) lNil)))
  (fSq (fIfS (fNot (fTst (fCa 3 F_Lholds (aCons (gVar 2) (aCons (gVar 3) (aCons (gVal (fCa 2 F_Lforeseen (aCons (gVar 2) (aCons (gVar 3) aNil)))) aNil)))))) (fSq (fRet (fC (.bool false)))
  fNx) fNx)
  fNx)))
  (fSq (fRet (fC (.bool true)))
  fNx))
noncomputable def F_Lright : FF := fBody 3 g_Lright
theorem ok_Lright (F : FunD K "_law_right" "_law_right" (defArgs (top 32)) (defBody (top 32)) (defScope (top 32)) [] [] f fd) (T : Fx K w mg) (c_Ldraw : Cal P w K mg base k "_law_draw" ["_law_pool_here", "_law_most"] (spD w K 2 F_Ldraw)) (c_Lforeseen : Cal P w K mg base k "_law_foreseen" ["_law_row_here", "_law_many"] (spD w K 2 F_Lforeseen)) (c_Lholds : Cal P w K mg base k "_law_holds" ["_law_row_here", "_law_many", "_law_due"] (spD w K 3 F_Lholds)) (c_Lrow : Cal P w K mg base k "_law_row" ["_law_pool_here", "_law_many", "_law_most"] (spD w K 3 F_Lrow)) :
    FnG P w K mg base (k + 1) f fd ["_law_pool_here"] (spD w K 1 F_Lright) := by
  have h1 := okD (P := P) (w := w) (base := base) (mg := mg) (k := k) F sc_Lright (g := g_Lright)
  rw [show F_Lright = fBody (N_Lright.length - (["_law_pool_here"] : List Str).length) g_Lright from rfl]
  refine h1 fun cdv A outer s H E hG hR => ?_
  have hu : (A.deeper (envOfC "_law_right" (defScope (top 32)) s.heap.objs.size f cdv)).units + 65 < cLine := by
    have := hR.un
    omega
  have hu64 : (A.deeper (envOfC "_law_right" (defScope (top 32)) s.heap.objs.size f cdv)).units + 64 < cLine := by omega
  exact (dss_cons (ds_for PassesOwn.never rfl (di_range1 rfl (T.free "range" (by decide)) (dls_cons de_int dls_nil)) (tn 1 sc_Lright.nd) (dss_cons (ds_par (i := 2) (j := 3) rfl sc_Lright.nd rfl rfl (by decide) rfl rfl (dls_cons (ecall c_Lrow hG hR (das_cons (gv 0) (das_cons (dg_val (de_ix ix_D (dg_val (de_new (dn_lst (dls_cons de_int (dls_cons de_int dls_nil))))) (dg_val (de_callTy cl_int rfl (T.free "int" (by decide)) (by decide +kernel) (das_cons (dg_val (de_cmp op_gtD (gv 1) (dg_val de_int) (by rfl))) das_nil))))) (das_cons (dg_val (de_ix ix_D (dg_val (de_new (dn_lst (dls_cons de_int (dls_cons de_int dls_nil))))) (dg_val (de_callTy cl_int rfl (T.free "int" (by decide)) (by decide +kernel) (das_cons (dg_val (de_cmp op_gtD (gv 1) (dg_val de_int) (by rfl))) das_nil))))) das_nil)))) (dls_cons (de_op op_addD (dg_val de_int) (dg_val (ecall c_Ldraw hG hR (das_cons (gv 0) (das_cons (dg_val de_int) das_nil))))) dls_nil)) rfl)
    (dss_cons (ds_if (dt_not (dt_val (ecall c_Lholds hG hR (das_cons (gv 2) (das_cons (gv 3) (das_cons (dg_val (ecall c_Lforeseen hG hR (das_cons (gv 2) (das_cons (gv 3) das_nil)))) das_nil)))))) (dss_cons (ds_ret de_bl)
    dss_nil) dss_nil)
    dss_nil)))
    (dss_cons (ds_ret de_bl)
    dss_nil))
abbrev N_Lbyhand : List Str := ["_law_row_here", "_law_some", "_law_far", "_law_names", "_law_many", "_law_due"]
theorem sc_Lbyhand : FnScope N_Lbyhand [] (defScope (top 33)) := ⟨rfl, rfl, rfl, by decide +kernel, rfl, by decide +kernel, by decide +kernel⟩
def g_Lbyhand : SF := (fSq (fAsg (fTup (lCons (fC (.str "a")) (lCons (fC (.str "b")) (lCons (fC (.str "c")) (lCons (fC (.str "a")) (lCons (fC (.str "b")) (lCons (fC (.str "c")) lNil))))))) (tName 0))
  (fSq (fAsg (fLst (lLst (lCons (fTup (lCons (fTup lNil) (lCons (fC (.int 1)) (lCons (fC (.int 0)) lNil)))) (lCons (fTup (lCons (fTup lNil) (lCons (fC (.int 4)) (lCons (fC (.int 0)) lNil)))) (lCons (fTup (lCons (fTup (lCons (fC (.str "a")) lNil)) (lCons (fC (.int 1)) (lCons (fC (.int 1)) lNil)))) (lCons (fTup (lCons (fTup (lCons (fC (.str "a")) (lCons (fC (.str "a")) (lCons (fC (.str "a")) lNil)))) (lCons (fC (.int 1)) (lCons (fC (.int 1)) lNil)))) (lCons (fTup (lCons (fTup (lCons (fC (.str "a")) (lCons (fC (.str "a")) (lCons (fC (.str "a")) lNil)))) (lCons (fC (.int 4)) (lCons (fC (.int 1)) lNil)))) (lCons (fTup (lCons (fVar 0) (lCons (fC (.int 1)) (lCons (fC (.int 6)) lNil)))) lNil)))))))) (tName 1))
  (fSq (fAsg (fOp addD (gVar 1) (gVal (fLst (lLst (lCons (fTup (lCons (fVar 0) (lCons (fC (.int 2)) (lCons (fC (.int 4)) lNil)))) (lCons (fTup (lCons (fVar 0) (lCons (fC (.int 3)) (lCons (fC (.int 3)) lNil)))) (lCons (fTup (lCons (fVar 0) (lCons (fC (.int 4)) (lCons (fC (.int 3)) lNil)))) (lCons (fTup (lCons (fTup (lCons (fC (.str "a")) (lCons (fC (.str "b")) (lCons (fC (.str "b")) (lCons (fC (.str "a")) (lCons (fC (.str "b")) lNil)))))) (lCons (fC (.int 1)) (lCons (fC (.int 4)) lNil)))) lNil)))))))) (tName 1))
  (fSq (fAsg (fOp addD (gVar 1) (gVal (fLst (lLst (lCons (fTup (lCons (fTup (lCons (fC (.str "a")) (lCons (fC (.str "b")) (lCons (fC (.str "c")) (lCons (fC (.str "d")) (lCons (fC (.str "a")) (lCons (fC (.str "b")) (lCons (fC (.str "c")) (lCons (fC (.str "d")) lNil))))))))) (lCons (fC (.int 3)) (lCons (fC (.int 5)) lNil)))) (lCons (fTup (lCons (fOp mulD (gVal (fTup (lCons (fC (.str "a")) (lCons (fC (.str "b")) (lCons (fC (.str "c")) (lCons (fC (.str "d")) (lCons (fC (.str "e")) lNil))))))) (gVal (fC (.int 40)))) (lCons (fC (.int 4)) (lCons (fC (.int 53)) lNil)))) lNil)))))) (tName 1))
  (fSq (fAsg (fOp addD (gVar 1) (gVal (fLst (lLst (lCons (fTup (lCons (fOp mulD (gVal (fTup (lCons (fC (.str "a")) (lCons (fC (.str "b")) (lCons (fC (.str "c")) (lCons (fC (.str "d")) (lCons (fC (.str "e")) lNil))))))) (gVal (fC (.int 40)))) (lCons (fC (.int 1)) (lCons (fC (.int 200)) lNil)))) (lCons (fTup (lCons (fOp addD (gVal (fOp mulD (gVal (fTup (lCons (fC (.str "a")) (lCons (fC (.str "b")) lNil)))) (gVal (fC (.int 50))))) (gVal (fOp mulD (gVal (fTup (lCons (fC (.str "b")) lNil))) (gVal (fC (.int 100)))))) (lCons (fC (.int 1)) (lCons (fC (.int 100)) lNil)))) lNil)))))) (tName 1))
  (fSq (fAsg (fOp addD (gVal (fOp mulD (gVal (fTup (lCons (fC (.str "a")) (lCons (fC (.str "b")) (lCons (fC (.str "c")) lNil))))) (gVal (fC (.int 20))))) (gVal (fOp mulD (gVal (fTup (lCons (fC (.str "d")) (lCons (fC (.str "e")) lNil)))) (gVal (fC (.int 70)))))) (tName 2))
  (fSq (fAsg (fOp addD (gVar 1) (gVal (fLst (lLst (lCons (fTup (lCons (fVar 2) (lCons (fC (.int 2)) (lCons (fCa 2 F_Lforeseen (aCons (gVar 2) (aCons (gVal (fC (.int 2))) aNil))) lNil)))) lNil))))) (tName 1))
  (fSq (fRet (fCl allD (aCons (gVal (fLst (fComp (iSeq (fVar 1)) [3, 4, 5] (tTupT 3 [tName 3, tName 4, tName 5]) fYes (fCa 3 F_Lholds (aCons (gVar 3) (aCons (gVar 4) (aCons (gVar 5) aNil))))))) aNil)))
  fNx))))))))
def F_Lbyhand : FF := fBody 6 g_Lbyhand
theorem ok_Lbyhand (F : FunD K "_law_by_hand" "_law_by_hand" (defArgs (top 33)) (defBody (top 33)) (defScope (top 33)) [] [] f fd) (T : Fx K w mg) (c_Lforeseen : Cal P w K mg base k "_law_foreseen" ["_law_row_here", "_law_many"] (spD w K 2 F_Lforeseen)) (c_Lholds : Cal P w K mg base k "_law_holds" ["_law_row_here", "_law_many", "_law_due"] (spD w K 3 F_Lholds)) :
    FnG P w K mg base (k + 1) f fd [] (spD w K 0 F_Lbyhand) := by
  have h1 := okD (P := P) (w := w) (base := base) (mg := mg) (k := k) F sc_Lbyhand (g := g_Lbyhand)
  rw [show F_Lbyhand = fBody (N_Lbyhand.length - ([] : List Str).length) g_Lbyhand from rfl]
  refine h1 fun cdv A outer s H E hG hR => ?_
  have hu : (A.deeper (envOfC "_law_by_hand" (defScope (top 33)) s.heap.objs.size f cdv)).units + 65 < cLine := by
    have := hR.un
    omega
  have hu64 : (A.deeper (envOfC "_law_by_hand" (defScope (top 33)) s.heap.objs.size f cdv)).units + 64 < cLine := by omega
  exact (dss_cons (sset 0 sc_Lbyhand.nd (de_tup (dls_cons de_str (dls_cons de_str (dls_cons de_str (dls_cons de_str (dls_cons de_str (dls_cons de_str dls_nil))))))))
    (dss_cons (sset 1 sc_Lbyhand.nd (de_new (dn_lst (dls_cons (de_tup (dls_cons (de_tup dls_nil) (dls_cons de_int (dls_cons de_int dls_nil)))) (dls_cons (de_tup (dls_cons (de_tup dls_nil) (dls_cons de_int (dls_cons de_int dls_nil)))) (dls_cons (de_tup (dls_cons (de_tup (dls_cons de_str dls_nil)) (dls_cons de_int (dls_cons de_int dls_nil)))) (dls_cons (de_tup (dls_cons (de_tup (dls_cons de_str (dls_cons de_str (dls_cons de_str dls_nil)))) (dls_cons de_int (dls_cons de_int dls_nil)))) (dls_cons (de_tup (dls_cons (de_tup (dls_cons de_str (dls_cons de_str (dls_cons de_str dls_nil)))) (dls_cons de_int (dls_cons de_int dls_nil)))) (dls_cons (de_tup (dls_cons (ev 0) (dls_cons de_int (dls_cons de_int dls_nil)))) dls_nil)))))))))
    (dss_cons (sset 1 sc_Lbyhand.nd (de_op op_addD (gv 1) (dg_val (de_new (dn_lst (dls_cons (de_tup (dls_cons (ev 0) (dls_cons de_int (dls_cons de_int dls_nil)))) (dls_cons (de_tup (dls_cons (ev 0) (dls_cons de_int (dls_cons de_int dls_nil)))) (dls_cons (de_tup (dls_cons (ev 0) (dls_cons de_int (dls_cons de_int dls_nil)))) (dls_cons (de_tup (dls_cons (de_tup (dls_cons de_str (dls_cons de_str (dls_cons de_str (dls_cons de_str (dls_cons de_str dls_nil)))))) (dls_cons de_int (dls_cons de_int dls_nil)))) dls_nil)))))))))
    (dss_cons (sset 1 sc_Lbyhand.nd (de_op op_addD (gv 1) (dg_val (de_new (dn_lst (dls_cons (de_tup (dls_cons (de_tup (dls_cons de_str (dls_cons de_str (dls_cons de_str (dls_cons de_str (dls_cons de_str (dls_cons de_str (dls_cons de_str (dls_cons de_str dls_nil))))))))) (dls_cons de_int (dls_cons de_int dls_nil)))) (dls_cons (de_tup (dls_cons (de_op op_mulD (dg_val (de_tup (dls_cons de_str (dls_cons de_str (dls_cons de_str (dls_cons de_str (dls_cons de_str dls_nil))))))) (dg_val de_int)) (dls_cons de_int (dls_cons de_int dls_nil)))) dls_nil)))))))
    (dss_cons (sset 1 sc_Lbyhand.nd (de_op op_addD (gv 1) (dg_val (de_new (dn_lst (dls_cons (de_tup (dls_cons (de_op op_mulD (dg_val (de_tup (dls_cons de_str (dls_cons de_str (dls_cons de_str (dls_cons de_str (dls_cons de_str dls_nil))))))) (dg_val de_int)) (dls_cons de_int (dls_cons de_int dls_nil)))) (dls_cons (de_tup (dls_cons (de_op op_addD (dg_val (de_op op_mulD (dg_val (de_tup (dls_cons de_str (dls_cons de_str dls_nil)))) (dg_val de_int))) (dg_val (de_op op_mulD (dg_val (de_tup (dls_cons de_str dls_nil))) (dg_val de_int)))) (dls_cons de_int (dls_cons de_int dls_nil)))) dls_nil)))))))
    (dss_cons (sset 2 sc_Lbyhand.nd (de_op op_addD (dg_val (de_op op_mulD (dg_val (de_tup (dls_cons de_str (dls_cons de_str (dls_cons de_str dls_nil))))) (dg_val de_int))) (dg_val (de_op op_mulD (dg_val (de_tup (dls_cons de_str (dls_cons de_str dls_nil)))) (dg_val de_int)))))
    (dss_cons (sset 1 sc_Lbyhand.nd (de_op op_addD (gv 1) (dg_val (de_new (dn_lst (dls_cons (de_tup (dls_cons (ev 2) (dls_cons de_int (dls_cons (ecall c_Lforeseen hG hR (das_cons (gv 2) (das_cons (dg_val de_int) das_nil))) dls_nil)))) dls_nil))))))
    (dss_cons (ds_ret (de_callB (cl_all rfl) rfl (T.free "all" (by decide)) (by decide +kernel) (das_cons (dg_val (de_new (dn_kT (own := [("_law_names", 3), ("_law_many", 4), ("_law_due", 5)]) rfl rfl sc_Lbyhand.nd (di_seq (ev 1)) (blkOk_by (N := N_Lbyhand) (sc := (defScope (top 33))) (own := [("_law_names", 3), ("_law_many", 4), ("_law_due", 5)]) (by decide +kernel)) (fun _ _ _ _ _ => pg_tup rfl (pgs_cons (kn 3 sc_Lbyhand.nd) (pgs_cons (kn 4 sc_Lbyhand.nd) (pgs_cons (kn 5 sc_Lbyhand.nd) pgs_nil)))) (fun _ _ _ _ _ => pg_unl rfl (pgs_cons (kn 3 sc_Lbyhand.nd) (pgs_cons (kn 4 sc_Lbyhand.nd) (pgs_cons (kn 5 sc_Lbyhand.nd) pgs_nil)))) (fun _ _ _ _ _ => dc_nil) (fun _ _ _ _ _ => (ecall c_Lholds hG hR (das_cons (gv 3) (das_cons (gv 4) (das_cons (gv 5) das_nil)))))))) das_nil)))
    dss_nil))))))))
abbrev N_law : List Str := ["_law_script", "_law_k"]
theorem sc_law : FnScope N_law ["_law_script"] (defScope (top 34)) := ⟨rfl, rfl, rfl, by decide +kernel, rfl, by decide +kernel, by decide +kernel⟩
noncomputable def g_law : SF := (fSq (fIfS (fNot (fTst (fCa 0 F_Lbyhand aNil))) (fSq (fRet (fC (.bool false)))
  fNx) fNx)
  (fSq (fRet (fCl allD (aCons (gVal (fLst (fComp (iRange1 (lCons (fCl maxD (aCons (gVal (fC (.int 2))) (aCons (gVal (fCl min2D (aCons (gVal (fScrLen 0)) (aCons (gVal (fC (.int 6))) aNil)))) aNil))) lNil)) [1] (tName 1) fYes (fCaN F_Lright (fCaL 1 F_Lpool (aCons (gVal (fCa 2 F_Lcell (aCons (gScr 0) (aCons (gVar 1) aNil)))) aNil)))))) aNil)))
  fNx))
noncomputable def F_law : FF := fBody 1 g_law
theorem ok_law (F : FunD K "law" "law" (defArgs (top 34)) (defBody (top 34)) (defScope (top 34)) [] [] f fd) (T : Fx K w mg) (c_Lbyhand : Cal P w K mg base k "_law_by_hand" [] (spD w K 0 F_Lbyhand)) (c_Lcell : Cal P w K mg base k "_law_cell" ["_law_script", "_law_k"] (spD w K 2 F_Lcell)) (c_Lpool : Cal P w K mg base k "_law_pool" ["_law_figure"] (spL w K 1 F_Lpool)) (c_Lright : Cal P w K mg base k "_law_right" ["_law_pool_here"] (spD w K 1 F_Lright)) :
    FnG P w K mg base (k + 1) f fd ["_law_script"] (spD w K 1 F_law) := by
  have h1 := okD (P := P) (w := w) (base := base) (mg := mg) (k := k) F sc_law (g := g_law)
  rw [show F_law = fBody (N_law.length - (["_law_script"] : List Str).length) g_law from rfl]
  refine h1 fun cdv A outer s H E hG hR => ?_
  have hu : (A.deeper (envOfC "law" (defScope (top 34)) s.heap.objs.size f cdv)).units + 65 < cLine := by
    have := hR.un
    omega
  have hu64 : (A.deeper (envOfC "law" (defScope (top 34)) s.heap.objs.size f cdv)).units + 64 < cLine := by omega
  exact (dss_cons (ds_if (dt_not (dt_val (ecall0 c_Lbyhand hG hR))) (dss_cons (ds_ret de_bl)
    dss_nil) dss_nil)
    (dss_cons (ds_ret (de_callB (cl_all rfl) rfl (T.free "all" (by decide)) (by decide +kernel) (das_cons (dg_val (de_new (dn_comp rfl sc_law.nd (di_range1 rfl (T.free "range" (by decide)) (dls_cons (de_callB (cl_max rfl) rfl (T.free "max" (by decide)) (by decide +kernel) (das_cons (dg_val de_int) (das_cons (dg_val (de_callB (cl_min2 rfl) rfl (T.free "min" (by decide)) (by decide +kernel) (das_cons (dg_val (eslen 0 (T.free "len" (by decide)))) (das_cons (dg_val de_int) das_nil)))) das_nil))) dls_nil)) (blkOk_by (N := N_law) (sc := (defScope (top 34))) (own := [("_law_k", 1)]) (by decide +kernel)) (fun _ _ _ _ _ => kn 1 sc_law.nd) (fun _ _ _ _ _ => dc_nil) (fun _ _ _ _ _ => (de_callN c_Lright hG hR (ncall c_Lpool hG hR (das_cons (dg_val (ecall c_Lcell hG hR (das_cons (sv 0) (das_cons (gv 1) das_nil)))) das_nil))))))) das_nil)))
    dss_nil))
end
end K75

set_option Elab.async false
set_option linter.all false
set_option maxRecDepth 100000
set_option maxHeartbeats 0
/-! The head of the row. -/
namespace K75
open PySem PySem.Spec PyProof.Rows L2 GX DL
def dTop (x : Str) (i : Nat) : He.DefD := ⟨(x, none), x, x, defArgs (top i), defBody (top i), defScope (top i), [], []⟩
def defs : List (Str × Nat) := [(("is_whole" : Str), (7 : Nat)), (("is_between" : Str), (8 : Nat)), (("is_tuple" : Str), (9 : Nat)), (("is_name" : Str), (16 : Nat)), (("check_history" : Str), (17 : Nat)), (("check_known" : Str), (20 : Nat)), (("next_requests" : Str), (21 : Nat)), (("cheapest_times" : Str), (22 : Nat)), (("best_weights" : Str), (19 : Nat)), (("_law_cell" : Str), (24 : Nat)), (("_law_pool" : Str), (25 : Nat)), (("_law_draw" : Str), (26 : Nat)), (("_law_row" : Str), (27 : Nat)), (("_law_later" : Str), (28 : Nat)), (("_law_foreseen" : Str), (29 : Nat)), (("_law_bound" : Str), (30 : Nat)), (("_law_holds" : Str), (31 : Nat)), (("_law_right" : Str), (32 : Nat)), (("_law_by_hand" : Str), (33 : Nat)), (("law" : Str), (34 : Nat))]
def fn : List He.DefD := defs.map fun p => dTop p.1 p.2
def nums : List (Str × Int) := [("MOST_LINES", 4), ("MOST_REQUESTS", 2000), ("MOST_KEPT", 200), ("LONGEST", 6)]
def fa : List He.Fa := defs.map (fun p => .glo p.1) ++ ([.str "LETTERS" "abcdefghijklmnopqrstuvwxyz"] ++ (frees.map .free ++ nums.map (fun p => .int p.1 p.2)))
def ts : List He.Tab := []
def tf : List He.Defn := []
def ex (_ : PySem.W.Frag) : Bool := true
abbrev R : PySem.W.OpenRow := PySem.W.OpenLaw.row PySem.Challenge.rw_missbounds_k75_weights
abbrev Says (w : World) (h : Heap) (K : PySem.W.Frag) : Prop := He.SaysX fa fn ts tf ex w h K
def hk : PySem.W.Hook := He.hookX 5 fa fn ts tf ex
def ob (s : PySem.W.SharedT) : He.AlX := He.obsX 5 fa fn ts tf ex (HandSHeadRun.getT s)
theorem ob_eq (s : PySem.W.SharedT) : ob s = hk.obs s.abs := He.obsX_eq (HandSHeadRun.getT_eq s)
end K75

set_option Elab.async false
set_option linter.all false
set_option maxRecDepth 100000
set_option maxHeartbeats 0
namespace K75
open PySem PySem.Spec PyProof.Rows L2 GX DL
def loose : List Str := [("InputError" : Str), ("SizeError" : Str), ("InvalidLines" : Str), ("InvalidHistory" : Str), ("TooManyRequests" : Str), ("is_whole" : Str), ("is_between" : Str), ("is_tuple" : Str), ("MOST_LINES" : Str), ("MOST_REQUESTS" : Str), ("MOST_KEPT" : Str), ("LETTERS" : Str), ("LONGEST" : Str), ("is_name" : Str), ("check_history" : Str), ("best_weights" : Str), ("check_known" : Str), ("next_requests" : Str), ("cheapest_times" : Str), ("_law_cell" : Str), ("_law_pool" : Str), ("_law_draw" : Str), ("_law_row" : Str), ("_law_later" : Str), ("_law_foreseen" : Str), ("_law_bound" : Str), ("_law_holds" : Str), ("_law_right" : Str), ("_law_by_hand" : Str)]
theorem headRun (w : World) : HandSHeadRun.RunEq R (PySem.W.view R.prog [34]) hk ob 20000 loose w := by
  refine PySem.W.byRow2 "special-get-raises" (P := fun w => HandSHeadRun.RunEq R (PySem.W.view R.prog [34]) hk ob 20000 loose w) ?_ ?_ w
  · intro w os
    kernel_rfl
  · intro w os
    kernel_rfl
end K75

set_option Elab.async false
set_option linter.all false
set_option maxRecDepth 100000
set_option maxHeartbeats 4000000
/-! What the head tells; every def in its place. -/
namespace K75
open PySem PySem.Spec PyProof.Rows L2 GX StX DL BX PySem.Calls NdefX
theorem code_of {K : PySem.W.Frag} {x q : Str} {ps : Arguments} {b : List Stmt} {sc : Scope} {fd : FuncData} (F : FunD K x q ps b sc [] [] (He.ga K x) fd) : fd.code = .ref (He.cT K (x, none)).1 := by
  obtain ⟨oc, od, dV, kV, doc, pm, an, cdv, ct, osl, rfl, lk, hcd, _, _⟩ := F.ex
  obtain ⟨c, rfl⟩ := He.codeIn_ref hcd
  have e : He.codeOf K (x, none) = c := He.codeOf_eq (p := (x, none)) lk rfl
  show (Value.ref c : Value) = .ref (He.codeOf K (x, none))
  rw [e]
/-- the name of the function that is made at a place -/
def nm (l c : Nat) : Str := ""
/-- the functions that the row makes or hands on -/
def ftOf : DL.FT where
  nf t c cs := none
  qn t := ""
  tabs := []
  gl t := none
structure FtOk [DL.FT] : Prop where
  u : ∀ p ∈ FT.tabs, p.2 = nm
theorem ft_ok : letI := ftOf; FtOk := by
  letI := ftOf
  refine ⟨fun p hp => ?_⟩
  · have hp2 : p ∈ ([] : List (Addr × (Nat → Nat → Str))) := hp
    cases hp2
abbrev cps (K : PySem.W.Frag) : List (Addr × Addr) := tf.map fun x => He.cT K x
theorem facts [DL.FT] {P : Program} {w : World} {K : PySem.W.Frag} {h : Heap} {mg : Str → Option Value} {f : Addr} (X : K.In h) (G : h.Ns mainGlobals mg) (hfa : mg ("law" : Str) = some (.ref f)) (c : Says w h K) (ok : FtOk  ) :
    ∃ fd : FuncData, (∀ (s : Shared) (v : Value), BindsTo s fd ⟨[v], []⟩ [("_law_script", v)]) ∧ ∀ base : Heap, K.In base → base.Ns mainGlobals mg → (∀ p ∈ cps K, LamX.TabB base mg p.1 p.2) → FnG P w K mg base 7 f fd ["_law_script"] (spD w K 1 F_law) := by
  have c1 := He.SaysT.d c.t
  have inl : ∀ {x : He.Fa}, x ∈ defs.map (fun p => He.Fa.glo p.1) → x.ok K = true := fun z => He.SaysD.facts c1 (List.mem_append_left _ z)
  have inr : ∀ {x : He.Fa}, x ∈ ([.str "LETTERS" "abcdefghijklmnopqrstuvwxyz"] ++ (frees.map .free ++ nums.map (fun p => .int p.1 p.2)) : List He.Fa) → x.ok K = true := fun z => He.SaysD.facts c1 (List.mem_append_right _ z)
  have glo : ∀ p ∈ defs, mg p.1 = some (.ref (He.ga K p.1)) := fun p hp => He.glo_ok X G (inl (List.mem_map.mpr ⟨p, hp, rfl⟩))
  have dfs : ∀ p ∈ defs, ∃ fd, FunD K p.1 p.1 (defArgs (top p.2)) (defBody (top p.2)) (defScope (top p.2)) [] [] (He.ga K p.1) fd := fun p hp => He.SaysD.defs c1 (d := dTop p.1 p.2) (List.mem_map.mpr ⟨p, hp, rfl⟩)
  have int : ∀ p ∈ nums, ∃ t, mg p.1 = some (.int p.2 t) := fun p hp => He.int_ok X G (inr (List.mem_append_right _ (List.mem_append_right _ (List.mem_map.mpr ⟨p, hp, rfl⟩))))
  have T : Fx K w mg := by
    exact ⟨fun x hx => He.free_ok X G (inr (List.mem_append_right _ (List.mem_append_left _ (List.mem_map.mpr ⟨x, hx, rfl⟩)))), int ("MOST_LINES", 4) (by decide +kernel), int ("MOST_REQUESTS", 2000) (by decide +kernel), int ("MOST_KEPT", 200) (by decide +kernel), int ("LONGEST", 6) (by decide +kernel),
      He.str_ok X G (inr (List.mem_append_left _ List.mem_cons_self))⟩
  obtain ⟨fd_iswhole, F_iswholex⟩ := dfs ("is_whole", 7) (by decide +kernel)
  have g_iswholex := glo ("is_whole", 7) (by decide +kernel)
  obtain ⟨fd_isbetween, F_isbetweenx⟩ := dfs ("is_between", 8) (by decide +kernel)
  have g_isbetweenx := glo ("is_between", 8) (by decide +kernel)
  obtain ⟨fd_istuple, F_istuplex⟩ := dfs ("is_tuple", 9) (by decide +kernel)
  have g_istuplex := glo ("is_tuple", 9) (by decide +kernel)
  obtain ⟨fd_isname, F_isnamex⟩ := dfs ("is_name", 16) (by decide +kernel)
  have g_isnamex := glo ("is_name", 16) (by decide +kernel)
  obtain ⟨fd_checkhistory, F_checkhistoryx⟩ := dfs ("check_history", 17) (by decide +kernel)
  have g_checkhistoryx := glo ("check_history", 17) (by decide +kernel)
  obtain ⟨fd_checkknown, F_checkknownx⟩ := dfs ("check_known", 20) (by decide +kernel)
  have g_checkknownx := glo ("check_known", 20) (by decide +kernel)
  obtain ⟨fd_nextrequests, F_nextrequestsx⟩ := dfs ("next_requests", 21) (by decide +kernel)
  have g_nextrequestsx := glo ("next_requests", 21) (by decide +kernel)
  obtain ⟨fd_cheapesttimes, F_cheapesttimesx⟩ := dfs ("cheapest_times", 22) (by decide +kernel)
  have g_cheapesttimesx := glo ("cheapest_times", 22) (by decide +kernel)
  obtain ⟨fd_bestweights, F_bestweightsx⟩ := dfs ("best_weights", 19) (by decide +kernel)
  have g_bestweightsx := glo ("best_weights", 19) (by decide +kernel)
  obtain ⟨fd_Lcell, F_Lcellx⟩ := dfs ("_law_cell", 24) (by decide +kernel)
  have g_Lcellx := glo ("_law_cell", 24) (by decide +kernel)
  obtain ⟨fd_Lpool, F_Lpoolx⟩ := dfs ("_law_pool", 25) (by decide +kernel)
  have g_Lpoolx := glo ("_law_pool", 25) (by decide +kernel)
  obtain ⟨fd_Ldraw, F_Ldrawx⟩ := dfs ("_law_draw", 26) (by decide +kernel)
  have g_Ldrawx := glo ("_law_draw", 26) (by decide +kernel)
  obtain ⟨fd_Lrow, F_Lrowx⟩ := dfs ("_law_row", 27) (by decide +kernel)
  have g_Lrowx := glo ("_law_row", 27) (by decide +kernel)
  obtain ⟨fd_Llater, F_Llaterx⟩ := dfs ("_law_later", 28) (by decide +kernel)
  have g_Llaterx := glo ("_law_later", 28) (by decide +kernel)
  obtain ⟨fd_Lforeseen, F_Lforeseenx⟩ := dfs ("_law_foreseen", 29) (by decide +kernel)
  have g_Lforeseenx := glo ("_law_foreseen", 29) (by decide +kernel)
  obtain ⟨fd_Lbound, F_Lboundx⟩ := dfs ("_law_bound", 30) (by decide +kernel)
  have g_Lboundx := glo ("_law_bound", 30) (by decide +kernel)
  obtain ⟨fd_Lholds, F_Lholdsx⟩ := dfs ("_law_holds", 31) (by decide +kernel)
  have g_Lholdsx := glo ("_law_holds", 31) (by decide +kernel)
  obtain ⟨fd_Lright, F_Lrightx⟩ := dfs ("_law_right", 32) (by decide +kernel)
  have g_Lrightx := glo ("_law_right", 32) (by decide +kernel)
  obtain ⟨fd_Lbyhand, F_Lbyhandx⟩ := dfs ("_law_by_hand", 33) (by decide +kernel)
  have g_Lbyhandx := glo ("_law_by_hand", 33) (by decide +kernel)
  obtain ⟨fd_law, F_lawx⟩ := dfs ("law", 34) (by decide +kernel)
  have e := hfa.symm.trans (glo ("law", 34) (by decide +kernel))
  cases e
  have b_iswhole : Binds K fd_iswhole ["value"] [] := F_iswholex.bindsN fun _ _ _ _ _ _ us hl => match us, hl with | [_], _ => rfl
  have b_isbetween : Binds K fd_isbetween ["value", "least", "most"] [] := F_isbetweenx.bindsN fun _ _ _ _ _ _ us hl => match us, hl with | [_, _, _], _ => rfl
  have b_istuple : Binds K fd_istuple ["value", "least", "most"] [] := F_istuplex.bindsN fun _ _ _ _ _ _ us hl => match us, hl with | [_, _, _], _ => rfl
  have b_isname : Binds K fd_isname ["value"] [] := F_isnamex.bindsN fun _ _ _ _ _ _ us hl => match us, hl with | [_], _ => rfl
  have b_checkhistory : Binds K fd_checkhistory ["value"] [] := F_checkhistoryx.bindsN fun _ _ _ _ _ _ us hl => match us, hl with | [_], _ => rfl
  have b_checkknown : Binds K fd_checkknown ["names", "lines"] [] := F_checkknownx.bindsN fun _ _ _ _ _ _ us hl => match us, hl with | [_, _], _ => rfl
  have b_nextrequests : Binds K fd_nextrequests ["names"] [] := F_nextrequestsx.bindsN fun _ _ _ _ _ _ us hl => match us, hl with | [_], _ => rfl
  have b_cheapesttimes : Binds K fd_cheapesttimes ["follows", "price"] [] := F_cheapesttimesx.bindsN fun _ _ _ _ _ _ us hl => match us, hl with | [_, _], _ => rfl
  have b_bestweights : Binds K fd_bestweights ["names", "lines"] [] := F_bestweightsx.bindsN fun _ _ _ _ _ _ us hl => match us, hl with | [_, _], _ => rfl
  have b_Lcell : Binds K fd_Lcell ["_law_script", "_law_k"] [] := F_Lcellx.bindsN fun _ _ _ _ _ _ us hl => match us, hl with | [_, _], _ => rfl
  have b_Lpool : Binds K fd_Lpool ["_law_figure"] [] := F_Lpoolx.bindsN fun _ _ _ _ _ _ us hl => match us, hl with | [_], _ => rfl
  have b_Ldraw : Binds K fd_Ldraw ["_law_pool_here", "_law_most"] [] := F_Ldrawx.bindsN fun _ _ _ _ _ _ us hl => match us, hl with | [_, _], _ => rfl
  have b_Lrow : Binds K fd_Lrow ["_law_pool_here", "_law_many", "_law_most"] [] := F_Lrowx.bindsN fun _ _ _ _ _ _ us hl => match us, hl with | [_, _, _], _ => rfl
  have b_Llater : Binds K fd_Llater ["_law_row_here"] [] := F_Llaterx.bindsN fun _ _ _ _ _ _ us hl => match us, hl with | [_], _ => rfl
  have b_Lforeseen : Binds K fd_Lforeseen ["_law_row_here", "_law_many"] [] := F_Lforeseenx.bindsN fun _ _ _ _ _ _ us hl => match us, hl with | [_, _], _ => rfl
  have b_Lbound : Binds K fd_Lbound ["_law_row_here", "_law_many", "_law_told"] [] := F_Lboundx.bindsN fun _ _ _ _ _ _ us hl => match us, hl with | [_, _, _], _ => rfl
  have b_Lholds : Binds K fd_Lholds ["_law_row_here", "_law_many", "_law_due"] [] := F_Lholdsx.bindsN fun _ _ _ _ _ _ us hl => match us, hl with | [_, _, _], _ => rfl
  have b_Lright : Binds K fd_Lright ["_law_pool_here"] [] := F_Lrightx.bindsN fun _ _ _ _ _ _ us hl => match us, hl with | [_], _ => rfl
  have b_Lbyhand : Binds K fd_Lbyhand [] [] := F_Lbyhandx.bindsN fun _ _ _ _ _ _ us hl => match us, hl with | [], _ => rfl
  have b := FunD.bindsA (ps := ["_law_script"]) F_lawx fun _ _ _ _ _ _ us hl => match us, hl with | [_], _ => rfl
  refine ⟨fd_law, fun s v => b s [v] rfl, fun base _ _ hTB => ?_⟩
  have o_iswhole := ok_iswhole (P := P) (w := w) (base := base) (k := 0) F_iswholex T 
  have c_iswhole : Cal P w K mg base 1 "is_whole" ["value"] (spD w K 1 F_iswhole) := ⟨_, _, o_iswhole, g_iswholex, F_iswholex.kp, b_iswhole⟩
  have o_isbetween := ok_isbetween (P := P) (w := w) (base := base) (k := 1) F_isbetweenx T (c_iswhole.mono (by decide))
  have c_isbetween : Cal P w K mg base 2 "is_between" ["value", "least", "most"] (spD w K 3 F_isbetween) := ⟨_, _, o_isbetween, g_isbetweenx, F_isbetweenx.kp, b_isbetween⟩
  have o_istuple := ok_istuple (P := P) (w := w) (base := base) (k := 0) F_istuplex T 
  have c_istuple : Cal P w K mg base 1 "is_tuple" ["value", "least", "most"] (spD w K 3 F_istuple) := ⟨_, _, o_istuple, g_istuplex, F_istuplex.kp, b_istuple⟩
  have o_isname := ok_isname (P := P) (w := w) (base := base) (k := 0) F_isnamex T 
  have c_isname : Cal P w K mg base 1 "is_name" ["value"] (spD w K 1 F_isname) := ⟨_, _, o_isname, g_isnamex, F_isnamex.kp, b_isname⟩
  have o_checkhistory := ok_checkhistory (P := P) (w := w) (base := base) (k := 1) F_checkhistoryx T (c_isname.mono (by decide)) (c_istuple.mono (by decide))
  have c_checkhistory : Cal P w K mg base 2 "check_history" ["value"] (spD w K 1 F_checkhistory) := ⟨_, _, o_checkhistory, g_checkhistoryx, F_checkhistoryx.kp, b_checkhistory⟩
  have o_checkknown := ok_checkknown (P := P) (w := w) (base := base) (k := 2) F_checkknownx T (c_checkhistory.mono (by decide)) (c_isbetween.mono (by decide))
  have c_checkknown : Cal P w K mg base 3 "check_known" ["names", "lines"] (spD w K 2 F_checkknown) := ⟨_, _, o_checkknown, g_checkknownx, F_checkknownx.kp, b_checkknown⟩
  have o_nextrequests := ok_nextrequests (P := P) (w := w) (base := base) (k := 0) F_nextrequestsx T 
  have c_nextrequests : Cal P w K mg base 1 "next_requests" ["names"] (spD w K 1 F_nextrequests) := ⟨_, _, o_nextrequests, g_nextrequestsx, F_nextrequestsx.kp, b_nextrequests⟩
  have o_cheapesttimes := ok_cheapesttimes (P := P) (w := w) (base := base) (k := 0) F_cheapesttimesx T 
  have c_cheapesttimes : Cal P w K mg base 1 "cheapest_times" ["follows", "price"] (spD w K 2 F_cheapesttimes) := ⟨_, _, o_cheapesttimes, g_cheapesttimesx, F_cheapesttimesx.kp, b_cheapesttimes⟩
  have o_bestweights := ok_bestweights (P := P) (w := w) (base := base) (k := 3) F_bestweightsx T (c_cheapesttimes.mono (by decide)) (c_checkknown.mono (by decide)) (c_nextrequests.mono (by decide))
  have c_bestweights : Cal P w K mg base 4 "best_weights" ["names", "lines"] (spD w K 2 F_bestweights) := ⟨_, _, o_bestweights, g_bestweightsx, F_bestweightsx.kp, b_bestweights⟩
  have o_Lcell := ok_Lcell (P := P) (w := w) (base := base) (k := 0) F_Lcellx T 
  have c_Lcell : Cal P w K mg base 1 "_law_cell" ["_law_script", "_law_k"] (spD w K 2 F_Lcell) := ⟨_, _, o_Lcell, g_Lcellx, F_Lcellx.kp, b_Lcell⟩
  have o_Lpool := ok_Lpool (P := P) (w := w) (base := base) (k := 0) F_Lpoolx T 
  have c_Lpool : Cal P w K mg base 1 "_law_pool" ["_law_figure"] (spL w K 1 F_Lpool) := ⟨_, _, o_Lpool, g_Lpoolx, F_Lpoolx.kp, b_Lpool⟩
  have o_Ldraw := ok_Ldraw (P := P) (w := w) (base := base) (k := 0) F_Ldrawx T 
  have c_Ldraw : Cal P w K mg base 1 "_law_draw" ["_law_pool_here", "_law_most"] (spD w K 2 F_Ldraw) := ⟨_, _, o_Ldraw, g_Ldrawx, F_Ldrawx.kp, b_Ldraw⟩
  have o_Lrow := ok_Lrow (P := P) (w := w) (base := base) (k := 1) F_Lrowx T (c_Ldraw.mono (by decide))
  have c_Lrow : Cal P w K mg base 2 "_law_row" ["_law_pool_here", "_law_many", "_law_most"] (spD w K 3 F_Lrow) := ⟨_, _, o_Lrow, g_Lrowx, F_Lrowx.kp, b_Lrow⟩
  have o_Llater := ok_Llater (P := P) (w := w) (base := base) (k := 0) F_Llaterx T 
  have c_Llater : Cal P w K mg base 1 "_law_later" ["_law_row_here"] (spD w K 1 F_Llater) := ⟨_, _, o_Llater, g_Llaterx, F_Llaterx.kp, b_Llater⟩
  have o_Lforeseen := ok_Lforeseen (P := P) (w := w) (base := base) (k := 0) F_Lforeseenx T 
  have c_Lforeseen : Cal P w K mg base 1 "_law_foreseen" ["_law_row_here", "_law_many"] (spD w K 2 F_Lforeseen) := ⟨_, _, o_Lforeseen, g_Lforeseenx, F_Lforeseenx.kp, b_Lforeseen⟩
  have o_Lbound := ok_Lbound (P := P) (w := w) (base := base) (k := 1) F_Lboundx T (c_Llater.mono (by decide))
  have c_Lbound : Cal P w K mg base 2 "_law_bound" ["_law_row_here", "_law_many", "_law_told"] (spD w K 3 F_Lbound) := ⟨_, _, o_Lbound, g_Lboundx, F_Lboundx.kp, b_Lbound⟩
  have o_Lholds := ok_Lholds (P := P) (w := w) (base := base) (k := 4) F_Lholdsx T (c_Lbound.mono (by decide)) (c_bestweights.mono (by decide))
  have c_Lholds : Cal P w K mg base 5 "_law_holds" ["_law_row_here", "_law_many", "_law_due"] (spD w K 3 F_Lholds) := ⟨_, _, o_Lholds, g_Lholdsx, F_Lholdsx.kp, b_Lholds⟩
  have o_Lright := ok_Lright (P := P) (w := w) (base := base) (k := 5) F_Lrightx T (c_Ldraw.mono (by decide)) (c_Lforeseen.mono (by decide)) (c_Lholds.mono (by decide)) (c_Lrow.mono (by decide))
  have c_Lright : Cal P w K mg base 6 "_law_right" ["_law_pool_here"] (spD w K 1 F_Lright) := ⟨_, _, o_Lright, g_Lrightx, F_Lrightx.kp, b_Lright⟩
  have o_Lbyhand := ok_Lbyhand (P := P) (w := w) (base := base) (k := 5) F_Lbyhandx T (c_Lforeseen.mono (by decide)) (c_Lholds.mono (by decide))
  have c_Lbyhand : Cal P w K mg base 6 "_law_by_hand" [] (spD w K 0 F_Lbyhand) := ⟨_, _, o_Lbyhand, g_Lbyhandx, F_Lbyhandx.kp, b_Lbyhand⟩
  exact ok_law (k := 6) F_lawx T (c_Lbyhand.mono (by decide)) (c_Lcell.mono (by decide)) (c_Lpool.mono (by decide)) (c_Lright.mono (by decide))
end K75

set_option Elab.async false
set_option linter.all false
set_option maxRecDepth 100000
set_option maxHeartbeats 4000000
/-! The mirrors, applied. -/
namespace DL
open PySem PySem.Spec PyProof.Rows L2 GX StX
@[simp] theorem q_fVar  (i : Nat) (ρ : Rho) : fVar i ρ = (match ρ[i]? with
  | some (.dat d) => some (d, ρ)
  | some (.own _ (.l ds)) => some (.list ds, ρ.set i (.dat (.list ds)))
  | _ => none) := rfl
@[simp] theorem q_gVar  (i : Nat) (ρ : Rho) : gVar i ρ = (match look ρ (.v i) with
  | some _ => some (.v i, ρ)
  | none => none) := rfl
@[simp] theorem q_gVal  (f : EF) (ρ : Rho) : gVal f ρ = (match f ρ with
  | some (d, ρ') => some (.d d, ρ')
  | none => none) := rfl
@[simp] theorem q_fC  (d : PyData) (ρ : Rho) : fC d ρ = (some (d, ρ)) := rfl
@[simp] theorem q_fTst  (f : EF) (ρ : Rho) : fTst f ρ = (match f ρ with
  | some (.bool b, ρ') => some (b, ρ')
  | _ => none) := rfl
@[simp] theorem q_fNot  (f : TF) (ρ : Rho) : fNot f ρ = (match f ρ with
  | some (b, ρ') => some (!b, ρ')
  | none => none) := rfl
@[simp] theorem q_fAnd  (f g : TF) (ρ : Rho) : fAnd f g ρ = (match f ρ with
  | some (true, ρ') => g ρ'
  | some (false, ρ') => some (false, ρ')
  | none => none) := rfl
@[simp] theorem q_fOr  (f g : TF) (ρ : Rho) : fOr f g ρ = (match f ρ with
  | some (false, ρ') => g ρ'
  | some (true, ρ') => some (true, ρ')
  | none => none) := rfl
@[simp] theorem q_fAndV  (f g : EF) (ρ : Rho) : fAndV f g ρ = (match f ρ with
  | some (.bool true, ρ') => g ρ'
  | some (.bool false, ρ') => some (.bool false, ρ')
  | _ => none) := rfl
@[simp] theorem q_fOrV  (f g : EF) (ρ : Rho) : fOrV f g ρ = (match f ρ with
  | some (.bool false, ρ') => g ρ'
  | some (.bool true, ρ') => some (.bool true, ρ')
  | _ => none) := rfl
@[simp] theorem q_fNotV  (f : EF) (ρ : Rho) : fNotV f ρ = (match f ρ with
  | some (.bool b, ρ') => some (.bool (!b), ρ')
  | _ => none) := rfl
@[simp] theorem q_fIf  (c : TF) (f g : EF) (ρ : Rho) : fIf c f g ρ = (match c ρ with
  | some (true, ρ') => f ρ'
  | some (false, ρ') => g ρ'
  | none => none) := rfl
@[simp] theorem q_fOp  (op : Op2) (f g : GF) (ρ : Rho) : fOp op f g ρ = (match f ρ with
  | none => none
  | some (a, ρ1) => match g ρ1 with
    | none => none
    | some (b, ρ2) => match look ρ2 a, look ρ2 b with
      | some d, some e => match op d e with
        | none => none
        | some r => some (r, ρ2)
      | _, _ => none) := rfl
@[simp] theorem q_fChain  (o1 o2 : Op2) (f g h : GF) (ρ : Rho) : fChain o1 o2 f g h ρ = (match f ρ with
  | none => none
  | some (a, ρ1) => match g ρ1 with
    | none => none
    | some (b, ρ2) => match look ρ2 a, look ρ2 b with
      | some d, some e => match o1 d e with
        | some (.bool true) => match h ρ2 with
          | none => none
          | some (c, ρ3) => match look ρ3 b, look ρ3 c with
            | some e', some m => match o2 e' m with
              | none => none
              | some r => some (r, ρ3)
            | _, _ => none
        | some (.bool false) => some (.bool false, ρ2)
        | _ => none
      | _, _ => none) := rfl
@[simp] theorem q_lNil  (ρ : Rho) : lNil  ρ = (some ([], ρ)) := rfl
@[simp] theorem q_lCons  (f : EF) (g : LF) (ρ : Rho) : lCons f g ρ = (match f ρ with
  | none => none
  | some (d, ρ1) => match g ρ1 with
    | none => none
    | some (ds, ρ2) => some (d :: ds, ρ2)) := rfl
@[simp] theorem q_lStar  (f : EF) (g : LF) (ρ : Rho) : lStar f g ρ = (match f ρ with
  | some (.tuple es, ρ1) => match g ρ1 with
    | none => none
    | some (ds, ρ2) => some (es ++ ds, ρ2)
  | some (.list es, ρ1) => match g ρ1 with
    | none => none
    | some (ds, ρ2) => some (es ++ ds, ρ2)
  | _ => none) := rfl
@[simp] theorem q_fTup  (g : LF) (ρ : Rho) : fTup g ρ = (match g ρ with
  | some (ds, ρ') => if fits ds.length = true then some (.tuple ds, ρ') else none
  | none => none) := rfl
@[simp] theorem q_lLst  (g : LF) (ρ : Rho) : lLst g ρ = (match g ρ with
  | some (ds, ρ') => if fits ds.length = true then some (ds, ρ') else none
  | none => none) := rfl
@[simp] theorem q_fLst  (f : LF) (ρ : Rho) : fLst f ρ = ((f ρ).map fun r => (.list r.1, r.2)) := rfl
@[simp] theorem q_aNil  (ρ : Rho) : aNil  ρ = (some ([], ρ)) := rfl
@[simp] theorem q_aCons  (f : GF) (g : AF) (ρ : Rho) : aCons f g ρ = (match f ρ with
  | none => none
  | some (a, ρ1) => match g ρ1 with
    | none => none
    | some (as, ρ2) => some (a :: as, ρ2)) := rfl
@[simp] theorem q_fCl  (op : OpN) (f : AF) (ρ : Rho) : fCl op f ρ = (match f ρ with
  | none => none
  | some (as, ρ1) => match looks ρ1 as with
    | none => none
    | some ds => match op ds with
      | none => none
      | some r => some (r, ρ1)) := rfl
@[simp] theorem q_oNone  (ρ : Rho) : oNone  ρ = (some (none, ρ)) := rfl
@[simp] theorem q_oSome  (f : EF) (ρ : Rho) : oSome f ρ = (match f ρ with
  | some (.int i, ρ') => some (some i, ρ')
  | _ => none) := rfl
@[simp] theorem q_fSl  (f : GF) (l h : OF) (ρ : Rho) : fSl f l h ρ = (match f ρ with
  | none => none
  | some (a, ρ1) => match l ρ1 with
    | none => none
    | some (lo, ρ2) => match h ρ2 with
      | none => none
      | some (hi, ρ3) => match look ρ3 a with
        | none => none
        | some d => match sliceD d lo hi with
          | none => none
          | some r => some (r, ρ3)) := rfl
@[simp] theorem q_fMe  (T : String) (op : OpM) (f : GF) (g : AF) (ρ : Rho) : fMe T op f g ρ = (match f ρ with
  | none => none
  | some (a, ρ1) => match look ρ1 a with
    | none => none
    | some d0 => if tyD T d0 = true then match g ρ1 with
        | none => none
        | some (as, ρ2) => match look ρ2 a, looks ρ2 as with
          | some d, some ds => match op d ds with
            | none => none
            | some r => some (r, ρ2)
          | _, _ => none
      else none) := rfl
@[simp] theorem q_fIsa  (b : PyData → Bool) (f : GF) (ρ : Rho) : fIsa b f ρ = (match f ρ with
  | none => none
  | some (a, ρ1) => match look ρ1 a with
    | none => none
    | some (.dict (_ :: _)) => none
    | some d => some (.bool (b d), ρ1)) := rfl
@[simp] theorem q_fCall  (F : FF) (f : AF) (ρ : Rho) : fCall F f ρ = (match f ρ with
  | none => none
  | some (as, ρ1) => if (as.filterMap (ownJ ρ1)).Nodup then match F (as.map (toSl ρ1)) with
      | none => none
      | some (d, sls') => if sls'.length = as.length then some (d, backC ρ1 as sls') else none
    else none) := rfl
@[simp] theorem q_fCa  (n : Nat) (F : FF) (g : AF) (ρ : Rho) : fCa n F g ρ = (match fCall F g ρ with | some r => (match g ρ with | some (as, _) => if as.length = n then some r else none | none => none) | none => none) := rfl
@[simp] theorem q_fCaL  (n : Nat) (F : FL) (f : AF) (ρ : Rho) : fCaL n F f ρ = (match f ρ with
  | none => none
  | some (as, ρ1) => if (as.filterMap (ownJ ρ1)).Nodup ∧ as.length = n then match F (as.map (toSl ρ1)) with
      | none => none
      | some (d, sls') => if sls'.length = as.length then some (d, backC ρ1 as sls') else none
    else none) := rfl
@[simp] theorem q_tName  (i : Nat) (d : PyData) (ρ : Rho) : tName i d ρ = (some (ρ.set i (.dat d))) := rfl
@[simp] theorem q_tTupT  (n : Nat) (ts : List GT) (d : PyData) (ρ : Rho) : tTupT n ts d ρ = (match d with
  | .tuple ds => if ds.length = n then goT ts ds ρ else none
  | .list ds => if ds.length = n then goT ts ds ρ else none
  | _ => none) := rfl
@[simp] theorem q_tSub  (j : Nat) (f : EF) (d : PyData) (ρ : Rho) : tSub j f d ρ = (match f ρ with
  | some (.int i, ρ1) => match ρ[j]?, ρ1[j]? with
    | some (.own _ (.l _)), some (.own b (.l ds)) => match ixN ds.length i with
      | some k => some (ρ1.set j (.own b (ds.set k d)))
      | none => none
    | _, _ => none
  | _ => none) := rfl
@[simp] theorem q_tRest  (i j : Nat) (d : PyData) (ρ : Rho) : tRest i j d ρ = (match d with
  | .tuple (d0 :: ds) => if ds.length ≤ 1000 then some ((ρ.set i (.dat d0)).set j (.dat (.list ds))) else none
  | _ => none) := rfl
@[simp] theorem q_fAsg  (f : EF) (t : GT) (ρ : Rho) : fAsg f t ρ = (match f ρ with
  | none => none
  | some (d, ρ1) => match t d ρ1 with
    | none => none
    | some ρ2 => some (.nx ρ2)) := rfl
@[simp] theorem q_fHold  (i : Nat) (f : LF) (ρ : Rho) : fHold i f ρ = (match f ρ with
  | none => none
  | some (ds, ρ1) => some (.nx (ρ1.set i (.own false ds)))) := rfl
@[simp] theorem q_fApp  (j : Nat) (f : EF) (ρ : Rho) : fApp j f ρ = (match ρ[j]? with
  | some (.own _ (.l _)) => match f ρ with
    | some (d, ρ1) => match ρ1[j]? with
      | some (.own b (.l ds)) => if fits (ds.length + 1) = true then some (.nx (ρ1.set j (.own b (ds ++ [d])))) else none
      | _ => none
    | none => none
  | _ => none) := rfl
@[simp] theorem q_fExt  (j : Nat) (f : EF) (ρ : Rho) : fExt j f ρ = (match ρ[j]? with
  | some (.own _ (.l _)) => match f ρ with
    | some (.list es, ρ1) => match ρ1[j]? with
      | some (.own b (.l ds)) => if fits (ds.length + es.length) = true then some (.nx (ρ1.set j (.own b (ds ++ es)))) else none
      | _ => none
    | _ => none
  | _ => none) := rfl
@[simp] theorem q_fIfS  (c : TF) (g h : SF) (ρ : Rho) : fIfS c g h ρ = (match c ρ with
  | some (true, ρ') => g ρ'
  | some (false, ρ') => h ρ'
  | none => none) := rfl
@[simp] theorem q_fFor  (it : LF) (t : GT) (g : SF) (ρ : Rho) : fFor it t g ρ = (match it ρ with
  | none => none
  | some (ds, ρ1) => fLoop t g ds ρ1) := rfl
@[simp] theorem q_fRet  (f : EF) (ρ : Rho) : fRet f ρ = (match f ρ with
  | some (d, ρ') => some (.rt d ρ')
  | none => none) := rfl
@[simp] theorem q_fRetN  (ρ : Rho) : fRetN  ρ = (some (.rt .none ρ)) := rfl
@[simp] theorem q_fDrop  (f : EF) (ρ : Rho) : fDrop f ρ = (match f ρ with
  | some (_, ρ') => some (.nx ρ')
  | none => none) := rfl
@[simp] theorem q_fSq  (g h : SF) (ρ : Rho) : fSq g h ρ = (match g ρ with
  | some (.nx ρ1) => h ρ1
  | r => r) := rfl
@[simp] theorem q_fThen  (g : SF) (h : LF) (ρ : Rho) : fThen g h ρ = (match g ρ with
  | some (.nx ρ1) => h ρ1
  | _ => none) := rfl
@[simp] theorem q_fNx  (ρ : Rho) : fNx  ρ = (some (.nx ρ)) := rfl
@[simp] theorem q_fNv  (z0 : Rho) : fNv  z0 = (none) := rfl
@[simp] theorem q_fPar  (i j : Nat) (f : LF) (ρ : Rho) : fPar i j f ρ = (match f ρ with
  | some ([d, e], ρ1) => some (.nx ((ρ1.set i (.dat d)).set j (.dat e)))
  | _ => none) := rfl
@[simp] theorem q_fPar3  (i j l : Nat) (f g h : IF) (ρ : Rho) : fPar3 i j l f g h ρ = (match f ρ with
  | none => none
  | some (a, ρ1) => match g ρ1 with
    | none => none
    | some (b, ρ2) => match h ρ2 with
      | none => none
      | some (c, ρ3) => some (.nx (setX (setX (setX ρ3 i a) j b) l c))) := rfl
@[simp] theorem q_fComp  (it : LF) (ks : List Nat) (t : GT) (c : TF) (f : EF) (ρ : Rho) : fComp it ks t c f ρ = (match it ρ with
  | none => none
  | some (ds, ρ1) => cLoop ks t c f ds [] (wipeR ρ1 ks)) := rfl
@[simp] theorem q_iSeq  (f : EF) (ρ : Rho) : iSeq f ρ = (match f ρ with
  | some (.list ds, ρ') => some (ds, ρ')
  | some (.tuple ds, ρ') => some (ds, ρ')
  | _ => none) := rfl
@[simp] theorem q_iEnum  (f : EF) (ρ : Rho) : iEnum f ρ = (match f ρ with
  | some (.tuple ds, ρ') => some (pairsD ds, ρ')
  | _ => none) := rfl
@[simp] theorem q_iTxt  (f : EF) (ρ : Rho) : iTxt f ρ = (match f ρ with
  | some (.str x, ρ') => some (lettersOf x, ρ')
  | _ => none) := rfl
@[simp] theorem q_fTupRg  (f : EF) (ρ : Rho) : fTupRg f ρ = (match f ρ with
  | some (.int n, ρ') => if 0 ≤ n ∧ n ≤ 1000 then some (.tuple (rangeD 0 n.toNat), ρ') else none
  | _ => none) := rfl
@[simp] theorem q_fRepL  (f g : EF) (ρ : Rho) : fRepL f g ρ = (match f ρ with
  | some (.list ds, ρ1) => match g ρ1 with
    | some (.int k, ρ2) => if 0 ≤ k ∧ k ≤ 2000 ∧ ds.length ≤ 500 then some (timesL ds k.toNat, ρ2) else none
    | _ => none
  | _ => none) := rfl
@[simp] theorem q_fScrLen  (i : Nat) (ρ : Rho) : fScrLen i ρ = (match ρ[i]? with
  | some (.scr ns) => some (.int ns.length, ρ)
  | _ => none) := rfl
@[simp] theorem q_fScrIx  (i : Nat) (f : EF) (ρ : Rho) : fScrIx i f ρ = (match ρ[i]? with
  | some (.scr ns) => match f ρ with
    | some (.int k, ρ1) => match atI ns k with
      | some n => match ρ1[i]? with
        | some (.scr ms) => if ms = ns then some (.int n, ρ1) else none
        | _ => none
      | none => none
    | _ => none
  | _ => none) := rfl
@[simp] theorem q_fScrTo  (i : Nat) (hi : Int) (ρ : Rho) : fScrTo i hi ρ = (match ρ[i]? with
  | some (.scr ns) => some (.list (cutL (ns.map .int) none (some hi)), ρ)
  | _ => none) := rfl
@[simp] theorem q_gScr  (i : Nat) (ρ : Rho) : gScr i ρ = (match ρ[i]? with
  | some (.scr _) => some (.v i, ρ)
  | _ => none) := rfl
@[simp] theorem q_fLev  (f : EF) (ρ : Rho) : fLev f ρ = (match f ρ with
  | some (.str z, ρ') => some (levD z, ρ')
  | _ => none) := rfl
@[simp] theorem q_fYes  (ρ : Rho) : fYes  ρ = (some (true, ρ)) := rfl
@[simp] theorem q_xDat  (f : EF) (ρ : Rho) : xDat f ρ = (match f ρ with
  | some (d, ρ') => some (.d d, ρ')
  | none => none) := rfl
@[simp] theorem q_xNew  (f : LF) (ρ : Rho) : xNew f ρ = (match f ρ with
  | some (ds, ρ') => some (.n ds, ρ')
  | none => none) := rfl
@[simp] theorem q_fBody  (m : Nat) (g : SF) (sls : List Sl) : fBody m g sls = (match g (sls ++ List.replicate m .un) with
  | some (.rt d ρ') => some (d, backP sls.length ρ')
  | some (.nx ρ') => some (.none, backP sls.length ρ')
  | _ => none) := rfl
@[simp] theorem q_fBodyL  (m : Nat) (g : LF) (sls : List Sl) : fBodyL m g sls = (match g (sls ++ List.replicate m .un) with
  | some (ds, ρ') => some (ds, backP sls.length ρ')
  | none => none) := rfl
@[simp] theorem q_fDic  (i : Nat) (ρ : Rho) : fDic i ρ = (some (.nx (ρ.set i (.own false (.k []))))) := rfl
@[simp] theorem q_fAugI  (i : Nat) (f : EF) (ρ : Rho) : fAugI i f ρ = (match ρ[i]? with
  | some (.dat (.int a)) => match f ρ with
    | some (.int b, ρ1) => some (.nx (ρ1.set i (.dat (.int (a + b)))))
    | _ => none
  | _ => none) := rfl
@[simp] theorem q_fPar2  (i j : Nat) (f g : IF) (ρ : Rho) : fPar2 i j f g ρ = (match f ρ with
  | none => none
  | some (a, ρ1) => match g ρ1 with
    | none => none
    | some (b, ρ2) => some (.nx (setX (setX ρ2 i a) j b))) := rfl
@[simp] theorem q_gBox  (i : Nat) (ρ : Rho) : gBox i ρ = (match ρ[i]? with
  | some (.own _ (.b _ _ _ _ _)) => some (.v i, ρ)
  | _ => none) := rfl
@[simp] theorem q_fReprB  (i : Nat) (ρ : Rho) : fReprB i ρ = (match ρ[i]? with
  | some (.own _ (.b _ _ _ ss ls)) => if boxOk ss ls = true then some (.str (listText (PyData.shownAll (boxDs ss ls))), ρ) else none
  | _ => none) := rfl
@[simp] theorem q_tSubK  (j : Nat) (f : EF) (d : PyData) (ρ : Rho) : tSubK j f d ρ = (match f ρ with
  | some (.tuple es, ρ1) => match ρ[j]?, ρ1[j]?, keyD (.tuple es) with
    | some (.own _ (.k _)), some (.own b (.k kvs)), some k => if (decide (NestedKey.depth k ≤ 8) && fits kvs.length) = true then some (ρ1.set j (.own b (.k (kPut kvs k d)))) else none
    | _, _, _ => none
  | _ => none) := rfl
@[simp] theorem q_iZipD  (f g : EF) (ρ : Rho) : iZipD f g ρ = (match f ρ with
  | some (.list xs, ρ1) => (match g ρ1 with
    | some (.list ys, ρ2) => some (zipD xs ys, ρ2)
    | _ => none)
  | some (.tuple xs, ρ1) => (match g ρ1 with
    | some (.tuple ys, ρ2) => some (zipD xs ys, ρ2)
    | _ => none)
  | _ => none) := rfl
@[simp] theorem q_fListC  (f : AF) (ρ : Rho) : fListC f ρ = (match f ρ with
  | none => none
  | some (as, ρ1) => match looks ρ1 as with
    | some [.list ds] => some (ds, ρ1)
    | some [.tuple ds] => some (ds, ρ1)
    | _ => none) := rfl
@[simp] theorem q_fCaN  (F : FF) (f : LF) (ρ : Rho) : fCaN F f ρ = (match f ρ with
  | none => none
  | some (ds, ρ1) => match F [.own true (.l ds)] with
    | none => none
    | some (d, _) => some (d, ρ1)) := rfl
@[simp] theorem q_fDicP  (i : Nat) (ρ : Rho) : fDicP i ρ = (some (.nx (ρ.set i (.own false (.d []))))) := rfl
@[simp] theorem q_tSubP  (j : Nat) (f : EF) (d : PyData) (ρ : Rho) : tSubP j f d ρ = (match f ρ with
  | some (e, ρ1) => match ρ[j]?, ρ1[j]?, keyP e with
    | some (.own _ (.d _)), some (.own b (.d kvs)), some k => if fits (kvs.length + 1) = true then some (ρ1.set j (.own b (.d (putD kvs k d)))) else none
    | _, _, _ => none
  | none => none) := rfl
@[simp] theorem q_fGetP  (j : Nat) (f : EF) (ρ : Rho) : fGetP j f ρ = (match f ρ with
  | some (e, ρ1) => match ρ[j]?, ρ1[j]?, keyP e with
    | some (.own _ (.d _)), some (.own _ (.d kvs)), some k => some ((valD kvs k).getD .none, ρ1)
    | _, _, _ => none
  | none => none) := rfl
@[simp] theorem q_fIxP  (j : Nat) (f : EF) (ρ : Rho) : fIxP j f ρ = (match f ρ with
  | some (e, ρ1) => match ρ[j]?, ρ1[j]?, keyP e with
    | some (.own _ (.d _)), some (.own _ (.d kvs)), some k => (valD kvs k).map fun d => (d, ρ1)
    | _, _, _ => none
  | none => none) := rfl
@[simp] theorem q_fPop  (j : Nat) (f : EF) (ρ : Rho) : fPop j f ρ = (match f ρ with
  | some (.int i, ρ1) => match ρ[j]?, ρ1[j]? with
    | some (.own _ (.l _)), some (.own b (.l ds)) => if 0 ≤ i ∧ i.toNat < ds.length ∧ i < 1000000 then (ds[i.toNat]?).map fun d => (d, ρ1.set j (.own b (.l (ds.eraseIdx i.toNat)))) else none
    | _, _ => none
  | _ => none) := rfl
@[simp] theorem q_fRevL  (f : GF) (ρ : Rho) : fRevL f ρ = (match f ρ with
  | some (a, ρ1) => match look ρ1 a with
    | some (.list ds) => some (ds.reverse, ρ1)
    | _ => none
  | none => none) := rfl
@[simp] theorem q_fLstRg  (f : EF) (ρ : Rho) : fLstRg f ρ = (match f ρ with
  | some (.int n, ρ') => if 0 ≤ n ∧ n ≤ 100000 then some (rangeD 0 n.toNat, ρ') else none
  | _ => none) := rfl
@[simp] theorem q_iRev  (f : EF) (ρ : Rho) : iRev f ρ = (match f ρ with
  | some (.int j, ρ') => if 0 ≤ j ∧ j ≤ 1000000 then some (revD j.toNat, ρ') else none
  | _ => none) := rfl
@[simp] theorem q_iEnumL  (f : EF) (ρ : Rho) : iEnumL f ρ = (match f ρ with
  | some (.list ds, ρ') => some (pairsD ds, ρ')
  | _ => none) := rfl
@[simp] theorem q_look_v (ρ : Rho) (i : Nat) : look ρ (.v i) = (match ρ[i]? with | some (.dat d) => some d | some (.own _ (.l ds)) => some (.list ds) | some (.own _ (.k kvs)) => some (dicD kvs) | _ => none) := rfl
@[simp] theorem q_look_d (ρ : Rho) (d : PyData) : look ρ (.d d) = some d := rfl
@[simp] theorem q_looks_nil (ρ : Rho) : looks ρ [] = some [] := rfl
@[simp] theorem q_toSl_d (ρ : Rho) (d : PyData) : toSl ρ (.d d) = .dat d := rfl
@[simp] theorem q_toSl_v (ρ : Rho) (j : Nat) : toSl ρ (.v j) = (match ρ[j]? with | some (.own _ ds) => .own true ds | some s => s | none => .un) := rfl
@[simp] theorem q_ownJ_d (ρ : Rho) (d : PyData) : ownJ ρ (.d d) = none := rfl
@[simp] theorem q_ownJ_v (ρ : Rho) (j : Nat) : ownJ ρ (.v j) = (match ρ[j]? with | some (.own _ _) => some j | _ => none) := rfl
@[simp] theorem q_goT_nil (ρ : Rho) : goT [] [] ρ = some ρ := rfl
@[simp] theorem q_add (i j : Int) : addD (.int i) (.int j) = some (.int (i + j)) := rfl
@[simp] theorem q_sub (i j : Int) : subD (.int i) (.int j) = some (.int (i - j)) := rfl
@[simp] theorem q_mulL {i : Int} (j : Int) (h : smallI i = true) : mulD (.int i) (.int j) = some (.int (i * j)) := by
  show (if (smallI i || smallI j) = true then some (PyData.int (i * j)) else none) = _
  rw [h, Bool.true_or, if_pos rfl]
@[simp] theorem q_mulR (i : Int) {j : Int} (h : smallI j = true) : mulD (.int i) (.int j) = some (.int (i * j)) := by
  show (if (smallI i || smallI j) = true then some (PyData.int (i * j)) else none) = _
  rw [h, Bool.or_true, if_pos rfl]
theorem q_iR {f : LF} {ρ ρ' : Rho} {j : Int} (h : f ρ = some ([.int j], ρ')) (s : small62 j = true) : iRange1 f ρ = some (rangeD 0 j.toNat, ρ') := by
  unfold iRange1
  rw [h]
  exact if_pos s
@[simp] theorem q_mod (i j : Int) : modD (.int i) (.int j) = if 0 < j then some (.int (i % j)) else none := rfl
@[simp] theorem q_div (i j : Int) : divD (.int i) (.int j) = if 0 < j ∧ j < 1073741824 then some (.int (i / j)) else none := rfl
@[simp] theorem q_lt (i j : Int) : ltD (.int i) (.int j) = some (.bool (decide (i < j))) := rfl
@[simp] theorem q_le (i j : Int) : leD (.int i) (.int j) = some (.bool (decide (i ≤ j))) := rfl
@[simp] theorem q_gt (i j : Int) : gtD (.int i) (.int j) = some (.bool (decide (j < i))) := rfl
@[simp] theorem q_ge (i j : Int) : geD (.int i) (.int j) = some (.bool (decide (j ≤ i))) := rfl
@[simp] theorem q_int (i : Int) : intD [.int i] = some (.int i) := rfl
@[simp] theorem q_intb (b : Bool) : intD [.bool b] = some (.int (if b then 1 else 0)) := rfl
@[simp] theorem q_divmod (i j : Int) : divmodD [.int i, .int j] = if 0 < j ∧ j < 1073741824 then some (.tuple [.int (i / j), .int (i % j)]) else none := rfl
@[simp] theorem q_len_t (ds : List PyData) : lenD [.tuple ds] = some (.int ds.length) := rfl
@[simp] theorem q_len_l (ds : List PyData) : lenD [.list ds] = some (.int ds.length) := rfl
@[simp] theorem q_tuple_t (ds : List PyData) : tupleD [.tuple ds] = some (.tuple ds) := rfl
@[simp] theorem q_tuple_l (ds : List PyData) : tupleD [.list ds] = some (.tuple ds) := rfl
@[simp] theorem q_ix_t (ds : List PyData) (i : Int) : ixD (.tuple ds) (.int i) = atI ds i := rfl
@[simp] theorem q_ix_l (ds : List PyData) (i : Int) : ixD (.list ds) (.int i) = atI ds i := rfl
@[simp] theorem q_backP (n : Nat) (ρ : Rho) : backP n ρ = (List.range n).map fun (i : Nat) => parOf ρ[i]? := rfl
@[simp] theorem q_par_t (ds : Cn) : parOf (some (.own true ds)) = .own true ds := rfl
@[simp] theorem q_par_f (ds : Cn) : parOf (some (.own false ds)) = .un := rfl
@[simp] theorem q_par_d (d : PyData) : parOf (some (.dat d)) = .un := rfl
@[simp] theorem q_par_u : parOf (some .un) = .un := rfl
@[simp] theorem q_par_s (ns : List Int) : parOf (some (.scr ns)) = .un := rfl
@[simp] theorem q_par_n : parOf none = .un := rfl
@[simp] theorem q_looks_c (ρ : Rho) (a : Ag) (as : List Ag) : looks ρ (a :: as) = (match look ρ a, looks ρ as with | some d, some ds => some (d :: ds) | _, _ => none) := rfl
@[simp] theorem q_goT_c (t : GT) (ts : List GT) (d : PyData) (ds : List PyData) (ρ : Rho) : goT (t :: ts) (d :: ds) ρ = (match t d ρ with | some ρ1 => goT ts ds ρ1 | none => none) := rfl
@[simp] theorem q_backC_n (ρ : Rho) (ss : List Sl) : backC ρ [] ss = ρ := by cases ss <;> rfl
@[simp] theorem q_backC_c (ρ : Rho) (a : Ag) (as : List Ag) (s : Sl) (ss : List Sl) : backC ρ (a :: as) (s :: ss) = (match ownJ ρ a, s with
    | some j, .own true ds => (match ρ[j]? with
      | some (.own b _) => (backC ρ as ss).set j (.own b ds)
      | _ => backC ρ as ss)
    | some j, _ => (backC ρ as ss).set j .un
    | none, _ => backC ρ as ss) := rfl
@[simp] theorem q_caK (n : Nat) (F : FF) (π : List Nat) (g : AF) (ρ : Rho) : fCaK n F π g ρ = fCa n F (fun ρ => match g ρ with | some (as, ρ') => some (permL π as, ρ') | none => none) ρ := rfl
@[simp] theorem q_loop_n (t : GT) (g : SF) (ρ : Rho) : fLoop t g [] ρ = some (.nx ρ) := rfl
theorem q_loop_c (t : GT) (g : SF) (d : PyData) (ds : List PyData) (ρ : Rho) : fLoop t g (d :: ds) ρ = (match t d ρ with
  | none => none
  | some ρ1 => (match g ρ1 with
      | some (.nx ρ2) => fLoop t g ds ρ2
      | some (.ct ρ2) => fLoop t g ds ρ2
      | some (.bk ρ2) => some (.nx ρ2)
      | some (.rt d ρ2) => some (.rt d ρ2)
      | none => none)) := rfl
@[simp] theorem fm_d (ρ : Rho) (x : PyData) (as : List Ag) : List.filterMap (ownJ ρ) (.d x :: as) = List.filterMap (ownJ ρ) as := rfl
@[simp] theorem fm_v (ρ : Rho) (j : Nat) (as : List Ag) : List.filterMap (ownJ ρ) (.v j :: as) = (match ρ[j]? with | some (.own _ _) => j :: List.filterMap (ownJ ρ) as | _ => List.filterMap (ownJ ρ) as) := by
  rw [List.filterMap_cons, q_ownJ_v]
  cases ρ[j]? with
  | none => rfl
  | some s => cases s <;> rfl
theorem atI_nat {α : Type} {xs : List α} {i : Nat} (h : i < xs.length) : atI xs (i : Int) = some xs[i] := by
  unfold atI ixN
  rw [if_pos (by omega), if_pos (by omega)]
  simp [h]
end DL

set_option Elab.async false
set_option linter.all false
set_option maxRecDepth 100000
set_option maxHeartbeats 4000000
/-! What the small defs tell. -/
namespace K75
open PySem PySem.Spec PyProof.Rows L2 GX StX DL
theorem m_whole (i : Int) : F_iswhole [.dat (.int i)] = some (.bool true, [.un]) := rfl
theorem m_betw (i a b : Int) : F_isbetween [.dat (.int i), .dat (.int a), .dat (.int b)] = some (.bool (decide (a ≤ i) && decide (i ≤ b)), [.un, .un, .un]) := by
  cases h1 : decide (a ≤ i) <;> cases h2 : decide (i ≤ b) <;> simp [F_isbetween, g_isbetween, m_whole, h1, h2, List.range, List.range.loop]
theorem m_tup (ds : List PyData) (a b : Int) : F_istuple [.dat (.tuple ds), .dat (.int a), .dat (.int b)] = some (.bool (decide (a ≤ ds.length) && decide ((ds.length : Int) ≤ b)), [.un, .un, .un]) := by
  cases h1 : decide (a ≤ (ds.length : Int)) <;> cases h2 : decide ((ds.length : Int) ≤ b) <;> simp [F_istuple, g_istuple, dTup, h1, h2, List.range, List.range.loop]
theorem m_draw {x y z m : Int} (hx : 0 ≤ x) (hx2 : x < 2147483249) (m1 : 1 ≤ m) (m2 : m < 1073741824) : ∃ d x' y' z', F_Ldraw [.own true (.l [.int x, .int y, .int z]), .dat (.int m)] = some (.int d, [.own true (.l [.int x', .int y', .int z']), .un]) ∧ 0 ≤ d ∧ d < m ∧ 0 ≤ x' ∧ x' < 2147483249 := by
  have s1 : smallI x = true := by unfold smallI; simp; omega
  have s2 : smallI 80021 = true := by decide
  have mp : 0 < m := by omega
  by_cases hy : 0 < y
  · refine ⟨y % m, (x * (x % 50021 + 30011) + 80021 * (z + 1)) % 2147483249, y / m, z + 1, ?_, Int.emod_nonneg _ (by omega), Int.emod_lt_of_pos _ mp, Int.emod_nonneg _ (by omega), Int.emod_lt_of_pos _ (by omega)⟩
    simp [F_Ldraw, g_Ldraw, atI, ixN, s1, s2, hy, mp, m2, List.range, List.range.loop]
  · refine ⟨((x * (x % 50021 + 30011) + 80021 * (z + 1)) % 2147483249) / 64 % m, (x * (x % 50021 + 30011) + 80021 * (z + 1)) % 2147483249, y, z + 1, ?_, Int.emod_nonneg _ (by omega), Int.emod_lt_of_pos _ mp, Int.emod_nonneg _ (by omega), Int.emod_lt_of_pos _ (by omega)⟩
    simp [F_Ldraw, g_Ldraw, atI, ixN, s1, s2, hy, mp, m2, List.range, List.range.loop]
end K75

set_option Elab.async false
set_option linter.all false
set_option maxRecDepth 100000
set_option maxHeartbeats 4000000
/-! Loops and comprehensions by invariants; what is drawn. -/
namespace DL
open PySem PySem.Spec PyProof.Rows L2 GX StX
theorem comp_inv {k : Nat} {f : EF} (I : Rho → Prop) (O : PyData → Prop) : ∀ (ds acc : List PyData) (ρ : Rho), I ρ → (∀ d ∈ ds, ∀ ρ, I ρ → ∃ y ρ', f (ρ.set k (.dat d)) = some (y, ρ') ∧ I (ρ'.set k .un) ∧ O y) → acc.length + ds.length ≤ 1000000 →
    ∃ ys ρ', cLoop [k] (tName k) fYes f ds acc ρ = some (acc ++ ys, ρ') ∧ ys.length = ds.length ∧ (∀ y ∈ ys, O y) ∧ I ρ'
  | [], acc, ρ, h, _, _ => ⟨[], ρ, by simp [cLoop], rfl, by simp, h⟩
  | d :: ds, acc, ρ, h, step, len => by
    obtain ⟨y, ρ1, e1, i1, o1⟩ := step d (by simp) ρ h
    have hf : fits (acc.length + 1) = true := by
      simp only [List.length_cons] at len
      exact decide_eq_true (by omega)
    obtain ⟨ys, ρ2, e2, l2, o2, i2⟩ := comp_inv I O ds (acc ++ [y]) (ρ1.set k .un) i1 (fun d' hd => step d' (by simp [hd])) (by simp only [List.length_append, List.length_cons, List.length_nil] at len ⊢; omega)
    refine ⟨y :: ys, ρ2, ?_, by simp [l2], fun z hz => ?_, i2⟩
    · unfold cLoop
      simp only [q_tName, q_fYes, e1, hf, if_true]
      show cLoop [k] (tName k) fYes f ds (acc ++ [y]) (ρ1.set k .un) = _
      rw [e2]
      simp
    · rcases List.mem_cons.mp hz with rfl | hz
      · exact o1
      · exact o2 z hz
/-- the same with what each turn gives told -/
theorem comp_map {k : Nat} {f : EF} {h : PyData → PyData} {ρ : Rho} : ∀ (ds acc : List PyData), (∀ d ∈ ds, ∃ ρ', f (ρ.set k (.dat d)) = some (h d, ρ') ∧ ρ'.set k .un = ρ) → acc.length + ds.length ≤ 1000000 →
    cLoop [k] (tName k) fYes f ds acc ρ = some (acc ++ ds.map h, ρ)
  | [], acc, _, _ => by simp [cLoop]
  | d :: ds, acc, step, len => by
    obtain ⟨ρ1, e1, i1⟩ := step d (by simp)
    have hf : fits (acc.length + 1) = true := by
      simp only [List.length_cons] at len
      exact decide_eq_true (by omega)
    have e2 := comp_map ds (acc ++ [h d]) (fun d' hd => step d' (by simp [hd])) (by simp only [List.length_append, List.length_cons, List.length_nil] at len ⊢; omega)
    unfold cLoop
    simp only [q_tName, q_fYes, e1, hf, if_true]
    show cLoop [k] (tName k) fYes f ds (acc ++ [h d]) (ρ1.set k .un) = _
    rw [i1, e2]
    simp
theorem loop_inv {t : GT} {g : SF} (I : Nat → Rho → Prop) : ∀ (ds : List PyData) (i : Nat) (ρ : Rho), I i ρ → (∀ d ∈ ds, ∀ i ρ, I i ρ → ∃ ρ1 ρ2, t d ρ = some ρ1 ∧ g ρ1 = some (.nx ρ2) ∧ I (i + 1) ρ2) → ∃ ρ', fLoop t g ds ρ = some (.nx ρ') ∧ I (i + ds.length) ρ'
  | [], i, ρ, h, _ => ⟨ρ, rfl, h⟩
  | d :: ds, i, ρ, h, step => by
    obtain ⟨ρ1, ρ2, e1, e2, h2⟩ := step d (by simp) i ρ h
    obtain ⟨ρ3, e3, h3⟩ := loop_inv I ds (i + 1) ρ2 h2 fun d' hd => step d' (by simp [hd])
    refine ⟨ρ3, ?_, ?_⟩
    · rw [q_loop_c, e1]
      simp only [e2]
      exact e3
    · rw [List.length_cons, show i + (ds.length + 1) = i + 1 + ds.length by omega]
      exact h3
theorem wipe1 (ρ : Rho) (k : Nat) : wipeR ρ [k] = ρ.set k .un := rfl
theorem rangeD_len (lo : Int) (n : Nat) : (rangeD lo n).length = n := by simp [rangeD]
theorem rangeD_mem {lo : Int} {n : Nat} {d : PyData} (h : d ∈ rangeD lo n) : ∃ i : Nat, i < n ∧ d = .int (lo + i) := by
  unfold rangeD at h
  obtain ⟨i, hi, rfl⟩ := List.mem_map.mp h
  exact ⟨i, List.mem_range.mp hi, rfl⟩
theorem small_nat {n : Nat} (h : n ≤ 1000000) : small62 (n : Int) = true := by
  unfold small62
  rw [Bool.and_eq_true]
  exact ⟨decide_eq_true (by omega), decide_eq_true (by omega)⟩
theorem cutL_map (ns : List Int) (lo hi : Option Int) : ∃ ms : List Int, cutL (ns.map PyData.int) lo hi = ms.map PyData.int := by
  unfold cutL
  rw [← List.map_drop, ← List.map_take]
  exact ⟨_, rfl⟩
end DL
namespace K75
open PySem PySem.Spec PyProof.Rows L2 GX StX DL
def Pool (ds : List PyData) : Prop := ∃ x y z : Int, ds = [.int x, .int y, .int z] ∧ 0 ≤ x ∧ x < 2147483249
theorem draw {P : List PyData} {m : Int} (h : Pool P) (m1 : 1 ≤ m) (m2 : m < 1073741824) : ∃ (d : Int) (P' : List PyData), F_Ldraw [.own true P, .dat (.int m)] = some (.int d, [.own true P', .un]) ∧ 0 ≤ d ∧ d < m ∧ Pool P' := by
  obtain ⟨x, y, z, rfl, h1, h2⟩ := h
  obtain ⟨d, x', y', z', e, a, b, c1, c2⟩ := m_draw (y := y) (z := z) h1 h2 m1 m2
  exact ⟨d, _, e, a, b, x', y', z', rfl, c1, c2⟩
theorem hp10 : powD (.int 10) (.int 18) = some (.int 1000000000000000000) := by
  show (if (0 : Int) ≤ 18 ∧ (18 : Int) ≤ 1000000 ∧ (10 : Int).natAbs < 2 ^ 64 then some (PyData.int (10 ^ (18 : Int).toNat)) else none) = _
  rw [if_pos (by decide)]
  rfl
theorem m_pool (v : Int) : ∃ P, F_Lpool [.dat (.int v)] = some (P, [.un]) ∧ Pool P := by
  have key : ∃ y : Int, F_Lpool [.dat (.int v)] = some ([.int (v % 2147483249), .int y, .int 0], [.un]) := by
    by_cases h1 : v < 0
    · exact ⟨-v, by simp [F_Lpool, g_Lpool, absD, h1, fits, List.range, List.range.loop]⟩
    · by_cases h2 : 1000000000000000000 ≤ v
      · exact ⟨v, by simp [F_Lpool, g_Lpool, absD, h1, h2, hp10, fits, List.range, List.range.loop]⟩
      · exact ⟨0, by simp [F_Lpool, g_Lpool, absD, h1, h2, hp10, fits, List.range, List.range.loop]⟩
  obtain ⟨y, e⟩ := key
  exact ⟨_, e, _, _, _, rfl, Int.emod_nonneg _ (by omega), Int.emod_lt_of_pos _ (by omega)⟩
theorem m_cell_lt (ns : List Int) (k : Nat) (h : k < ns.length) : F_Lcell [.scr ns, .dat (.int k)] = some (.int ns[k], [.un, .un]) := by
  have e := atI_nat h
  simp [F_Lcell, g_Lcell, h, e, List.range, List.range.loop]
theorem smallI_nat {k : Nat} (hk : k ≤ 1000) : smallI (k : Int) = true := by
  unfold smallI
  rw [Bool.and_eq_true]
  exact ⟨decide_eq_true (by omega), decide_eq_true (by omega)⟩
def gCell (a m : Int) : SF := fSq (fAsg (fOp modD (gVal (fOp addD (gVal (fOp mulD (gVar 2) (gVal (fC (.int a))))) (gVal (fCl intD (aCons (gVar 3) aNil))))) (gVal (fC (.int m)))) (tName 2)) fNx
theorem cell_turn {a m : Int} (ha : smallI a = true) (hm : 0 < m) (ns : List Int) (k : Nat) (v j : Int) : gCell a m [.scr ns, .dat (.int k), .dat (.int v), .dat (.int j)] = some (.nx [.scr ns, .dat (.int k), .dat (.int ((v * a + j) % m)), .dat (.int j)]) := by
  simp [gCell, ha, hm]
theorem cell_loop {a m : Int} (ha : smallI a = true) (hm : 0 < m) (ns : List Int) (k : Nat) : ∀ (ms : List Int) (v : Int) (u : Sl), ∃ v' u', fLoop (tName 3) (gCell a m) (ms.map .int) [.scr ns, .dat (.int k), .dat (.int v), u] = some (.nx [.scr ns, .dat (.int k), .dat (.int v'), u'])
  | [], v, u => ⟨v, u, rfl⟩
  | j :: ms, v, u => by
    obtain ⟨v', u', e⟩ := cell_loop ha hm ns k ms ((v * a + j) % m) (.dat (.int j))
    refine ⟨v', u', ?_⟩
    rw [List.map_cons, q_loop_c]
    simp only [q_tName, List.set_cons_succ, List.set_cons_zero, cell_turn ha hm]
    exact e
def gCell0 (b c a m : Int) : SF := fSq (fAsg (fOp modD (gVal (fOp mulD (gVal (fC (.int b))) (gVal (fOp addD (gVal (fOp addD (gVal (fOp mulD (gVar 1) (gVar 1))) (gVal (fOp mulD (gVal (fC (.int c))) (gVar 1))))) (gVal (fC (.int 3))))))) (gVal (fC (.int m)))) (tName 2))
  (fSq (fFor (iSeq (fScrTo 0 3)) (tName 3) (gCell a m)) (fSq (fRet (fVar 2)) fNx))
theorem cell_0a {b c m i : Int} (hb : smallI b = true) (hc : smallI c = true) (hm : 0 < m) (ns : List Int) (s1 : smallI i = true) : fAsg (fOp modD (gVal (fOp mulD (gVal (fC (.int b))) (gVal (fOp addD (gVal (fOp addD (gVal (fOp mulD (gVar 1) (gVar 1))) (gVal (fOp mulD (gVal (fC (.int c))) (gVar 1))))) (gVal (fC (.int 3))))))) (gVal (fC (.int m)))) (tName 2) [.scr ns, .dat (.int i), .un, .un] = some (.nx [.scr ns, .dat (.int i), .dat (.int (b * (i * i + c * i + 3) % m)), .un]) := by
  simp [s1, hb, hc, hm]
theorem cell_0 {b c a m : Int} (hb : smallI b = true) (hc : smallI c = true) (ha : smallI a = true) (hm : 0 < m) (ns : List Int) (k : Nat) (s1 : smallI (k : Int) = true) : ∃ v u, gCell0 b c a m [.scr ns, .dat (.int k), .un, .un] = some (.rt (.int v) [.scr ns, .dat (.int k), .dat (.int v), u]) := by
  obtain ⟨ms, em⟩ := cutL_map ns none (some 3)
  obtain ⟨v', u', e⟩ := cell_loop ha hm ns k ms (b * ((k : Int) * k + c * k + 3) % m) .un
  refine ⟨v', u', ?_⟩
  unfold gCell0
  rw [q_fSq, cell_0a hb hc hm ns s1]
  dsimp only
  rw [q_fSq, q_fFor, q_iSeq, q_fScrTo]
  simp [em, e]
theorem m_cell (ns : List Int) (k : Nat) (hk : k ≤ 1000) : ∃ v : Int, F_Lcell [.scr ns, .dat (.int k)] = some (.int v, [.un, .un]) := by
  by_cases h : k < ns.length
  · exact ⟨_, m_cell_lt ns k h⟩
  · obtain ⟨v, u, e⟩ := cell_0 (b := 60013) (c := 5) (a := 41221) (m := 2147483249) (by decide) (by decide) (by decide) (by decide) ns k (smallI_nat hk)
    refine ⟨v, ?_⟩
    have z : g_Lcell = fSq (fIfS (fTst (fOp ltD (gVar 1) (gVal (fScrLen 0)))) (fSq (fRet (fCl intD (aCons (gVal (fScrIx 0 (fVar 1))) aNil))) fNx) fNx) (gCell0 60013 5 41221 2147483249) := rfl
    simp [F_Lcell, z, h, e, List.range, List.range.loop]
end K75

set_option Elab.async false
set_option linter.all false
set_option maxRecDepth 100000
set_option maxHeartbeats 4000000
/-! Tables, words, histories. -/
namespace DL
open PySem PySem.Spec PyProof.Rows L2 GX StX
theorem loop_invB {t : GT} {g : SF} (I : Nat → Rho → Prop) (N : Nat) : ∀ (ds : List PyData) (i : Nat) (ρ : Rho), I i ρ → i + ds.length ≤ N → (∀ d ∈ ds, ∀ i ρ, i < N → I i ρ → ∃ ρ1 ρ2, t d ρ = some ρ1 ∧ g ρ1 = some (.nx ρ2) ∧ I (i + 1) ρ2) → ∃ ρ', fLoop t g ds ρ = some (.nx ρ') ∧ I (i + ds.length) ρ'
  | [], i, ρ, h, _, _ => ⟨ρ, rfl, h⟩
  | d :: ds, i, ρ, h, hN, step => by
    rw [List.length_cons] at hN
    obtain ⟨ρ1, ρ2, e1, e2, h2⟩ := step d (by simp) i ρ (by omega) h
    obtain ⟨ρ3, e3, h3⟩ := loop_invB I N ds (i + 1) ρ2 h2 (by omega) fun d' hd => step d' (by simp [hd])
    refine ⟨ρ3, ?_, ?_⟩
    · rw [q_loop_c, e1]
      simp only [e2]
      exact e3
    · rw [List.length_cons, show i + (ds.length + 1) = i + 1 + ds.length by omega]
      exact h3
theorem ints_of {Q : Int → Prop} : ∀ {ys : List PyData}, (∀ y ∈ ys, ∃ h, y = .int h ∧ Q h) → ∃ hs : List Int, ys = hs.map PyData.int ∧ ∀ h ∈ hs, Q h
  | [], _ => ⟨[], rfl, by simp⟩
  | y :: ys, h => by
    obtain ⟨hs, rfl, q⟩ := ints_of (ys := ys) fun z hz => h z (by simp [hz])
    obtain ⟨i, rfl, qi⟩ := h y (by simp)
    exact ⟨i :: hs, rfl, fun z hz => by
      rcases List.mem_cons.mp hz with rfl | hz
      · exact qi
      · exact q z hz⟩
theorem strs_of {Q : Str → Prop} : ∀ {ys : List PyData}, (∀ y ∈ ys, ∃ h, y = .str h ∧ Q h) → ∃ hs : List Str, ys = hs.map PyData.str ∧ ∀ h ∈ hs, Q h
  | [], _ => ⟨[], rfl, by simp⟩
  | y :: ys, h => by
    obtain ⟨hs, rfl, q⟩ := strs_of (ys := ys) fun z hz => h z (by simp [hz])
    obtain ⟨i, rfl, qi⟩ := h y (by simp)
    exact ⟨i :: hs, rfl, fun z hz => by
      rcases List.mem_cons.mp hz with rfl | hz
      · exact qi
      · exact q z hz⟩
theorem small62_le {n : Int} (h0 : 0 ≤ n) (h1 : n ≤ 1000000) : small62 n = true := by
  unfold small62
  rw [Bool.and_eq_true]
  exact ⟨decide_eq_true (by omega), decide_eq_true (by omega)⟩
theorem atI_int {α : Type} {xs : List α} {i : Int} (h0 : 0 ≤ i) (h1 : i < xs.length) : ∃ a, a ∈ xs ∧ xs[i.toNat]? = some a ∧ atI xs i = some a := by
  have h : i.toNat < xs.length := by omega
  refine ⟨xs[i.toNat], List.getElem_mem h, List.getElem?_eq_getElem h, ?_⟩
  have e := atI_nat h
  rwa [Int.toNat_of_nonneg h0] at e
end DL
namespace K75
open PySem PySem.Spec PyProof.Rows L2 GX StX DL
theorem sq_nx {g h : SF} {ρ ρ1 : Rho} (e : g ρ = some (.nx ρ1)) : fSq g h ρ = h ρ1 := by rw [q_fSq, e]
theorem sq_rt {g h : SF} {ρ ρ1 : Rho} {d : PyData} (e : g ρ = some (.rt d ρ1)) : fSq g h ρ = some (.rt d ρ1) := by rw [q_fSq, e]
theorem for_it {it : LF} {t : GT} {g : SF} {ρ ρ1 : Rho} {ds : List PyData} (e : it ρ = some (ds, ρ1)) : fFor it t g ρ = fLoop t g ds ρ1 := by rw [q_fFor, e]
theorem body_rt {m : Nat} {g : SF} {sls : List Sl} {ρ ρ1 : Rho} {d : PyData} (h : sls ++ List.replicate m .un = ρ) (e : g ρ = some (.rt d ρ1)) : fBody m g sls = some (d, backP sls.length ρ1) := by rw [q_fBody, h, e]
end K75

set_option Elab.async false
set_option linter.all false
set_option maxRecDepth 100000
set_option maxHeartbeats 4000000
/-! The words; a drawn history. -/
namespace K75
open PySem PySem.Spec PyProof.Rows L2 GX StX DL
def W0 : List Str := ["a", "b", "c", "d", "e", "f", "g", "h", "i"]
def W1 : List Str := ["z", "y", "zy", "yz", "zzzzzz", "x", "xz", "zx", "w"]
def W2 : List Str := ["aaaaaa", "aaaaa", "aaaa", "aaa", "aa", "a", "ab", "ba", "b"]
def W3 : List Str := ["a", "b", "c", "d", "e", "f"]
def Wd (w : Str) : Bool := (W0 ++ (W1 ++ W2)).contains w
theorem wd_ok {w : Str} (h : Wd w = true) : PyData.strOk w = true := by
  have a : (W0 ++ (W1 ++ W2)).all PyData.strOk = true := by decide +kernel
  have m : w ∈ W0 ++ (W1 ++ W2) := by
    unfold Wd at h
    rw [List.contains_iff_exists_mem_beq] at h
    obtain ⟨x, hx, e⟩ := h
    rw [eq_of_beq e]
    exact hx
  exact List.all_eq_true.mp a w m
def NameOk (w : Str) : Prop := F_isname [.dat (.str w)] = some (.bool true, [.un]) ∧ Wd w = true
def nameB (w : Str) : Bool := match F_isname [.dat (.str w)] with
  | some (.bool true, [.un]) => Wd w
  | _ => false
theorem nameB_ok {w : Str} (h : nameB w = true) : NameOk w := by
  unfold nameB at h
  split at h
  · rename_i e
    exact ⟨e, h⟩
  · cases h
theorem names0 : ∀ w ∈ W0, NameOk w := fun w h => nameB_ok (List.all_eq_true.mp (show W0.all nameB = true by decide +kernel) w h)
theorem names1 : ∀ w ∈ W1, NameOk w := fun w h => nameB_ok (List.all_eq_true.mp (show W1.all nameB = true by decide +kernel) w h)
theorem names2 : ∀ w ∈ W2, NameOk w := fun w h => nameB_ok (List.all_eq_true.mp (show W2.all nameB = true by decide +kernel) w h)
theorem names3 : ∀ w ∈ W3, NameOk w := fun w h => nameB_ok (List.all_eq_true.mp (show W3.all nameB = true by decide +kernel) w h)
theorem letter {x : Int} (x0 : 0 ≤ x) (x1 : x < 9) : ∃ w : Str, ixD (.str "abcdefghijkl") (.int x) = some (.str w) ∧ NameOk w := by
  have c : x = 0 ∨ x = 1 ∨ x = 2 ∨ x = 3 ∨ x = 4 ∨ x = 5 ∨ x = 6 ∨ x = 7 ∨ x = 8 := by omega
  rcases c with rfl | rfl | rfl | rfl | rfl | rfl | rfl | rfl | rfl
  · exact ⟨"a", by rfl, names0 _ (by decide)⟩
  · exact ⟨"b", by rfl, names0 _ (by decide)⟩
  · exact ⟨"c", by rfl, names0 _ (by decide)⟩
  · exact ⟨"d", by rfl, names0 _ (by decide)⟩
  · exact ⟨"e", by rfl, names0 _ (by decide)⟩
  · exact ⟨"f", by rfl, names0 _ (by decide)⟩
  · exact ⟨"g", by rfl, names0 _ (by decide)⟩
  · exact ⟨"h", by rfl, names0 _ (by decide)⟩
  · exact ⟨"i", by rfl, names0 _ (by decide)⟩
end K75

set_option Elab.async false
set_option linter.all false
set_option maxRecDepth 100000
set_option maxHeartbeats 4000000
/-! The program's looks at a table, a device, a history. -/
namespace DL
open PySem PySem.Spec PyProof.Rows L2 GX StX
theorem bools_true : ∀ ds : List PyData, boolsOf (ds.map fun _ => PyData.bool true) = some (ds.map fun _ => true)
  | [] => rfl
  | d :: ds => by
    show (match boolsOf (ds.map fun _ => PyData.bool true) with
      | some bs => some (true :: bs)
      | none => none) = _
    rw [bools_true ds]
    rfl
theorem all_true (ds : List PyData) : allD [.list (ds.map fun _ => PyData.bool true)] = some (.bool true) := by
  show (match boolsOf (ds.map fun _ => PyData.bool true) with
    | some ns => some (PyData.bool (ns.all id))
    | none => none) = _
  rw [bools_true]
  dsimp only
  congr 2
  induction ds with
  | nil => rfl
  | cons d ds ih => simpa using ih
end DL
namespace K75
open PySem PySem.Spec PyProof.Rows L2 GX StX DL
theorem m_history {his : List Str} (hl : his.length ≤ 2000) (hn : ∀ w ∈ his, NameOk w) : F_checkhistory [.dat (.tuple (his.map .str))] = some (.none, [.un]) := by
  obtain ⟨ρ', e, s1, s2, rfl⟩ := loop_inv (t := tTupT 2 [(tName 1), (tName 2)]) (g := fSq (fIfS (fNot (fTst (fCa 1 F_isname (aCons (gVar 2) aNil)))) (fSq fNv fNx) fNx) fNx) (fun _ ρ => ∃ s1 s2, ρ = [.dat (.tuple (his.map .str)), s1, s2]) (pairsD (his.map .str)) 0
    [.dat (.tuple (his.map .str)), .un, .un] ⟨_, _, rfl⟩ (by
      rintro d hd i ρ ⟨s1, s2, rfl⟩
      unfold pairsD at hd
      obtain ⟨j, hj, rfl⟩ := List.mem_mapIdx.mp hd
      rw [List.length_map] at hj
      rw [List.getElem_map]
      have e := hn his[j] (List.getElem_mem hj)
      replace e := e.1
      refine ⟨[.dat (.tuple (his.map .str)), .dat (.int j), .dat (.str his[j])], [.dat (.tuple (his.map .str)), .dat (.int j), .dat (.str his[j])], ?_, ?_, _, _, rfl⟩
      · simp
      · simp [e])
  have d2 : (his.length : Int) ≤ 2000 := by omega
  simp only [F_checkhistory, g_checkhistory]
  simp [m_tup, e, d2, List.range, List.range.loop]
end K75

set_option Elab.async false
set_option linter.all false
set_option maxRecDepth 100000
set_option maxHeartbeats 4000000
/-! Loops with their places, comprehensions with their tests; the next request for a name. -/
namespace K75
open PySem PySem.Spec PyProof.Rows L2 GX StX DL
theorem loop_ix {t : GT} {g : SF} (I : Nat → Rho → Prop) (ds : List PyData) (step : ∀ (j : Nat) (d : PyData), ds[j]? = some d → ∀ ρ, I j ρ → ∃ ρ1 ρ2, t d ρ = some ρ1 ∧ g ρ1 = some (.nx ρ2) ∧ I (j + 1) ρ2) :
    ∀ (es : List PyData) (i : Nat), ds.drop i = es → ∀ ρ, I i ρ → ∃ ρ', fLoop t g es ρ = some (.nx ρ') ∧ I (i + es.length) ρ'
  | [], i, _, ρ, h => ⟨ρ, rfl, h⟩
  | d :: es, i, e, ρ, h => by
    have hd : ds[i]? = some d := by
      have z := congrArg (fun l : List PyData => l[0]?) e
      simpa using z
    have ht : ds.drop (i + 1) = es := by
      have z := congrArg (fun l : List PyData => l.drop 1) e
      simpa [List.drop_drop] using z
    obtain ⟨ρ1, ρ2, e1, e2, h2⟩ := step i d hd ρ h
    obtain ⟨ρ3, e3, h3⟩ := loop_ix I ds step es (i + 1) ht ρ2 h2
    refine ⟨ρ3, ?_, ?_⟩
    · rw [q_loop_c, e1]
      simp only [e2]
      exact e3
    · rw [List.length_cons, show i + (es.length + 1) = i + 1 + es.length by omega]
      exact h3
theorem loop_at {t : GT} {g : SF} (I : Nat → Rho → Prop) (ds : List PyData) {ρ : Rho} (h : I 0 ρ) (step : ∀ (j : Nat) (d : PyData), ds[j]? = some d → ∀ ρ, I j ρ → ∃ ρ1 ρ2, t d ρ = some ρ1 ∧ g ρ1 = some (.nx ρ2) ∧ I (j + 1) ρ2) : ∃ ρ', fLoop t g ds ρ = some (.nx ρ') ∧ I ds.length ρ' := by
  obtain ⟨ρ', e, z⟩ := loop_ix I ds step ds 0 rfl ρ h
  rw [Nat.zero_add] at z
  exact ⟨ρ', e, z⟩
theorem comp_gen {α : Type} {ks : List Nat} {t : GT} {c : TF} {f : EF} (g : α → PyData) (p : α → Bool) (h : α → PyData) {ρ : Rho} : ∀ (xs : List α) (acc : List PyData), (∀ x ∈ xs, ∃ ρ0 ρ1, t (g x) ρ = some ρ0 ∧ c ρ0 = some (p x, ρ1) ∧ (p x = true → ∃ ρ2, f ρ1 = some (h x, ρ2) ∧ wipeR ρ2 ks = ρ) ∧ (p x = false → wipeR ρ1 ks = ρ)) → acc.length + xs.length ≤ 1000000 →
    cLoop ks t c f (xs.map g) acc ρ = some (acc ++ (xs.filter p).map h, ρ)
  | [], acc, _, _ => by simp [cLoop]
  | x :: xs, acc, step, hz => by
    obtain ⟨ρ0, ρ1, e0, e1, yes, no⟩ := step x (by simp)
    simp only [List.length_cons] at hz
    rw [List.map_cons]
    unfold cLoop
    rw [e0]
    dsimp only
    cases q : p x with
    | true =>
      rw [q] at e1
      rw [e1]
      dsimp only
      obtain ⟨ρ2, e2, w⟩ := yes q
      rw [e2]
      dsimp only
      have hf : fits (acc.length + 1) = true := decide_eq_true (by omega)
      rw [if_pos hf, w, comp_gen g p h xs (acc ++ [h x]) (fun y hy => step y (by simp [hy])) (by simp only [List.length_append, List.length_cons, List.length_nil]; omega)]
      rw [List.filter_cons_of_pos q]
      simp
    | false =>
      rw [q] at e1
      rw [e1]
      dsimp only
      rw [no q, comp_gen g p h xs acc (fun y hy => step y (by simp [hy])) (by omega)]
      rw [List.filter_cons_of_neg (by rw [q]; simp)]
/-! ### dicts -/
theorem valD_nil (k : Key) : valD [] k = none := rfl
theorem valD_any (kvs : List (Key × PyData)) (k : Key) : (kvs.any fun kv => decide (kv.1 = k)) = (valD kvs k).isSome := by
  induction kvs with
  | nil => rfl
  | cons x xs ih =>
    rw [List.any_cons]
    by_cases c : x.1 = k
    · simp [valD, c]
    · have : valD (x :: xs) k = valD xs k := by simp [valD, List.find?_cons, c]
      rw [this, ← ih]
      simp [c]
theorem valD_put (kvs : List (Key × PyData)) (k j : Key) (d : PyData) : valD (putD kvs k d) j = if j = k then some d else valD kvs j := by
  unfold putD
  rw [valD_any]
  split
  · rename_i h
    have m : ∀ xs : List (Key × PyData), valD (xs.map fun kv => if kv.1 = k then (kv.1, d) else kv) j = (valD xs j).map fun x => if j = k then d else x := by
      intro xs
      induction xs with
      | nil => rfl
      | cons x xs ih =>
        rw [List.map_cons]
        by_cases c : x.1 = k
        · rw [if_pos c]
          by_cases c2 : x.1 = j
          · have : j = k := c2 ▸ c
            subst this
            simp [valD, List.find?_cons, c]
          · have ne : ¬ j = k := fun z => c2 (by rw [z]; exact c)
            have e1 : valD ((x.1, d) :: xs.map fun kv => if kv.1 = k then (kv.1, d) else kv) j = valD (xs.map fun kv => if kv.1 = k then (kv.1, d) else kv) j := by simp [valD, List.find?_cons, c2]
            have e2 : valD (x :: xs) j = valD xs j := by simp [valD, List.find?_cons, c2]
            rw [e1, e2, ih]
        · rw [if_neg c]
          by_cases c2 : x.1 = j
          · have ne : ¬ j = k := fun z => c (by rw [c2]; exact z)
            simp [valD, List.find?_cons, c2, ne]
          · have e1 : valD (x :: xs.map fun kv => if kv.1 = k then (kv.1, d) else kv) j = valD (xs.map fun kv => if kv.1 = k then (kv.1, d) else kv) j := by simp [valD, List.find?_cons, c2]
            have e2 : valD (x :: xs) j = valD xs j := by simp [valD, List.find?_cons, c2]
            rw [e1, e2, ih]
    rw [m]
    by_cases q : j = k
    · subst q
      rw [if_pos rfl]
      obtain ⟨v, hv⟩ := Option.isSome_iff_exists.mp h
      rw [hv]
      simp
    · rw [if_neg q]
      cases valD kvs j <;> simp [q]
  · rename_i h
    have hn : valD kvs k = none := by
      cases q : valD kvs k with
      | none => rfl
      | some v => rw [q] at h; simp at h
    have a : ∀ xs : List (Key × PyData), valD xs k = none → valD (xs ++ [(k, d)]) j = if j = k then some d else valD xs j := by
      intro xs
      induction xs with
      | nil =>
        intro _
        by_cases q : j = k
        · simp [valD, q]
        · have q' : ¬ k = j := fun z => q z.symm
          simp [valD, q, q']
      | cons x xs ih =>
        intro hx
        have c : ¬ x.1 = k := fun c => by simp [valD, List.find?_cons, c] at hx
        have hx' : valD xs k = none := by simpa [valD, List.find?_cons, c] using hx
        rw [List.cons_append]
        by_cases c2 : x.1 = j
        · have ne : ¬ j = k := fun z => c (by rw [c2]; exact z)
          simp [valD, List.find?_cons, c2, ne]
        · have e1 : valD (x :: (xs ++ [(k, d)])) j = valD (xs ++ [(k, d)]) j := by simp [valD, List.find?_cons, c2]
          have e2 : valD (x :: xs) j = valD xs j := by simp [valD, List.find?_cons, c2]
          rw [e1, e2, ih hx']
    exact a kvs hn
theorem putD_len (kvs : List (Key × PyData)) (k : Key) (d : PyData) : (putD kvs k d).length ≤ kvs.length + 1 := by
  unfold putD
  split
  · rw [List.length_map]; omega
  · simp
/-! ### the next request -/
/-- the first request for w from i on -/
def fo (L : List Str) (i : Nat) (w : Str) : Option Nat := (List.range' i (L.length - i)).find? fun j => decide (L[j]? = some w)
def nxt (L : List Str) (i : Nat) : Option Nat := fo L (i + 1) (L.getD i "")
def oN : Option Nat → PyData
  | some j => .int (j : Nat)
  | none => .none
def NX (L : List Str) : List PyData := (List.range L.length).map fun i => oN (nxt L i)
theorem fo_end (L : List Str) (w : Str) : fo L L.length w = none := by simp [fo]
theorem fo_step {L : List Str} {i : Nat} (h : i < L.length) (w : Str) : fo L i w = if L[i]? = some w then some i else fo L (i + 1) w := by
  unfold fo
  rw [show L.length - i = (L.length - (i + 1)) + 1 by omega, List.range'_succ, List.find?_cons]
  by_cases c : L[i]? = some w
  · simp [c]
  · simp [c]
end K75

set_option Elab.async false
set_option linter.all false
set_option maxRecDepth 100000
set_option maxHeartbeats 4000000
/-! The next requests, by both accounts. -/
namespace K75
open PySem PySem.Spec PyProof.Rows L2 GX StX DL
abbrev rowD (L : List Str) : PyData := .tuple (L.map .str)
theorem ix_row {L : List Str} {i : Nat} (h : i < L.length) : atI (L.map PyData.str) (i : Int) = some (.str (L.getD i "")) := by
  rw [atI_nat (by rw [List.length_map]; exact h)]
  simp [List.getD, h]
theorem getD_at {L : List Str} {i : Nat} (h : i < L.length) : L[i]? = some (L.getD i "") := by simp [List.getD, h]
/-! ### the program's -/
abbrev nS (L : List Str) (kvs : List (Key × PyData)) (fs : List PyData) (s3 : Sl) : Rho := [.dat (rowD L), .own false (.d kvs), .own false (.l fs), s3]
def gNb : SF := fSq (fApp 2 (fGetP 1 (fOp ixD (gVar 0) (gVar 3)))) (fSq (fAsg (fVar 3) (tSubP 1 (fOp ixD (gVar 0) (gVar 3)))) fNx)
def fwd (L : List Str) (k : Nat) : List PyData := (List.range k).map fun m => oN (nxt L (L.length - 1 - m))
def IN (L : List Str) (k : Nat) (ρ : Rho) : Prop := ∃ kvs s3, ρ = nS L kvs (fwd L k) s3 ∧ kvs.length ≤ k ∧ ∀ w, valD kvs (.inr w) = (fo L (L.length - k) w).map fun j => PyData.int (j : Nat)
theorem fwd_succ (L : List Str) (k : Nat) : fwd L (k + 1) = fwd L k ++ [oN (nxt L (L.length - 1 - k))] := by simp [fwd, List.range_succ]
theorem next_turn {L : List Str} (hl : L.length ≤ 1000) {k : Nat} (hk : k < L.length) {ρ : Rho} (h : IN L k ρ) : ∃ ρ2, gNb (ρ.set 3 (.dat (.int ((L.length : Int) - 1 - (k : Int))))) = some (.nx ρ2) ∧ IN L (k + 1) ρ2 := by
  obtain ⟨kvs, s3, rfl, lk, hv⟩ := h
  have ei : (L.length : Int) - 1 - (k : Int) = ((L.length - 1 - k : Nat) : Int) := by omega
  rw [ei]
  generalize hi : L.length - 1 - k = i at *
  have li : i < L.length := by omega
  have ix := ix_row li
  have hn : fo L (L.length - k) (L.getD i "") = nxt L i := by
    unfold nxt
    rw [show L.length - k = i + 1 by omega]
  have e1 : (valD kvs (.inr (L.getD i ""))).getD .none = oN (nxt L i) := by
    rw [hv, hn]
    cases nxt L i <;> rfl
  have f1 : fits ((fwd L k).length + 1) = true := by
    unfold fwd
    rw [List.length_map, List.length_range]
    exact decide_eq_true (by omega)
  have f2 : fits (kvs.length + 1) = true := decide_eq_true (by omega)
  refine ⟨nS L (putD kvs (.inr (L.getD i "")) (.int (i : Nat))) (fwd L (k + 1)) (.dat (.int (i : Nat))), ?_, _, _, rfl, ?_, fun w => ?_⟩
  · rw [fwd_succ, hi, ← e1]
    generalize L.getD i "" = w at ix e1 hn ⊢
    generalize fwd L k = fs at f1 ⊢
    simp [gNb, nS, ix, keyP, f1, f2]
  · have := putD_len kvs (.inr (L.getD i "")) (.int (i : Nat))
    omega
  · rw [valD_put, hv, show L.length - (k + 1) = i by omega, fo_step li, getD_at li, show L.length - k = i + 1 by omega]
    by_cases c : w = L.getD i ""
    · subst c
      rw [if_pos rfl, if_pos rfl]
      rfl
    · rw [if_neg (fun z => c (by injection z)), if_neg (fun z => c (by injection z with z; exact z.symm))]
theorem fwd_rev (L : List Str) : (fwd L L.length).reverse = NX L := by
  unfold fwd NX
  refine List.ext_getElem (by simp) fun i h1 h2 => ?_
  simp at h1 h2
  rw [List.getElem_reverse]
  simp
  congr 2
  omega
theorem revD_at {n j : Nat} {d : PyData} (h : (revD n)[j]? = some d) : j < n ∧ d = .int ((n : Int) - 1 - (j : Int)) := by
  unfold revD at h
  rw [List.getElem?_map] at h
  cases q : (List.range n)[j]? with
  | none => rw [q] at h; cases h
  | some m =>
    rw [q] at h
    obtain ⟨hl, z⟩ := List.getElem?_eq_some_iff.mp q
    rw [List.getElem_range] at z
    subst z
    cases h
    exact ⟨by simpa using hl, rfl⟩
theorem m_next {L : List Str} (hl : L.length ≤ 1000) : F_nextrequests [.dat (rowD L)] = some (.list (NX L), [.un]) := by
  have f0 : fits 0 = true := by decide
  have s1 : fDicP 1 [.dat (rowD L), .un, .un, .un] = some (.nx [.dat (rowD L), .own false (.d []), .un, .un]) := rfl
  have s2 : fHold 2 (lLst lNil) [.dat (rowD L), .own false (.d []), .un, .un] = some (.nx (nS L [] [] .un)) := by simp [f0]
  obtain ⟨ρ', e, kvs, s3, rfl, _, _⟩ := loop_at (t := tName 3) (g := gNb) (IN L) (revD L.length) (ρ := nS L [] [] .un) ⟨[], .un, rfl, Nat.le_refl _, fun w => by rw [Nat.sub_zero, fo_end]; rfl⟩ (fun j d hd ρ h => by
    obtain ⟨lj, rfl⟩ := revD_at hd
    obtain ⟨ρ2, e2, h2⟩ := next_turn hl lj h
    exact ⟨_, _, rfl, e2, h2⟩)
  have len : (revD L.length).length = L.length := by simp [revD]
  rw [len] at e
  have it : iRev (fCl lenD (aCons (gVar 0) aNil)) (nS L [] [] .un) = some (revD L.length, nS L [] [] .un) := by
    have a : (L.length : Int) ≤ 1000000 := by omega
    simp [nS, a]
  have s3' : fFor (iRev (fCl lenD (aCons (gVar 0) aNil))) (tName 3) gNb (nS L [] [] .un) = some (.nx (nS L kvs (fwd L L.length) s3)) := (for_it it).trans e
  have fr := fwd_rev L
  have s4 : fRet (fLst (fRevL (gVar 2))) (nS L kvs (fwd L L.length) s3) = some (.rt (.list (NX L)) (nS L kvs (fwd L L.length) s3)) := by simp [nS, fr]
  have g_is : g_nextrequests = fSq (fDicP 1) (fSq (fHold 2 (lLst lNil)) (fSq (fFor (iRev (fCl lenD (aCons (gVar 0) aNil))) (tName 3) gNb) (fSq (fRet (fLst (fRevL (gVar 2)))) fNx))) := rfl
  have z : g_nextrequests [.dat (rowD L), .un, .un, .un] = some (.rt (.list (NX L)) (nS L kvs (fwd L L.length) s3)) := by
    rw [g_is, sq_nx s1, sq_nx s2, sq_nx s3']
    exact sq_rt s4
  exact (body_rt (m := 3) (g := g_nextrequests) (sls := [.dat (rowD L)]) rfl z).trans (by simp [nS, List.range, List.range.loop])
/-! ### the law's -/
abbrev lS (L : List Str) (fs : List PyData) (s2 s3 : Sl) : Rho := [.dat (rowD L), .own false (.l fs), s2, s3, .un]
def gLc : LF := fComp (iRange2 (lCons (fOp addD (gVar 2) (gVal (fC (.int 1)))) (lCons (fCl lenD (aCons (gVar 0) aNil)) lNil))) [4] (tName 4) (fTst (fOp eqD (gVal (fOp ixD (gVar 0) (gVar 4))) (gVal (fOp ixD (gVar 0) (gVar 2))))) (fVar 4)
def gL1 : SF := fHold 3 gLc
def gL2 : SF := fApp 1 (fOp ixD (gVal (fOp addD (gVar 3) (gVal (fLst (lLst (lCons (fC .none) lNil)))))) (gVal (fC (.int 0))))
def gLb : SF := fSq gL1 (fSq gL2 fNx)
theorem q_iR2 {f : LF} {ρ ρ' : Rho} {i j : Int} (h : f ρ = some ([.int i, .int j], ρ')) (a : small62 i = true) (b : small62 j = true) : iRange2 f ρ = some (rangeD i (j - i).toNat, ρ') := by
  unfold iRange2
  rw [h]
  dsimp only
  rw [a, b]
  rfl
theorem add_none {R : List PyData} (h : R.length ≤ 1000) : addD (.list R) (.list [.none]) = some (.list (R ++ [.none])) := by
  have f2 : fits (R.length + 1) = true := decide_eq_true (by omega)
  show (if fits (R.length + 1) = true then some (PyData.list (R ++ [.none])) else none) = _
  rw [if_pos f2]
theorem gL2_at {rw_ : Sl} {fs R : List PyData} {d : PyData} {i : Nat} (hf : fs.length ≤ 1000) (hr : R.length ≤ 1000) (hd : atI (R ++ [.none]) 0 = some d) : fApp 1 (fOp ixD (gVal (fOp addD (gVar 3) (gVal (fLst (lLst (lCons (fC .none) lNil)))))) (gVal (fC (.int 0)))) [rw_, .own false (.l fs), .dat (.int (i : Nat)), .own false (.l R), .un] = some (.nx [rw_, .own false (.l (fs ++ [d])), .dat (.int (i : Nat)), .own false (.l R), .un]) := by
  have f1 : fits 1 = true := by decide
  have f3 : fits (fs.length + 1) = true := decide_eq_true (by omega)
  have ad := add_none hr
  simp [f1, f3, ad, hd]
theorem head_find {α : Type} (p : α → Bool) : ∀ xs : List α, (xs.filter p)[0]? = xs.find? p
  | [] => rfl
  | x :: xs => by
    rw [List.filter_cons, List.find?_cons]
    cases p x with
    | true => rfl
    | false => exact head_find p xs
theorem range'_D (a n : Nat) : (List.range' a n).map (fun j => PyData.int ((j : Nat) : Int)) = rangeD (a : Int) n := by
  unfold rangeD
  refine List.ext_getElem (by simp) fun i h1 h2 => ?_
  simp
theorem str_eq (a b : Str) : eqD (.str a) (.str b) = some (.bool (decide (a = b))) := rfl
theorem lat_comp {L : List Str} (hl : L.length ≤ 1000) {i : Nat} (li : i < L.length) (fs : List PyData) (s3 : Sl) :
    gLc (lS L fs (.dat (.int (i : Nat))) s3) = some (((List.range' (i + 1) (L.length - (i + 1))).filter fun j => decide (L[j]? = some (L.getD i ""))).map fun j => .int ((j : Nat) : Int), lS L fs (.dat (.int (i : Nat))) s3) := by
  have it : iRange2 (lCons (fOp addD (gVar 2) (gVal (fC (.int 1)))) (lCons (fCl lenD (aCons (gVar 0) aNil)) lNil)) (lS L fs (.dat (.int (i : Nat))) s3) = some (rangeD ((i : Int) + 1) ((L.length : Int) - ((i : Int) + 1)).toNat, lS L fs (.dat (.int (i : Nat))) s3) := by
    exact q_iR2 (by simp [lS]) (small62_le (by omega) (by omega)) (small62_le (by omega) (by omega))
  have ix := ix_row li
  have z := comp_gen (ks := [4]) (t := tName 4) (c := fTst (fOp eqD (gVal (fOp ixD (gVar 0) (gVar 4))) (gVal (fOp ixD (gVar 0) (gVar 2))))) (f := fVar 4) (fun j : Nat => PyData.int ((j : Nat) : Int)) (fun j => decide (L[j]? = some (L.getD i ""))) (fun j : Nat => .int ((j : Nat) : Int))
    (ρ := lS L fs (.dat (.int (i : Nat))) s3) (List.range' (i + 1) (L.length - (i + 1))) [] (fun j hj => by
      have lj : j < L.length := by
        have := List.mem_range'_1.mp hj
        omega
      have jx := ix_row lj
      have e := str_eq (L.getD j "") (L.getD i "")
      have q : decide (L[j]? = some (L.getD i "")) = decide (L.getD j "" = L.getD i "") := by
        rw [getD_at lj]
        simp
      refine ⟨[.dat (rowD L), .own false (.l fs), .dat (.int (i : Nat)), s3, .dat (.int (j : Nat))], [.dat (rowD L), .own false (.l fs), .dat (.int (i : Nat)), s3, .dat (.int (j : Nat))], rfl, ?_, fun _ => ⟨[.dat (rowD L), .own false (.l fs), .dat (.int (i : Nat)), s3, .dat (.int (j : Nat))], rfl, rfl⟩, fun _ => rfl⟩
      rw [q]
      generalize L.getD i "" = a at ix e ⊢
      generalize L.getD j "" = b at jx e ⊢
      simp [ix, jx, e]) (by simp; omega)
  rw [List.nil_append, range'_D] at z
  unfold gLc
  rw [q_fComp, it]
  dsimp only
  rw [show ((L.length : Int) - ((i : Int) + 1)).toNat = L.length - (i + 1) by omega, show ((i : Int) + 1) = ((i + 1 : Nat) : Int) by omega]
  exact z
theorem hold_at {f : LF} {ρ : Rho} {R : List PyData} {fs : List PyData} {rw_ s2 s3 : Sl} (h : ρ = [rw_, .own false (.l fs), s2, s3, .un]) (c : f ρ = some (R, ρ)) : fHold 3 f ρ = some (.nx [rw_, .own false (.l fs), s2, .own false (.l R), .un]) := by
  subst h
  simp only [q_fHold, c]
  rfl
theorem head_none {R : List PyData} {o : Option Nat} (hfd : R[0]? = o.map fun j => PyData.int ((j : Nat) : Int)) : atI (R ++ [.none]) 0 = some (oN o) := by
  have e := atI_nat (xs := R ++ [PyData.none]) (i := 0) (by simp)
  rw [show ((0 : Nat) : Int) = 0 from rfl] at e
  rw [e]
  cases R with
  | nil =>
    cases o with
    | none => rfl
    | some j => simp at hfd
  | cons a b =>
    cases o with
    | none => simp at hfd
    | some j =>
      simp at hfd
      subst hfd
      rfl
def lat (L : List Str) (i : Nat) : List PyData := ((List.range' (i + 1) (L.length - (i + 1))).filter fun j => decide (L[j]? = some (L.getD i ""))).map fun j => PyData.int ((j : Nat) : Int)
theorem lat_len {L : List Str} (hl : L.length ≤ 1000) (i : Nat) : (lat L i).length ≤ 1000 := by
  unfold lat
  rw [List.length_map]
  have := List.length_filter_le (fun j => decide (L[j]? = some (L.getD i ""))) (List.range' (i + 1) (L.length - (i + 1)))
  rw [List.length_range'] at this
  omega
theorem lat_head (L : List Str) (i : Nat) : (lat L i)[0]? = (nxt L i).map fun j => PyData.int ((j : Nat) : Int) := by
  unfold lat
  rw [List.getElem?_map, head_find]
  rfl
theorem later_turn {L : List Str} (hl : L.length ≤ 1000) {i : Nat} (li : i < L.length) (fs : List PyData) (hf : fs.length ≤ 1000) (s3 : Sl) : ∃ t3, gLb (lS L fs (.dat (.int (i : Nat))) s3) = some (.nx (lS L (fs ++ [oN (nxt L i)]) (.dat (.int (i : Nat))) t3)) := by
  have s1 : gL1 (lS L fs (.dat (.int (i : Nat))) s3) = some (.nx (lS L fs (.dat (.int (i : Nat))) (.own false (.l (lat L i))))) := hold_at rfl (lat_comp hl li fs s3)
  have s2 : gL2 (lS L fs (.dat (.int (i : Nat))) (.own false (.l (lat L i)))) = some (.nx (lS L (fs ++ [oN (nxt L i)]) (.dat (.int (i : Nat))) (.own false (.l (lat L i))))) := gL2_at hf (lat_len hl i) (head_none (lat_head L i))
  exact ⟨.own false (.l (lat L i)), (sq_nx s1).trans ((sq_nx s2).trans (q_fNx _))⟩
theorem rangeD_at {n j : Nat} {d : PyData} (h : (rangeD 0 n)[j]? = some d) : j < n ∧ d = .int (j : Nat) := by
  unfold rangeD at h
  rw [List.getElem?_map] at h
  cases q : (List.range n)[j]? with
  | none => rw [q] at h; cases h
  | some m =>
    rw [q] at h
    obtain ⟨hl, z⟩ := List.getElem?_eq_some_iff.mp q
    rw [List.getElem_range] at z
    subst z
    cases h
    exact ⟨by simpa using hl, by simp⟩
theorem m_later {L : List Str} (hl : L.length ≤ 1000) : F_Llater [.dat (rowD L)] = some (.list (NX L), [.un]) := by
  have f0 : fits 0 = true := by decide
  have s1 : fHold 1 (lLst lNil) [.dat (rowD L), .un, .un, .un, .un] = some (.nx (lS L [] .un .un)) := by simp [f0]
  have it : iRange1 (lCons (fCl lenD (aCons (gVar 0) aNil)) lNil) (lS L [] .un .un) = some (rangeD 0 L.length, lS L [] .un .un) := by
    have z := q_iR (f := lCons (fCl lenD (aCons (gVar 0) aNil)) lNil) (ρ := lS L [] .un .un) (ρ' := lS L [] .un .un) (j := (L.length : Int)) (by simp [lS]) (small62_le (by omega) (by omega))
    rw [Int.toNat_natCast] at z
    exact z
  obtain ⟨ρ', e, s2, s3, rfl⟩ := loop_at (t := tName 2) (g := gLb) (fun k ρ => ∃ s2 s3, ρ = lS L ((List.range k).map fun i => oN (nxt L i)) s2 s3) (rangeD 0 L.length) (ρ := lS L [] .un .un) ⟨_, _, rfl⟩ (fun j d hd ρ h => by
    obtain ⟨s2, s3, rfl⟩ := h
    obtain ⟨lj, rfl⟩ := rangeD_at hd
    obtain ⟨t3, e⟩ := later_turn hl lj ((List.range j).map fun i => oN (nxt L i)) (by rw [List.length_map, List.length_range]; omega) s3
    refine ⟨_, _, rfl, e, .dat (.int (j : Nat)), t3, ?_⟩
    rw [List.range_succ, List.map_append]
    rfl)
  rw [rangeD_len] at e
  have s2' : fFor (iRange1 (lCons (fCl lenD (aCons (gVar 0) aNil)) lNil)) (tName 2) gLb (lS L [] .un .un) = some (.nx (lS L (NX L) s2 s3)) := (for_it it).trans e
  have s3' : fRet (fVar 1) (lS L (NX L) s2 s3) = some (.rt (.list (NX L)) ((lS L (NX L) s2 s3).set 1 (.dat (.list (NX L))))) := by simp [lS]
  have g_is : g_Llater = fSq (fHold 1 (lLst lNil)) (fSq (fFor (iRange1 (lCons (fCl lenD (aCons (gVar 0) aNil)) lNil)) (tName 2) gLb) (fSq (fRet (fVar 1)) fNx)) := rfl
  have z : g_Llater [.dat (rowD L), .un, .un, .un, .un] = some (.rt (.list (NX L)) ((lS L (NX L) s2 s3).set 1 (.dat (.list (NX L))))) := by
    rw [g_is, sq_nx s1, sq_nx s2']
    exact sq_rt s3'
  exact (body_rt (m := 4) (g := g_Llater) (sls := [.dat (rowD L)]) rfl z).trans (by simp [lS, List.range, List.range.loop])
end K75

set_option Elab.async false
set_option linter.all false
set_option maxRecDepth 100000
set_option maxHeartbeats 4000000
/-! Truths that fit: the law's account. -/
namespace DL
open PySem PySem.Spec PyProof.Rows L2 GX StX
abbrev bls (bs : List Bool) : List PyData := bs.map PyData.bool
theorem boolsOf_bls : ∀ bs : List Bool, boolsOf (bls bs) = some bs
  | [] => rfl
  | b :: bs => by
    show (match boolsOf (bls bs) with
      | some bs => some (b :: bs)
      | none => none) = _
    rw [boolsOf_bls bs]
theorem all_bls (bs : List Bool) : allD [.list (bls bs)] = some (.bool (bs.all id)) := by
  show (match boolsOf (bls bs) with
    | some ns => some (PyData.bool (ns.all id))
    | none => none) = _
  rw [boolsOf_bls]
def Plain (d : PyData) : Prop := d.canLay0 = true ∧ d.depth ≤ 3
theorem lay_all : ∀ {ds : List PyData}, (∀ d ∈ ds, Plain d) → PyData.canLayAll0 ds = true ∧ PyData.depthAll ds ≤ 3
  | [], _ => ⟨rfl, by simp [PyData.depthAll]⟩
  | d :: ds, h => by
    obtain ⟨h1, h2⟩ := lay_all (ds := ds) fun x hx => h x (by simp [hx])
    obtain ⟨k1, k2⟩ := h d (by simp)
    exact ⟨by simp [PyData.canLayAll0, k1, h1], by simp only [PyData.depthAll]; omega⟩
theorem sh_l {ds : List PyData} (h : ∀ d ∈ ds, Plain d) : SeqAt.shaped (.list ds) = true := by
  obtain ⟨h1, h2⟩ := lay_all h
  unfold SeqAt.shaped
  rw [Bool.and_eq_true]
  refine ⟨by simpa [PyData.canLay0] using h1, decide_eq_true ?_⟩
  simp only [PyData.depth]
  omega
theorem eqv_nil (ds : List PyData) : PyData.eqv (.list ds) (.list []) = ds.isEmpty := by
  cases ds <;> simp [PyData.eqv, PyData.eqvAll]
theorem ne_nil {ds : List PyData} (h : ∀ d ∈ ds, Plain d) : neD (.list ds) (.list []) = some (.bool (!ds.isEmpty)) := by
  have a := sh_l h
  have b : SeqAt.shaped (.list []) = true := by decide
  show (if (SeqAt.shaped (.list ds) && SeqAt.shaped (.list [])) = true then some (PyData.bool (!PyData.eqv (.list ds) (.list []))) else none) = _
  rw [a, b, eqv_nil]
  rfl
theorem eq_nil {ds : List PyData} (h : ∀ d ∈ ds, Plain d) : eqD (.list ds) (.list []) = some (.bool ds.isEmpty) := by
  have a := sh_l h
  have b : SeqAt.shaped (.list []) = true := by decide
  show (if (SeqAt.shaped (.list ds) && SeqAt.shaped (.list [])) = true then some (PyData.bool (PyData.eqv (.list ds) (.list []))) else none) = _
  rw [a, b, eqv_nil]
  rfl
theorem plain_int (i : Int) : Plain (.int i) := ⟨rfl, by simp [PyData.depth]⟩
theorem isNon_oN (o : Option Nat) : isNon (K75.oN o) = o.isNone := by cases o <;> rfl
theorem isNone_at (d : PyData) : isNoneD d .none = some (.bool (isNon d)) := rfl
theorem isNot_at (d : PyData) : isNotD d .none = some (.bool (!isNon d)) := rfl
theorem rangeD_map (n : Nat) : rangeD 0 n = (List.range n).map fun i => PyData.int ((i : Nat) : Int) := by
  unfold rangeD
  congr 1
  funext i
  simp
/-- a comprehension with no condition -/
theorem comp_all {α : Type} {it : LF} {ks : List Nat} {t : GT} {f : EF} (g h : α → PyData) {ρ ρ1 : Rho} (xs : List α) (hi : it ρ = some (xs.map g, ρ1)) (hw : wipeR ρ1 ks = ρ) (st : ∀ x ∈ xs, ∃ ρ0 ρ2, t (g x) ρ = some ρ0 ∧ f ρ0 = some (h x, ρ2) ∧ wipeR ρ2 ks = ρ) (hz : xs.length ≤ 1000000) :
    fComp it ks t fYes f ρ = some (xs.map h, ρ) := by
  rw [q_fComp, hi]
  dsimp only
  rw [hw]
  have z := K75.comp_gen (ks := ks) (t := t) (c := fYes) (f := f) g (fun _ => true) h (ρ := ρ) xs [] (fun x hx => by
    obtain ⟨ρ0, ρ2, e0, e1, w⟩ := st x hx
    exact ⟨ρ0, ρ0, e0, rfl, fun _ => ⟨ρ2, e1, w⟩, fun c => nomatch c⟩) (by simpa using hz)
  rw [z, List.filter_eq_self.mpr (fun _ _ => rfl), List.nil_append]
/-- a comprehension with a condition -/
theorem comp_if {α : Type} {it : LF} {ks : List Nat} {t : GT} {c : TF} {f : EF} (g : α → PyData) (p : α → Bool) (h : α → PyData) {ρ ρ1 : Rho} (xs : List α) (hi : it ρ = some (xs.map g, ρ1)) (hw : wipeR ρ1 ks = ρ) (st : ∀ x ∈ xs, ∃ ρ0, t (g x) ρ = some ρ0 ∧ c ρ0 = some (p x, ρ0) ∧ (p x = true → f ρ0 = some (h x, ρ0)) ∧ wipeR ρ0 ks = ρ) (hz : xs.length ≤ 1000000) :
    fComp it ks t c f ρ = some ((xs.filter p).map h, ρ) := by
  rw [q_fComp, hi]
  dsimp only
  rw [hw]
  have z := K75.comp_gen (ks := ks) (t := t) (c := c) (f := f) g p h (ρ := ρ) xs [] (fun x hx => by
    obtain ⟨ρ0, e0, e1, e2, w⟩ := st x hx
    exact ⟨ρ0, ρ0, e0, e1, fun q => ⟨ρ0, e2 q, w⟩, fun _ => w⟩) (by simpa using hz)
  rw [z]
  simp
end DL
namespace K75
open PySem PySem.Spec PyProof.Rows L2 GX StX DL
abbrev iLen : LF := iRange1 (lCons (fCl lenD (aCons (gVar 0) aNil)) lNil)
theorem rng_len {L : List Str} (hl : L.length ≤ 1000) {tl : Rho} : iLen (.dat (rowD L) :: tl) = some ((List.range L.length).map (fun i => PyData.int ((i : Nat) : Int)), .dat (rowD L) :: tl) := by
  have z := q_iR (f := lCons (fCl lenD (aCons (gVar 0) aNil)) lNil) (ρ := .dat (rowD L) :: tl) (ρ' := .dat (rowD L) :: tl) (j := (L.length : Int)) (by simp) (small62_le (by omega) (by omega))
  rw [Int.toNat_natCast, rangeD_map] at z
  exact z
theorem atB {bs : List Bool} {i : Nat} (h : i < bs.length) : atI (bls bs) (i : Int) = some (.bool (bs.getD i false)) := by
  rw [DL.atI_nat (by rw [List.length_map]; exact h)]
  simp [List.getD, h]
theorem atN {L : List Str} {i : Nat} (h : i < L.length) : atI (NX L) (i : Int) = some (oN (nxt L i)) := by
  rw [DL.atI_nat (by unfold NX; rw [List.length_map, List.length_range]; exact h)]
  simp [NX]
def St (L : List Str) (bs : List Bool) : List Nat := (List.range L.length).filter fun i => bs.getD i false
def ov (L : List Str) (t i : Nat) : Bool := match nxt L i with
  | some j => decide (i < t) && decide (t < j)
  | none => false
def cnt (L : List Str) (bs : List Bool) (t : Nat) : Nat := ((St L bs).filter (ov L t)).length
def allN (L : List Str) (bs : List Bool) : Bool := (St L bs).all fun i => (nxt L i).isSome
def fitsB (L : List Str) (m : Int) (bs : List Bool) : Bool := allN L bs && (List.range L.length).all fun t => decide ((cnt L bs t : Int) < m)
section
variable {L : List Str} {bs : List Bool}
theorem St_mem {i : Nat} (h : i ∈ St L bs) : i < L.length := by
  unfold St at h
  simpa using (List.mem_filter.mp h).1
end
end K75

set_option Elab.async false
set_option linter.all false
set_option maxRecDepth 100000
set_option maxHeartbeats 4000000
/-! The way with the least misses: whom it keeps, and that none keeps more. -/
namespace K75
open PySem PySem.Spec PyProof.Rows L2 GX StX DL
theorem fo_spec {L : List Str} {i j : Nat} {w : Str} (h : fo L i w = some j) : i ≤ j ∧ j < L.length ∧ L[j]? = some w ∧ ∀ k, i ≤ k → k < j → L[k]? ≠ some w := by
  unfold fo at h
  rw [List.find?_eq_some_iff_getElem] at h
  obtain ⟨h1, n, hn, e, mn⟩ := h
  rw [List.getElem_range'] at e
  have hl : n < L.length - i := by simpa using hn
  refine ⟨by omega, by omega, of_decide_eq_true h1, fun k h2 h3 z => ?_⟩
  have q := mn (k - i) (by omega)
  rw [List.getElem_range'] at q
  rw [show i + 1 * (k - i) = k by omega, z] at q
  simp at q
theorem fo_none {L : List Str} {i : Nat} {w : Str} (h : fo L i w = none) : ∀ k, i ≤ k → L[k]? ≠ some w := by
  intro k hk z
  unfold fo at h
  rw [List.find?_eq_none] at h
  have hl : k < L.length := (List.getElem?_eq_some_iff.mp z).1
  have q := h k (by rw [List.mem_range']; exact ⟨k - i, by omega, by omega⟩)
  exact q (decide_eq_true z)
theorem fo_of {L : List Str} {i j : Nat} {w : Str} (h1 : i ≤ j) (h2 : L[j]? = some w) (h3 : ∀ k, i ≤ k → k < j → L[k]? ≠ some w) : fo L i w = some j := by
  cases q : fo L i w with
  | none => exact (fo_none q j h1 h2).elim
  | some j' =>
    obtain ⟨a, b, c, d⟩ := fo_spec q
    rcases Nat.lt_trichotomy j j' with z | z | z
    · exact (d j h1 z h2).elim
    · rw [z]
    · exact (h3 j' a z c).elim
theorem nxt_spec {L : List Str} {i j : Nat} (h : nxt L i = some j) : i < j ∧ j < L.length ∧ L[j]? = some (L.getD i "") ∧ ∀ k, i < k → k < j → L[k]? ≠ some (L.getD i "") := by
  obtain ⟨a, b, c, d⟩ := fo_spec h
  exact ⟨a, b, c, fun k h1 h2 => d k h1 h2⟩
theorem nxt_inj {L : List Str} {a b j : Nat} (ha : a < L.length) (hb : b < L.length) (h1 : nxt L a = some j) (h2 : nxt L b = some j) : a = b := by
  obtain ⟨a1, a2, a3, a4⟩ := nxt_spec h1
  obtain ⟨b1, b2, b3, b4⟩ := nxt_spec h2
  have e : L.getD a "" = L.getD b "" := by
    rw [a3] at b3
    exact Option.some.inj b3
  rcases Nat.lt_trichotomy a b with z | z | z
  · exact (a4 b z b1 (by rw [e]; exact getD_at hb)).elim
  · exact z
  · exact (b4 a z a1 (by rw [← e]; exact getD_at ha)).elim
/-- what ends at t, and later -/
def endAt (L : List Str) (t s : Nat) : Bool := decide (nxt L s = some t)
def past (L : List Str) (t s : Nat) : Bool := match nxt L s with
  | some j => decide (t < j)
  | none => false
def ended (L : List Str) (σ s : Nat) : Bool := match nxt L s with
  | some j => decide (j ≤ σ)
  | none => false
def kys (L : List Str) (o : List Nat) : List Int := o.map fun s => (((nxt L s).getD 0 : Nat) : Int)
def drop1 (L : List Str) (o : List Nat) : List Nat := match o[bestK (kys L o)]? with
  | some s => o.erase s
  | none => o
def o2 (L : List Str) (t : Nat) (o : List Nat) : List Nat := o.filter (past L t)
def o3 (L : List Str) (m t : Nat) (o : List Nat) : List Nat := if (o2 L t o).length = m then drop1 L (o2 L t o) else o2 L t o
def o4 (L : List Str) (m t : Nat) (o : List Nat) : List Nat := if (nxt L t).isSome then o3 L m t o ++ [t] else o3 L m t o
def run (L : List Str) (m : Nat) : Nat → List Nat × List Nat
  | 0 => ([], [])
  | t + 1 => ((run L m t).1 ++ (run L m t).2.filter (endAt L t), o4 L m t (run L m t).2)
/-- the first of the greatest -/
theorem arg_best {ks : List Int} : ∀ n, n < ks.length → argBest (btK ks) n ≤ n ∧ ∀ i, i ≤ n → ks.getD i 0 ≤ ks.getD (argBest (btK ks) n) 0
  | 0, _ => ⟨Nat.le_refl _, fun i hi => by rw [Nat.le_zero.mp hi]; exact Int.le_refl _⟩
  | n + 1, h => by
    obtain ⟨a, b⟩ := arg_best (ks := ks) n (by omega)
    unfold argBest
    by_cases c : ks.getD (n + 1) 0 > ks.getD (argBest (btK ks) n) 0
    · rw [if_pos (show btK ks (n + 1) (argBest (btK ks) n) = true from decide_eq_true c)]
      refine ⟨Nat.le_refl _, fun i hi => ?_⟩
      rcases Nat.lt_or_ge i (n + 1) with z | z
      · have := b i (by omega)
        omega
      · rw [show i = n + 1 by omega]
        exact Int.le_refl _
    · rw [if_neg (show ¬ btK ks (n + 1) (argBest (btK ks) n) = true from fun z => c (of_decide_eq_true z))]
      refine ⟨by omega, fun i hi => ?_⟩
      rcases Nat.lt_or_ge i (n + 1) with z | z
      · exact b i (by omega)
      · rw [show i = n + 1 by omega]
        omega
theorem best_lt {ks : List Int} (h : 0 < ks.length) : bestK ks < ks.length := by
  have := (arg_best (ks := ks) (ks.length - 1) (by omega)).1
  unfold bestK
  omega
theorem best_top {ks : List Int} {i : Nat} (h : i < ks.length) : ks.getD i 0 ≤ ks.getD (bestK ks) 0 := (arg_best (ks := ks) (ks.length - 1) (by omega)).2 i (by omega)
theorem kys_at {L : List Str} {o : List Nat} {i : Nat} (h : i < o.length) : (kys L o).getD i 0 = (((nxt L o[i]).getD 0 : Nat) : Int) := by
  unfold kys
  simp [List.getD, h]
/-- whom it lets go -/
theorem drop_is {L : List Str} {o : List Nat} (h : 0 < o.length) : ∃ s, s ∈ o ∧ drop1 L o = o.erase s ∧ o[bestK (kys L o)]? = some s ∧ ∀ x ∈ o, (nxt L x).getD 0 ≤ (nxt L s).getD 0 := by
  have hl : (kys L o).length = o.length := by simp [kys]
  have hb : bestK (kys L o) < o.length := by rw [← hl]; exact best_lt (by rw [hl]; exact h)
  refine ⟨o[bestK (kys L o)], List.getElem_mem hb, ?_, List.getElem?_eq_getElem hb, fun x hx => ?_⟩
  · unfold drop1
    rw [List.getElem?_eq_getElem hb]
  · obtain ⟨i, hi, rfl⟩ := List.getElem_of_mem hx
    have := best_top (ks := kys L o) (i := i) (by rw [hl]; exact hi)
    rw [kys_at hi, kys_at hb] at this
    omega
end K75

set_option Elab.async false
set_option linter.all false
set_option maxRecDepth 100000
set_option maxHeartbeats 4000000
/-! What holds of it from request to request. -/
namespace K75
open PySem PySem.Spec PyProof.Rows L2 GX StX DL
section
variable {α : Type}
theorem cp_split {p r q : α → Bool} : ∀ {l : List α}, (∀ s ∈ l, p s = !r s) → l.countP q = (l.filter r).countP q + (l.filter p).countP q
  | [], _ => rfl
  | a :: l, h => by
    have ih := cp_split (q := q) (l := l) fun s hs => h s (List.mem_cons_of_mem _ hs)
    have ha := h a List.mem_cons_self
    cases hr : r a
    · rw [hr] at ha
      rw [List.filter_cons_of_neg (by simp [hr]), List.filter_cons_of_pos ha, List.countP_cons, List.countP_cons, ih]
      omega
    · rw [hr] at ha
      rw [List.filter_cons_of_pos hr, List.filter_cons_of_neg (by simp [ha]), List.countP_cons, List.countP_cons, ih]
      omega
theorem cp_or {p r q : α → Bool} : ∀ {l : List α}, (∀ s ∈ l, q s = true → p s = true ∨ r s = true) → l.countP q ≤ l.countP p + l.countP r
  | [], _ => Nat.le_refl _
  | a :: l, h => by
    have ih := cp_or (l := l) fun s hs => h s (List.mem_cons_of_mem _ hs)
    have ha := h a List.mem_cons_self
    rw [List.countP_cons, List.countP_cons, List.countP_cons]
    by_cases c : q a = true
    · rcases ha c with z | z
      · rw [if_pos c, if_pos z]
        split <;> omega
      · rw [if_pos c, if_pos z]
        split <;> omega
    · rw [if_neg c]
      split <;> split <;> omega
theorem cp_zero {q : α → Bool} {l : List α} (h : ∀ s ∈ l, q s = false) : l.countP q = 0 := by
  rw [List.countP_eq_zero]
  intro s hs
  simp [h s hs]
theorem cp_all {q : α → Bool} {l : List α} (h : ∀ s ∈ l, q s = true) : l.countP q = l.length := by
  rw [List.countP_eq_length]
  exact h
end
theorem cp_one {t : Nat} : ∀ {l : List Nat}, l.Nodup → l.countP (fun i => decide (i = t)) ≤ 1
  | [], _ => by simp
  | a :: l, h => by
    rw [List.nodup_cons] at h
    rw [List.countP_cons]
    by_cases c : a = t
    · subst c
      rw [cp_zero (q := fun i => decide (i = a)) fun s hs => decide_eq_false fun (z : s = a) => h.1 (by rw [← z]; exact hs)]
      simp
    · have := cp_one (t := t) h.2
      simp [c]
      exact this
structure GI (L : List Str) (m t : Nat) (k o : List Nat) : Prop where
  ho : ∀ s ∈ o, s < t ∧ ∃ j, nxt L s = some j ∧ t ≤ j
  hk : ∀ s ∈ k, s < t ∧ ∃ j, nxt L s = some j ∧ j < t
  no : o.Nodup
  nk : k.Nodup
  lo : o.length ≤ m
  fe : ∀ τ, τ < t → (k ++ o).countP (ov L τ) < m
  op : ∀ bs, fitsB L m bs = true → ∀ σ, t ≤ σ → (St L bs).countP (fun i => decide (i < t) && ended L σ i) ≤ (k ++ o).countP (ended L σ)
section
variable {L : List Str} {m t : Nat} {k o : List Nat}
theorem St_nodup (L : List Str) (bs : List Bool) : (St L bs).Nodup := List.Nodup.sublist List.filter_sublist List.nodup_range
theorem in_o2 {s : Nat} (h : s ∈ o2 L t o) : s ∈ o ∧ ∃ j, nxt L s = some j ∧ t < j := by
  obtain ⟨h1, h2⟩ := List.mem_filter.mp h
  refine ⟨h1, ?_⟩
  unfold past at h2
  split at h2
  · rename_i j e
    exact ⟨j, e, of_decide_eq_true h2⟩
  · cases h2
/-- behind the dropping -/
theorem o3_is (g : GI L m t k o) (m1 : 1 ≤ m) : (∀ s ∈ o3 L m t o, s ∈ o2 L t o) ∧ (o3 L m t o).Nodup ∧ (o3 L m t o).length < m ∧ (∀ q : Nat → Bool, (o3 L m t o).countP q ≤ (o2 L t o).countP q) ∧
    (o3 L m t o = o2 L t o ∨ ((o2 L t o).length = m ∧ ∃ s, s ∈ o2 L t o ∧ o3 L m t o = (o2 L t o).erase s ∧ ∀ x ∈ o2 L t o, (nxt L x).getD 0 ≤ (nxt L s).getD 0)) := by
  have n2 : (o2 L t o).Nodup := List.Nodup.sublist List.filter_sublist g.no
  have l2 : (o2 L t o).length ≤ m := Nat.le_trans (List.length_filter_le _ _) g.lo
  unfold o3
  by_cases c : (o2 L t o).length = m
  · rw [if_pos c]
    obtain ⟨s, hs, e, _, top⟩ := drop_is (L := L) (o := o2 L t o) (by omega)
    rw [e]
    have le := List.length_erase_of_mem hs
    refine ⟨fun x hx => List.mem_of_mem_erase hx, n2.erase s, by omega, fun q => ?_, .inr ⟨c, s, hs, rfl, top⟩⟩
    exact List.Sublist.countP_le List.erase_sublist
  · rw [if_neg c]
    exact ⟨fun _ h => h, n2, by omega, fun _ => Nat.le_refl _, .inl rfl⟩
theorem o4_count {q : Nat → Bool} : (o4 L m t o).countP q = (o3 L m t o).countP q + (if (nxt L t).isSome = true ∧ q t = true then 1 else 0) := by
  unfold o4
  by_cases c : (nxt L t).isSome = true
  · rw [if_pos c, List.countP_append]
    congr 1
    simp [List.countP_cons, c]
  · rw [if_neg c, if_neg (fun z => c z.1)]
    rfl
theorem ended_none {σ : Nat} (h : (nxt L t).isSome = false) : ended L σ t = false := by
  unfold ended
  cases e : nxt L t with
  | none => rfl
  | some j => rw [e] at h; cases h
theorem gi_step (ht : t < L.length) (m1 : 1 ≤ m) (g : GI L m t k o) : GI L m (t + 1) (k ++ o.filter (endAt L t)) (o4 L m t o) := by
  have pe : ∀ s ∈ o, past L t s = !endAt L t s := fun s hs => by
    obtain ⟨_, j, e, h⟩ := g.ho s hs
    unfold past endAt
    rw [e]
    by_cases c : j = t
    · subst c; simp
    · have : t < j := by omega
      simp [this, c]
  have split : ∀ q : Nat → Bool, o.countP q = (o.filter (endAt L t)).countP q + (o2 L t o).countP q := fun q => cp_split pe
  have m1' : ∀ s ∈ o.filter (endAt L t), s < t ∧ nxt L s = some t := fun s hs => by
    obtain ⟨h1, h2⟩ := List.mem_filter.mp hs
    exact ⟨(g.ho s h1).1, of_decide_eq_true h2⟩
  obtain ⟨q1, q2, q3, q4, q5⟩ := o3_is g m1
  have m3 : ∀ s ∈ o3 L m t o, s < t ∧ ∃ j, nxt L s = some j ∧ t < j := fun s hs => by
    obtain ⟨h1, h2⟩ := in_o2 (q1 s hs)
    exact ⟨(g.ho s h1).1, h2⟩
  have mt : (nxt L t).isSome = true → ∃ j, nxt L t = some j ∧ t < j := fun h => by
    obtain ⟨j, e⟩ := Option.isSome_iff_exists.mp h
    exact ⟨j, e, (nxt_spec e).1⟩
  have m4 : ∀ s ∈ o4 L m t o, s ∈ o3 L m t o ∨ (s = t ∧ (nxt L t).isSome = true) := fun s hs => by
    unfold o4 at hs
    split at hs
    · rename_i c
      rcases List.mem_append.mp hs with h | h
      · exact .inl h
      · exact .inr ⟨List.mem_singleton.mp h, c⟩
    · exact .inl hs
  refine ⟨fun s hs => ?_, fun s hs => ?_, ?_, ?_, ?_, fun τ hτ => ?_, fun bs hf σ hσ => ?_⟩
  · rcases m4 s hs with h | ⟨rfl, h⟩
    · obtain ⟨a, j, e, b⟩ := m3 s h
      exact ⟨by omega, j, e, b⟩
    · obtain ⟨j, e, b⟩ := mt h
      exact ⟨by omega, j, e, b⟩
  · rcases List.mem_append.mp hs with h | h
    · obtain ⟨a, j, e, b⟩ := g.hk s h
      exact ⟨by omega, j, e, by omega⟩
    · obtain ⟨a, e⟩ := m1' s h
      exact ⟨by omega, t, e, by omega⟩
  · unfold o4
    split
    · refine List.nodup_append.mpr ⟨q2, by simp, fun a ha b hb z => ?_⟩
      have := (m3 a ha).1
      rw [List.mem_singleton] at hb
      omega
    · exact q2
  · refine List.nodup_append.mpr ⟨g.nk, List.Nodup.sublist List.filter_sublist g.no, fun a ha b hb z => ?_⟩
    subst z
    obtain ⟨_, j, e, h⟩ := g.hk a ha
    obtain ⟨_, e2⟩ := m1' a hb
    rw [e] at e2
    cases e2
    omega
  · unfold o4
    split
    · rw [List.length_append, List.length_singleton]
      omega
    · omega
  · have f3 : (o4 L m t o).countP (ov L τ) = (o3 L m t o).countP (ov L τ) := by
      rw [o4_count, if_neg]
      · rfl
      · rintro ⟨_, z⟩
        unfold ov at z
        split at z
        · simp only [Bool.and_eq_true, decide_eq_true_eq] at z
          omega
        · cases z
    rw [List.countP_append, List.countP_append, f3]
    by_cases c : τ = t
    · subst c
      have z1 : k.countP (ov L τ) = 0 := cp_zero fun s hs => by
        obtain ⟨_, j, e, h⟩ := g.hk s hs
        unfold ov
        rw [e]
        simp
        omega
      have z2 : (o.filter (endAt L τ)).countP (ov L τ) = 0 := cp_zero fun s hs => by
        obtain ⟨_, e⟩ := m1' s hs
        unfold ov
        rw [e]
        simp
      have z3 : (o3 L m τ o).countP (ov L τ) ≤ (o3 L m τ o).length := List.countP_le_length
      omega
    · have f := g.fe τ (by omega)
      rw [List.countP_append, split] at f
      have := q4 (ov L τ)
      omega
  · have key : (St L bs).countP (fun i => decide (i < t) && ended L σ i) ≤ k.countP (ended L σ) + (o.filter (endAt L t)).countP (ended L σ) + (o3 L m t o).countP (ended L σ) := by
      have ih := g.op bs hf σ (by omega)
      rw [List.countP_append, split] at ih
      rcases q5 with c | ⟨c, s, hs, e3, top⟩
      · rw [c]
        omega
      · have pm := (List.perm_cons_erase hs).countP_eq (ended L σ)
        rw [List.countP_cons, ← e3] at pm
        by_cases d : ended L σ s = true
        · rw [if_pos d] at pm
          obtain ⟨hs1, E, eE, hE⟩ := in_o2 hs
          have dE : E ≤ σ := by
            unfold ended at d
            rw [eE] at d
            exact of_decide_eq_true d
          have a2 : (o2 L t o).countP (ended L σ) = (o2 L t o).length := cp_all fun x hx => by
            obtain ⟨_, j, e, _⟩ := in_o2 hx
            have := top x hx
            rw [e, eE] at this
            unfold ended
            rw [e]
            exact decide_eq_true (Nat.le_trans this dE)
          have ak : k.countP (ended L σ) = k.length := cp_all fun x hx => by
            obtain ⟨_, j, e, h⟩ := g.hk x hx
            unfold ended
            rw [e]
            exact decide_eq_true (by omega)
          have a1 : (o.filter (endAt L t)).countP (ended L σ) = (o.filter (endAt L t)).length := cp_all fun x hx => by
            obtain ⟨_, e⟩ := m1' x hx
            unfold ended
            rw [e]
            exact decide_eq_true (by omega)
          have le1 : (St L bs).countP (fun i => decide (i < t) && ended L σ i) ≤ (St L bs).countP (fun i => decide (i < t) && ended L t i) + (St L bs).countP (ov L t) := cp_or fun x hx hq => by
            rw [Bool.and_eq_true] at hq
            obtain ⟨h1, h2⟩ := hq
            unfold ended at h2 ⊢
            unfold ov
            cases e : nxt L x with
            | none => rw [e] at h2; cases h2
            | some j =>
              by_cases c2 : j ≤ t
              · left
                simp [h1, c2]
              · right
                have := of_decide_eq_true h1
                simp only [Bool.and_eq_true, decide_eq_true_eq]
                omega
          have le2 : (St L bs).countP (ov L t) < m := by
            unfold fitsB at hf
            rw [Bool.and_eq_true] at hf
            have := List.all_eq_true.mp hf.2 t (List.mem_range.mpr ht)
            have := of_decide_eq_true this
            unfold cnt at this
            rw [← List.countP_eq_length_filter] at this
            omega
          have le3 := g.op bs hf t (Nat.le_refl _)
          rw [List.countP_append, split] at le3
          have z2 : (o2 L t o).countP (ended L t) = 0 := cp_zero fun x hx => by
            obtain ⟨_, j, e, h⟩ := in_o2 hx
            unfold ended
            rw [e]
            exact decide_eq_false (by omega)
          have l1 : k.countP (ended L t) ≤ k.length := List.countP_le_length
          have l2 : (o.filter (endAt L t)).countP (ended L t) ≤ (o.filter (endAt L t)).length := List.countP_le_length
          omega
        · rw [if_neg d] at pm
          omega
    have le : (St L bs).countP (fun i => decide (i < t + 1) && ended L σ i) ≤ (St L bs).countP (fun i => decide (i < t) && ended L σ i) + (St L bs).countP (fun i => decide (i = t) && ended L σ i) := cp_or fun x _ hq => by
      rw [Bool.and_eq_true] at hq
      obtain ⟨h1, h2⟩ := hq
      have h1 := of_decide_eq_true h1
      rcases Nat.lt_or_ge x t with z | z
      · left
        simp [z, h2]
      · right
        simp [show x = t by omega]
        rw [show t = x by omega]
        exact h2
    have one : (St L bs).countP (fun i => decide (i = t) && ended L σ i) ≤ if ended L σ t = true then 1 else 0 := by
      split
      · refine Nat.le_trans ?_ (cp_one (t := t) (St_nodup L bs))
        refine List.countP_mono_left fun x _ hx => ?_
        rw [Bool.and_eq_true] at hx
        exact hx.1
      · rename_i d
        rw [cp_zero fun x _ => ?_]
        exact Nat.le_refl _
        by_cases c : x = t
        · subst c
          simp [show ended L σ x = false by simpa using d]
        · simp [c]
    rw [List.countP_append, List.countP_append, o4_count]
    have e1 : (if (nxt L t).isSome = true ∧ ended L σ t = true then 1 else 0) = if ended L σ t = true then 1 else 0 := by
      by_cases c : (nxt L t).isSome = true
      · simp [c]
      · have := ended_none (L := L) (t := t) (σ := σ) (by simpa using c)
        simp [this]
    omega
theorem gi_run (m1 : 1 ≤ m) : ∀ t, t ≤ L.length → GI L m t (run L m t).1 (run L m t).2
  | 0, _ => ⟨fun s h => by simp [run] at h, fun s h => by simp [run] at h, by simp [run], by simp [run], by simp [run], fun τ h => by omega, fun bs hf σ _ => by
      rw [cp_zero fun x _ => by simp]
      exact Nat.zero_le _⟩
  | t + 1, h => gi_step (by omega) m1 (gi_run m1 t (by omega))
end
end K75

set_option Elab.async false
set_option linter.all false
set_option maxRecDepth 100000
set_option maxHeartbeats 4000000
/-! At the end: a way that fits, and no way that fits keeps more. -/
namespace K75
open PySem PySem.Spec PyProof.Rows L2 GX StX DL
def kp (L : List Str) (m : Nat) : List Nat := (run L m L.length).1
def GN (L : List Str) (m : Nat) : Nat := (kp L m).length
def gB (L : List Str) (m : Nat) : List Bool := (List.range L.length).map fun i => decide (i ∈ kp L m)
section
variable {L : List Str} {m : Nat}
theorem gB_len : (gB L m).length = L.length := by simp [gB]
theorem gB_at {i : Nat} (h : i < L.length) : (gB L m).getD i false = decide (i ∈ kp L m) := by simp [gB, List.getD, h]
theorem end_empty (m1 : 1 ≤ m) : (run L m L.length).2 = [] := by
  have g := gi_run (L := L) m1 L.length (Nat.le_refl _)
  cases e : (run L m L.length).2 with
  | nil => rfl
  | cons s r =>
    obtain ⟨_, j, ej, h⟩ := g.ho s (by rw [e]; exact List.mem_cons_self)
    have := (nxt_spec ej).2.1
    omega
theorem St_gB (m1 : 1 ≤ m) : (St L (gB L m)).Perm (kp L m) := by
  have g := gi_run (L := L) m1 L.length (Nat.le_refl _)
  refine (List.perm_ext_iff_of_nodup (St_nodup _ _) g.nk).mpr fun a => ?_
  unfold St
  rw [List.mem_filter, List.mem_range]
  constructor
  · rintro ⟨h1, h2⟩
    rw [gB_at h1] at h2
    exact of_decide_eq_true h2
  · intro h
    have h1 := (g.hk a h).1
    rw [gB_at h1]
    exact ⟨h1, decide_eq_true h⟩
theorem g_fits (m1 : 1 ≤ m) : fitsB L m (gB L m) = true := by
  have g := gi_run (L := L) m1 L.length (Nat.le_refl _)
  have p := St_gB (L := L) m1
  have ee := end_empty (L := L) m1
  unfold fitsB
  rw [Bool.and_eq_true]
  constructor
  · unfold allN
    rw [List.all_eq_true]
    intro x hx
    obtain ⟨_, j, e, _⟩ := g.hk x (p.mem_iff.mp hx)
    rw [e]
    rfl
  · rw [List.all_eq_true]
    intro t ht
    rw [List.mem_range] at ht
    refine decide_eq_true ?_
    have f := g.fe t ht
    rw [ee, List.append_nil] at f
    unfold cnt
    rw [← List.countP_eq_length_filter, p.countP_eq]
    exact Int.ofNat_lt.mpr f
/-- no way that fits keeps more -/
theorem g_best (m1 : 1 ≤ m) {bs : List Bool} (h : fitsB L m bs = true) : (St L bs).length ≤ GN L m := by
  have g := gi_run (L := L) m1 L.length (Nat.le_refl _)
  have f := g.op bs h L.length (Nat.le_refl _)
  rw [end_empty m1, List.append_nil] at f
  have a : (St L bs).countP (fun i => decide (i < L.length) && ended L L.length i) = (St L bs).length := cp_all fun s hs => by
    have h1 := St_mem hs
    unfold fitsB at h
    rw [Bool.and_eq_true] at h
    have h2 := List.all_eq_true.mp h.1 s hs
    obtain ⟨j, e⟩ := Option.isSome_iff_exists.mp h2
    have := (nxt_spec e).2.1
    unfold ended
    rw [e]
    simp only [Bool.and_eq_true, decide_eq_true_eq]
    omega
  have b : (run L m L.length).1.countP (ended L L.length) ≤ (run L m L.length).1.length := List.countP_le_length
  unfold GN kp
  omega
theorem GN_le (m1 : 1 ≤ m) : GN L m ≤ L.length := by
  have p := (St_gB (L := L) m1).length_eq
  have q : (St L (gB L m)).length ≤ L.length := by
    have := List.length_filter_le (fun i => (gB L m).getD i false) (List.range L.length)
    rw [List.length_range] at this
    exact this
  unfold GN
  omega
end
theorem count_St : ∀ (bs : List Bool), bs.countP (fun b => b) = ((List.range bs.length).filter fun i => bs.getD i false).length
  | [] => rfl
  | b :: bs => by
    rw [List.length_cons, List.range_succ_eq_map, List.filter_cons, List.countP_cons, count_St bs, List.filter_map, ]
    cases b <;> simp [Function.comp_def]
theorem count_t {L : List Str} {bs : List Bool} (h : bs.length = L.length) : bs.countP (fun b => b) = (St L bs).length := by
  rw [count_St bs, h]
  rfl
theorem count_f : ∀ bs : List Bool, bs.countP (fun b => !b) = bs.length - bs.countP (fun b => b)
  | [] => rfl
  | b :: bs => by
    have := count_f bs
    have le : bs.countP (fun b => b) ≤ bs.length := List.countP_le_length
    cases b <;> simp [List.countP_cons] at this ⊢ <;> omega
theorem gB_false {L : List Str} {m : Nat} (m1 : 1 ≤ m) : (gB L m).countP (fun b => !b) = L.length - GN L m := by
  rw [count_f, gB_len, count_t gB_len, (St_gB (L := L) m1).length_eq]
  rfl
theorem gB_true {L : List Str} {m : Nat} (m1 : 1 ≤ m) : (gB L m).countP (fun b => b) = GN L m := by
  rw [count_t gB_len, (St_gB (L := L) m1).length_eq]
  rfl
end K75

set_option Elab.async false
set_option linter.all false
set_option maxRecDepth 100000
set_option maxHeartbeats 4000000
/-! Weights: times that hit the spans. The greedy keeping and some such times meet; no such times are under it. -/
namespace K75
open PySem PySem.Spec PyProof.Rows L2 GX StX DL
/-- whether one of these times is within the span -/
def hit (L : List Str) (T : List Nat) (i : Nat) : Bool := T.any fun x => ov L x i
/-- the spans that begin before t, end by σ and are not hit -/
def unh (L : List Str) (T : List Nat) (σ t : Nat) : Nat := (List.range t).countP fun i => ended L σ i && !hit L T i
section
variable {L : List Str} {m t : Nat} {k o : List Nat}
theorem ov_iff {x i : Nat} : ov L x i = true ↔ i < x ∧ ∃ j, nxt L i = some j ∧ x < j := by
  unfold ov
  cases e : nxt L i with
  | none => simp
  | some j => simp
theorem ended_iff {σ i : Nat} : ended L σ i = true ↔ ∃ j, nxt L i = some j ∧ j ≤ σ := by
  unfold ended
  cases e : nxt L i with
  | none => simp
  | some j => simp
theorem hit_iff {T : List Nat} {i : Nat} : hit L T i = true ↔ ∃ x ∈ T, ov L x i = true := by
  unfold hit
  rw [List.any_eq_true]
theorem unh_succ (T : List Nat) (σ t : Nat) : unh L T σ (t + 1) = unh L T σ t + if (ended L σ t && !hit L T t) = true then 1 else 0 := by
  unfold unh
  rw [List.range_succ, List.countP_append, List.countP_singleton]
def Ch (T : List Nat) (t : Nat) : Prop := T.Pairwise (fun a b => b < a) ∧ ∀ x ∈ T, x < t
theorem Ch.up {T : List Nat} {t u : Nat} (h : Ch T t) (l : t ≤ u) : Ch T u := ⟨h.1, fun x hx => Nat.lt_of_lt_of_le (h.2 x hx) l⟩
theorem Ch.cons {T : List Nat} {s t : Nat} (h : Ch T s) (l : s < t) : Ch (s :: T) t := by
  refine ⟨List.pairwise_cons.mpr ⟨fun x hx => h.2 x hx, h.1⟩, fun x hx => ?_⟩
  rcases List.mem_cons.mp hx with z | z
  · omega
  · exact Nat.lt_trans (h.2 x z) l
theorem Ch.tail {T : List Nat} {s t : Nat} (h : Ch (s :: T) t) : s < t ∧ Ch T s := by
  obtain ⟨h1, h2⟩ := h
  rw [List.pairwise_cons] at h1
  exact ⟨h2 s List.mem_cons_self, h1.2, fun x hx => h1.1 x hx⟩
/-- some times and the greedy meet, at each moment, for each later moment -/
def Du (L : List Str) (m t : Nat) (k o : List Nat) : Prop := ∀ σ, t ≤ σ → ∃ T, Ch T t ∧ (m - 1) * T.length + unh L T σ t ≤ (k ++ o).countP (ended L σ)
theorem du_step (ht : t < L.length) (m1 : 1 ≤ m) (g : GI L m t k o) (D : Du L m t k o) : Du L m (t + 1) (k ++ o.filter (endAt L t)) (o4 L m t o) := by
  intro σ hσ
  have pe : ∀ s ∈ o, past L t s = !endAt L t s := fun s hs => by
    obtain ⟨_, j, e, h⟩ := g.ho s hs
    unfold past endAt
    rw [e]
    by_cases c : j = t
    · subst c; simp
    · have : t < j := by omega
      simp [this, c]
  have split : ∀ q : Nat → Bool, o.countP q = (o.filter (endAt L t)).countP q + (o2 L t o).countP q := fun q => cp_split pe
  have m1' : ∀ s ∈ o.filter (endAt L t), s < t ∧ nxt L s = some t := fun s hs => by
    obtain ⟨h1, h2⟩ := List.mem_filter.mp hs
    exact ⟨(g.ho s h1).1, of_decide_eq_true h2⟩
  obtain ⟨q1, q2, q3, q4, q5⟩ := o3_is g m1
  have e1 : (if (nxt L t).isSome = true ∧ ended L σ t = true then 1 else 0) = if ended L σ t = true then 1 else 0 := by
    by_cases c : (nxt L t).isSome = true
    · simp [c]
    · have := ended_none (L := L) (t := t) (σ := σ) (by simpa using c)
      simp [this]
  have last : ∀ T, (if (ended L σ t && !hit L T t) = true then 1 else 0) ≤ if ended L σ t = true then 1 else 0 := fun T => by
    cases ended L σ t <;> cases hit L T t <;> simp
  by_cases keep : (o3 L m t o).countP (ended L σ) = (o2 L t o).countP (ended L σ)
  · obtain ⟨T, c, h⟩ := D σ (by omega)
    refine ⟨T, c.up (by omega), ?_⟩
    have l := last T
    rw [unh_succ, List.countP_append, List.countP_append, o4_count, e1]
    rw [List.countP_append, split] at h
    omega
  · rcases q5 with c | ⟨c, s, hs, e3, top⟩
    · exact (keep (by rw [c])).elim
    · have pm := (List.perm_cons_erase hs).countP_eq (ended L σ)
      rw [List.countP_cons, ← e3] at pm
      have d : ended L σ s = true := by
        by_cases d : ended L σ s = true
        · exact d
        · rw [if_neg d] at pm
          exact (keep (by omega)).elim
      rw [if_pos d] at pm
      obtain ⟨hs1, E, eE, hE⟩ := in_o2 hs
      have dE : E ≤ σ := by
        obtain ⟨j, e, h⟩ := ended_iff.mp d
        rw [eE] at e
        cases e
        exact h
      have a2 : (o2 L t o).countP (ended L σ) = (o2 L t o).length := cp_all fun x hx => by
        obtain ⟨_, j, e, _⟩ := in_o2 hx
        have := top x hx
        rw [e, eE] at this
        exact ended_iff.mpr ⟨j, e, Nat.le_trans this dE⟩
      have ak : k.countP (ended L σ) = k.length := cp_all fun x hx => by
        obtain ⟨_, j, e, h⟩ := g.hk x hx
        exact ended_iff.mpr ⟨j, e, by omega⟩
      have a1 : (o.filter (endAt L t)).countP (ended L σ) = (o.filter (endAt L t)).length := cp_all fun x hx => by
        obtain ⟨_, e⟩ := m1' x hx
        exact ended_iff.mpr ⟨t, e, by omega⟩
      obtain ⟨T, ch, h⟩ := D t (Nat.le_refl _)
      rw [List.countP_append, split] at h
      have z2 : (o2 L t o).countP (ended L t) = 0 := cp_zero fun x hx => by
        obtain ⟨_, j, e, h⟩ := in_o2 hx
        unfold ended
        rw [e]
        exact decide_eq_false (by omega)
      have l1 : k.countP (ended L t) ≤ k.length := List.countP_le_length
      have l2 : (o.filter (endAt L t)).countP (ended L t) ≤ (o.filter (endAt L t)).length := List.countP_le_length
      refine ⟨t :: T, ch.cons (by omega), ?_⟩
      have mono : unh L (t :: T) σ t ≤ unh L T t t := by
        unfold unh
        refine List.countP_mono_left fun i hi hq => ?_
        rw [List.mem_range] at hi
        rw [Bool.and_eq_true, Bool.not_eq_true'] at hq ⊢
        obtain ⟨h1, h2⟩ := hq
        have h3 : ¬ (ov L t i = true ∨ hit L T i = true) := fun z => by
          have : hit L (t :: T) i = true := by
            rcases z with z | z
            · exact hit_iff.mpr ⟨t, List.mem_cons_self, z⟩
            · obtain ⟨x, hx, q⟩ := hit_iff.mp z
              exact hit_iff.mpr ⟨x, List.mem_cons_of_mem _ hx, q⟩
          rw [h2] at this
          cases this
        obtain ⟨j, ej, hj⟩ := ended_iff.mp h1
        refine ⟨ended_iff.mpr ⟨j, ej, ?_⟩, ?_⟩
        · refine Nat.le_of_not_lt fun z => h3 (.inl (ov_iff.mpr ⟨hi, j, ej, z⟩))
        · cases z : hit L T i
          · rfl
          · exact (h3 (.inr z)).elim
      have l := last (t :: T)
      have mm : (m - 1) * (t :: T).length = (m - 1) * T.length + (m - 1) := by rw [List.length_cons, Nat.mul_add, Nat.mul_one]
      rw [unh_succ, List.countP_append, List.countP_append, o4_count, e1, mm]
      omega
theorem du_run (m1 : 1 ≤ m) : ∀ t, t ≤ L.length → Du L m t (run L m t).1 (run L m t).2
  | 0, _ => fun σ _ => ⟨[], ⟨.nil, fun x hx => by simp at hx⟩, by simp [run, unh]⟩
  | t + 1, h => du_step (by omega) m1 (gi_run m1 t (by omega)) (du_run m1 t (by omega))
/-- some times come up to the greedy -/
theorem dual (m1 : 1 ≤ m) : ∃ T, Ch T L.length ∧ (m - 1) * T.length + unh L T L.length L.length ≤ GN L m := by
  obtain ⟨T, c, h⟩ := du_run (L := L) m1 L.length (Nat.le_refl _) L.length (Nat.le_refl _)
  refine ⟨T, c, Nat.le_trans h ?_⟩
  rw [end_empty m1, List.append_nil]
  exact List.countP_le_length
/-- none are under it -/
theorem weak (m1 : 1 ≤ m) (T : List Nat) (hT : ∀ x ∈ T, x < L.length) : GN L m ≤ (m - 1) * T.length + unh L T L.length L.length := by
  have g := gi_run (L := L) m1 L.length (Nat.le_refl _)
  have ee := end_empty (L := L) m1
  have one : ∀ T : List Nat, (∀ x ∈ T, x < L.length) → (kp L m).countP (hit L T) ≤ (m - 1) * T.length := by
    intro T
    induction T with
    | nil => intro _; rw [cp_zero fun s _ => by simp [hit]]; exact Nat.zero_le _
    | cons x T ih =>
      intro h
      have f := g.fe x (h x List.mem_cons_self)
      rw [ee, List.append_nil] at f
      have i := ih fun y hy => h y (List.mem_cons_of_mem _ hy)
      have c : (kp L m).countP (hit L (x :: T)) ≤ (kp L m).countP (ov L x) + (kp L m).countP (hit L T) := cp_or fun s _ hs => by
        obtain ⟨y, hy, q⟩ := hit_iff.mp hs
        rcases List.mem_cons.mp hy with z | z
        · subst z; exact .inl q
        · exact .inr (hit_iff.mpr ⟨y, z, q⟩)
      have mm : (m - 1) * (x :: T).length = (m - 1) * T.length + (m - 1) := by rw [List.length_cons, Nat.mul_add, Nat.mul_one]
      unfold kp at c i ⊢
      omega
  have a : (kp L m).countP (fun _ => true) ≤ (kp L m).countP (hit L T) + (kp L m).countP (fun i => ended L L.length i && !hit L T i) := cp_or fun s hs _ => by
    obtain ⟨_, j, e, h⟩ := g.hk s hs
    by_cases c : hit L T s = true
    · exact .inl c
    · right
      rw [Bool.and_eq_true]
      exact ⟨ended_iff.mpr ⟨j, e, by omega⟩, by simpa using c⟩
  have b : (kp L m).countP (fun i => ended L L.length i && !hit L T i) ≤ unh L T L.length L.length := by
    rw [← (St_gB (L := L) m1).countP_eq]
    unfold St unh
    exact List.Sublist.countP_le List.filter_sublist
  have l : (kp L m).countP (fun _ => true) = GN L m := cp_all fun _ _ => rfl
  have := one T hT
  omega
end
end K75

set_option Elab.async false
set_option linter.all false
set_option maxRecDepth 100000
set_option maxHeartbeats 4000000
/-! The cheapest times, by least costs from time to time. -/
namespace K75
open PySem PySem.Spec PyProof.Rows L2 GX StX DL
/-- the spans within two times -/
def mis (L : List Str) (a t : Nat) : Nat := (List.range t).countP fun b => decide (a ≤ b) && ended L t b
def vv (L : List Str) (p : Nat) : List Nat → Nat → Nat
  | [], t => mis L 0 t
  | s :: S, t => mis L s t + p + vv L p S s
theorem range_lt (q : Nat → Bool) : ∀ (t s : Nat), s ≤ t → (List.range t).countP (fun b => decide (b < s) && q b) = (List.range s).countP q
  | 0, s, h => by rw [Nat.le_zero.mp h]; rfl
  | t + 1, s, h => by
    rw [List.range_succ, List.countP_append, List.countP_singleton]
    by_cases c : s ≤ t
    · rw [range_lt q t s c, if_neg (by simp; omega)]
      rfl
    · have e : s = t + 1 := by omega
      subst e
      rw [List.range_succ, List.countP_append, List.countP_singleton]
      congr 1
      · refine List.countP_congr fun b hb => ?_
        rw [List.mem_range] at hb
        simp
        omega
      · simp
section
variable {L : List Str} {p : Nat}
theorem cp_add {α : Type} (q r : α → Bool) : ∀ l : List α, l.countP q = l.countP (fun a => q a && r a) + l.countP (fun a => q a && !r a)
  | [] => rfl
  | a :: l => by
    rw [List.countP_cons, List.countP_cons, List.countP_cons, cp_add q r l]
    cases q a <;> cases r a <;> simp <;> omega
theorem vv_is : ∀ (S : List Nat) (t : Nat), Ch S t → vv L p S t = p * S.length + unh L S t t
  | [], t, _ => by
    unfold vv mis unh
    simp [hit]
  | s :: S, t, c => by
    obtain ⟨ls, cs⟩ := c.tail
    unfold vv
    rw [vv_is S s cs]
    have e : unh L (s :: S) t t = mis L s t + unh L S s s := by
      unfold unh mis
      rw [cp_add _ (fun b => decide (s ≤ b)) (List.range t)]
      congr 1
      · refine List.countP_congr fun b hb => ?_
        by_cases c : s ≤ b
        · have : hit L (s :: S) b = false := by
            cases z : hit L (s :: S) b
            · rfl
            · obtain ⟨x, hx, q⟩ := hit_iff.mp z
              have := (ov_iff.mp q).1
              rcases List.mem_cons.mp hx with y | y
              · omega
              · have := cs.2 x y
                omega
          simp [this, c]
        · simp [c]
      · rw [← range_lt _ t s (by omega)]
        refine List.countP_congr fun b hb => ?_
        by_cases c : s ≤ b
        · have nb : ¬ b < s := by omega
          simp [c, nb]
        · have lb : b < s := by omega
          have e1 : (ended L t b && !hit L (s :: S) b) = (ended L s b && !hit L S b) := by
            have h : hit L (s :: S) b = (ov L s b || hit L S b) := by unfold hit; rw [List.any_cons]
            rw [h]
            unfold ended ov
            cases e : nxt L b with
            | none => rfl
            | some j =>
              by_cases c1 : j ≤ s
              · have c2 : j ≤ t := by omega
                have c3 : ¬ s < j := by omega
                simp [c1, c2, c3]
              · have c3 : s < j := by omega
                simp [c1, c3, lb]
          rw [e1]
          simp [c, lb]
    rw [e, List.length_cons, Nat.mul_add, Nat.mul_one]
    omega
/-! ### the table -/
def Cb (p : Nat) (f : Nat → Int × Int) (b : Int) : Int := if b < 0 then 0 else (f b.toNat).1 + p
def bq (t q : Nat) : Int := (t : Int) - 1 - (q : Int)
def off (L : List Str) (p : Nat) (f : Nat → Int × Int) (t q : Nat) : Int × Int := (Cb p f (bq t q) + (mis L (bq t q).toNat t : Nat), bq t q)
def offs (L : List Str) (p : Nat) (f : Nat → Int × Int) (t k : Nat) : List (Int × Int) := (List.range k).map (off L p f t)
def minL : List (Int × Int) → Int × Int
  | [] => (0, 0)
  | x :: xs => minPs x xs
def tb (L : List Str) (p : Nat) : Nat → Nat → Int × Int
  | 0, _ => (0, 0)
  | t + 1, j => if j = t then minL (offs L p (tb L p t) t (t + 1)) else tb L p t j
def En (L : List Str) (p j : Nat) : Int × Int := tb L p (j + 1) j
theorem tb_lt : ∀ {t j : Nat}, j < t → tb L p t j = En L p j
  | 0, j, h => by omega
  | t + 1, j, h => by
    by_cases c : j = t
    · subst c; rfl
    · have e : tb L p (t + 1) j = tb L p t j := by
        show (if j = t then _ else _) = _
        rw [if_neg c]
      rw [e, tb_lt (by omega)]
theorem off_congr {f g : Nat → Int × Int} {t q : Nat} (h : ∀ j, j < t → f j = g j) : off L p f t q = off L p g t q := by
  unfold off Cb
  by_cases c : bq t q < 0
  · rw [if_pos c, if_pos c]
  · rw [if_neg c, if_neg c, h _ (by unfold bq at c ⊢; omega)]
theorem En_is (t : Nat) : En L p t = minL (offs L p (En L p) t (t + 1)) := by
  unfold En
  show (if t = t then minL (offs L p (tb L p t) t (t + 1)) else _) = _
  rw [if_pos rfl]
  congr 1
  unfold offs
  refine List.map_congr_left fun q _ => ?_
  exact off_congr fun j h => tb_lt h
theorem min_spec : ∀ (xs : List (Int × Int)) (x : Int × Int), (minPs x xs = x ∨ minPs x xs ∈ xs) ∧ (minPs x xs).1 ≤ x.1 ∧ ∀ y ∈ xs, (minPs x xs).1 ≤ y.1
  | [], x => ⟨.inl rfl, Int.le_refl _, fun y hy => by simp at hy⟩
  | z :: xs, x => by
    unfold minPs
    rw [List.foldl_cons]
    by_cases c : ltP z x = true
    · rw [if_pos c]
      obtain ⟨h1, h2, h3⟩ := min_spec xs z
      have c := of_decide_eq_true c
      have l : z.1 ≤ x.1 := by omega
      unfold minPs at h1 h2 h3
      refine ⟨?_, by omega, fun y hy => ?_⟩
      · rcases h1 with h | h
        · rw [h]; exact .inr List.mem_cons_self
        · exact .inr (List.mem_cons_of_mem _ h)
      · rcases List.mem_cons.mp hy with h | h
        · rw [h]; exact h2
        · exact h3 y h
    · rw [if_neg c]
      obtain ⟨h1, h2, h3⟩ := min_spec xs x
      have c : ¬ (z.1 < x.1 ∨ (z.1 = x.1 ∧ z.2 < x.2)) := fun w => c (decide_eq_true w)
      have l : x.1 ≤ z.1 := by omega
      unfold minPs at h1 h2 h3
      refine ⟨?_, h2, fun y hy => ?_⟩
      · rcases h1 with h | h
        · exact .inl h
        · exact .inr (List.mem_cons_of_mem _ h)
      · rcases List.mem_cons.mp hy with h | h
        · rw [h]; omega
        · exact h3 y h
theorem En_min (t : Nat) : (∃ q, q ≤ t ∧ En L p t = off L p (En L p) t q) ∧ ∀ q, q ≤ t → (En L p t).1 ≤ (off L p (En L p) t q).1 := by
  rw [En_is]
  unfold offs
  rw [List.range_succ_eq_map, List.map_cons]
  show (∃ q, q ≤ t ∧ minPs _ _ = _) ∧ ∀ q, q ≤ t → (minPs _ _).1 ≤ _
  obtain ⟨h1, h2, h3⟩ := min_spec (List.map (off L p (En L p) t) (List.map Nat.succ (List.range t))) (off L p (En L p) t 0)
  refine ⟨?_, fun q hq => ?_⟩
  · rcases h1 with h | h
    · exact ⟨0, by omega, h⟩
    · obtain ⟨a, ha, e⟩ := List.mem_map.mp h
      obtain ⟨b, hb, rfl⟩ := List.mem_map.mp ha
      rw [List.mem_range] at hb
      exact ⟨b + 1, by omega, e.symm⟩
  · by_cases c : q = 0
    · subst c; exact h2
    · refine h3 _ (List.mem_map.mpr ⟨q, List.mem_map.mpr ⟨q - 1, List.mem_range.mpr (by omega), by omega⟩, rfl⟩)
/-- what the source of a time is -/
theorem En_src (t : Nat) : ((En L p t).2 = -1 ∧ (En L p t).1 = (mis L 0 t : Nat)) ∨ ∃ s, s < t ∧ (En L p t).2 = (s : Nat) ∧ (En L p t).1 = (En L p s).1 + p + (mis L s t : Nat) := by
  obtain ⟨q, hq, e⟩ := (En_min (L := L) (p := p) t).1
  rw [e]
  unfold off
  by_cases c : bq t q < 0
  · left
    have z : bq t q = -1 := by unfold bq at c ⊢; omega
    rw [z]
    exact ⟨rfl, by simp [Cb]⟩
  · right
    obtain ⟨s, hs⟩ : ∃ s : Nat, bq t q = (s : Int) := ⟨(bq t q).toNat, by omega⟩
    rw [hs]
    have lt : s < t := by unfold bq at hs; omega
    refine ⟨s, lt, rfl, ?_⟩
    have n0 : ¬ ((s : Int) < 0) := by omega
    show Cb p (En L p) (s : Int) + ((mis L ((s : Int)).toNat t : Nat) : Int) = _
    unfold Cb
    rw [if_neg n0, Int.toNat_natCast]
theorem En_le_nil (t : Nat) : (En L p t).1 ≤ (mis L 0 t : Nat) := by
  have h := (En_min (L := L) (p := p) t).2 t (Nat.le_refl _)
  have z : bq t t = -1 := by unfold bq; omega
  unfold off at h
  rw [z] at h
  simpa [Cb] using h
theorem En_le_cons {t s : Nat} (hs : s < t) : (En L p t).1 ≤ (En L p s).1 + p + (mis L s t : Nat) := by
  have h := (En_min (L := L) (p := p) t).2 (t - 1 - s) (by omega)
  have z : bq t (t - 1 - s) = (s : Int) := by unfold bq; omega
  unfold off at h
  rw [z] at h
  have n0 : ¬ ((s : Int) < 0) := by omega
  have e : (Cb p (En L p) (s : Int) + ((mis L ((s : Int)).toNat t : Nat) : Int)) = (En L p s).1 + p + (mis L s t : Nat) := by
    unfold Cb
    rw [if_neg n0, Int.toNat_natCast]
  rw [← e]
  exact h
theorem En_low : ∀ (S : List Nat) (t : Nat), Ch S t → (En L p t).1 ≤ (vv L p S t : Nat)
  | [], t, _ => En_le_nil t
  | s :: S, t, c => by
    obtain ⟨ls, cs⟩ := c.tail
    have := En_low S s cs
    have := En_le_cons (L := L) (p := p) ls
    unfold vv
    omega
/-- the sources, one behind the other -/
def pth (L : List Str) (p : Nat) : Nat → Nat → List Nat
  | 0, _ => []
  | f + 1, t => if (En L p t).2 < 0 then [] else (En L p t).2.toNat :: pth L p f (En L p t).2.toNat
theorem pth_succ (f t : Nat) : pth L p (f + 1) t = if (En L p t).2 < 0 then [] else (En L p t).2.toNat :: pth L p f (En L p t).2.toNat := rfl
theorem vv_cons (s : Nat) (S : List Nat) (t : Nat) : vv L p (s :: S) t = mis L s t + p + vv L p S s := rfl
theorem pth_is : ∀ (f t : Nat), t ≤ f → Ch (pth L p f t) t ∧ (En L p t).1 = (vv L p (pth L p f t) t : Nat)
  | 0, t, h => by
    have z : t = 0 := by omega
    subst z
    refine ⟨⟨.nil, fun x hx => by simp [pth] at hx⟩, ?_⟩
    rcases En_src (L := L) (p := p) 0 with ⟨_, h⟩ | ⟨s, h, _⟩
    · exact h
    · omega
  | f + 1, t, h => by
    rcases En_src (L := L) (p := p) t with ⟨e, v⟩ | ⟨s, ls, e, v⟩
    · have z : pth L p (f + 1) t = [] := by rw [pth_succ, e, if_pos (by decide)]
      rw [z]
      exact ⟨⟨.nil, fun x hx => by simp at hx⟩, v⟩
    · have z : pth L p (f + 1) t = s :: pth L p f s := by
        rw [pth_succ, e, if_neg (by omega), Int.toNat_natCast]
      rw [z]
      obtain ⟨c, w⟩ := pth_is f s (by omega)
      refine ⟨c.cons ls, ?_⟩
      rw [v, w, vv_cons]
      omega
end
/-- the weights' times -/
def TS (L : List Str) (m : Nat) : List Nat := pth L (m - 1) L.length L.length
theorem TS_ch (L : List Str) (m : Nat) : Ch (TS L m) L.length := (pth_is _ _ (Nat.le_refl _)).1
/-- their bound is the greedy's number -/
theorem TS_is {L : List Str} {m : Nat} (m1 : 1 ≤ m) : (m - 1) * (TS L m).length + unh L (TS L m) L.length L.length = GN L m := by
  have a := pth_is (L := L) (p := m - 1) L.length L.length (Nat.le_refl _)
  obtain ⟨T, c, h⟩ := dual (L := L) m1
  have b := En_low (L := L) (p := m - 1) T L.length c
  have w := weak (L := L) m1 (TS L m) (TS_ch L m).2
  rw [vv_is T _ c] at b
  have a2 := a.2
  rw [vv_is _ _ a.1] at a2
  unfold TS at w ⊢
  omega
end K75

set_option Elab.async false
set_option linter.all false
set_option maxRecDepth 100000
set_option maxHeartbeats 4000000
/-! Lines that know all requests: as many misses. -/
namespace K75
open PySem PySem.Spec PyProof.Rows L2 GX StX DL
def mxI : List Int → Int
  | [] => 0
  | n :: ns => ns.foldl max n
theorem fold_max : ∀ (ns : List Int) (n : Int), (n ≤ ns.foldl max n ∧ ∀ x ∈ ns, x ≤ ns.foldl max n) ∧ (ns.foldl max n = n ∨ ns.foldl max n ∈ ns)
  | [], n => ⟨⟨Int.le_refl _, fun x h => by simp at h⟩, .inl rfl⟩
  | a :: ns, n => by
    obtain ⟨⟨h1, h2⟩, h3⟩ := fold_max ns (max n a)
    rw [List.foldl_cons]
    refine ⟨⟨by omega, fun x hx => ?_⟩, ?_⟩
    · rcases List.mem_cons.mp hx with rfl | hx
      · omega
      · exact h2 x hx
    · rcases h3 with h3 | h3
      · rw [h3]
        rcases Int.le_total n a with z | z
        · right
          rw [Int.max_eq_right z]
          exact List.mem_cons_self
        · left
          exact Int.max_eq_left z
      · exact .inr (List.mem_cons_of_mem _ h3)
theorem mxI_top {rs : List Int} {x : Int} (h : x ∈ rs) : x ≤ mxI rs := by
  cases rs with
  | nil => simp at h
  | cons n ns =>
    obtain ⟨⟨h1, h2⟩, _⟩ := fold_max ns n
    rcases List.mem_cons.mp h with rfl | h
    · exact h1
    · exact h2 x h
theorem mxI_mem {rs : List Int} (h : 0 < rs.length) : mxI rs ∈ rs := by
  cases rs with
  | nil => simp at h
  | cons n ns =>
    obtain ⟨_, h3⟩ := fold_max ns n
    rcases h3 with h3 | h3
    · show ns.foldl max n ∈ _
      rw [h3]
      exact List.mem_cons_self
    · exact List.mem_cons_of_mem _ h3
/-- the place of the first greatest one -/
def mi (rs : List Int) : Nat := rs.findIdx fun x => decide (x = mxI rs)
theorem mi_is {rs : List Int} (h : 0 < rs.length) : ∃ hi : mi rs < rs.length, rs[mi rs] = mxI rs := by
  have hi : mi rs < rs.length := List.findIdx_lt_length.mpr ⟨_, mxI_mem h, decide_eq_true rfl⟩
  exact ⟨hi, of_decide_eq_true (List.findIdx_getElem (w := hi))⟩
def rest (L : List Str) (t : Nat) (w : Str) : Int := match fo L t w with
  | some j => ((j - t : Nat) : Int)
  | none => (L.length : Nat)
def dropH (L : List Str) (t : Nat) (h : List Str) : List Str := h.eraseIdx (mi (h.map (rest L t)))
def stepH (L : List Str) (m t : Nat) (h : List Str) : List Str := if L.getD t "" ∈ h then h else (if h.length = m then dropH L t h else h) ++ [L.getD t ""]
def stepM (L : List Str) (t : Nat) (h : List Str) (n : Nat) : Nat := if L.getD t "" ∈ h then n else n + 1
def runH (L : List Str) (m : Nat) : Nat → List Str × Nat
  | 0 => ([], 0)
  | t + 1 => (stepH L m t (runH L m t).1, stepM L t (runH L m t).1 (runH L m t).2)
def live (L : List Str) (t : Nat) (x : Str) : Bool := (fo L t x).isSome
structure FI (L : List Str) (m t : Nat) (h : List Str) (n : Nat) (k o : List Nat) : Prop where
  nd : h.Nodup
  len : h.length ≤ m
  mem : ∀ x, (x ∈ h ∧ live L t x = true) ↔ ∃ s ∈ o, L.getD s "" = x
  ms : n + k.length = t
section
variable {L : List Str} {m t n : Nat} {h : List Str} {k o : List Nat}
theorem fo_o (g : GI L m t k o) {s : Nat} (hs : s ∈ o) {j : Nat} (e : nxt L s = some j) {t' : Nat} (h1 : s < t') (h2 : t' ≤ j) : fo L t' (L.getD s "") = some j := by
  obtain ⟨a, b, c, d⟩ := nxt_spec e
  exact fo_of h2 c fun k h3 h4 => d k (by omega) h4
theorem o_inj (g : GI L m t k o) (ht : t ≤ L.length) {a b : Nat} (ha : a ∈ o) (hb : b ∈ o) (e : L.getD a "" = L.getD b "") : a = b := by
  obtain ⟨a1, j, ea, ja⟩ := g.ho a ha
  obtain ⟨b1, i, eb, ib⟩ := g.ho b hb
  have f1 := fo_o g ha ea a1 ja
  have f2 := fo_o g hb eb b1 ib
  rw [e, f2] at f1
  cases f1
  exact nxt_inj (by omega) (by omega) ea eb
theorem live_count (g : GI L m t k o) (f : FI L m t h n k o) (ht : t ≤ L.length) : (h.filter (live L t)).length = o.length := by
  have nm : (o.map fun s => L.getD s "").Nodup := by
    show List.Pairwise _ _
    rw [List.pairwise_map]
    exact List.Pairwise.imp_of_mem (fun ha hb (ne : _ ≠ _) e => ne (o_inj g ht ha hb e)) g.no
  have p : (h.filter (live L t)).Perm (o.map fun s => L.getD s "") := by
    refine (List.perm_ext_iff_of_nodup (List.Nodup.sublist List.filter_sublist f.nd) nm).mpr fun x => ?_
    rw [List.mem_filter, f.mem x, List.mem_map]
  rw [p.length_eq, List.length_map]
theorem fo_next {x : Str} (ht : t < L.length) (hx : x ≠ L.getD t "") : fo L t x = fo L (t + 1) x := by
  rw [fo_step ht, if_neg]
  rw [getD_at ht]
  intro z
  exact hx (Option.some.inj z).symm
theorem fo_here (ht : t < L.length) : fo L t (L.getD t "") = some t := by
  rw [fo_step ht, if_pos (getD_at ht)]
theorem live_self : live L (t + 1) (L.getD t "") = (nxt L t).isSome := rfl
theorem live_next {x : Str} (ht : t < L.length) (hx : x ≠ L.getD t "") : live L (t + 1) x = live L t x := by
  unfold live
  rw [fo_next ht hx]
/-- what is held behind the request, if it was held, dropped or not -/
theorem mem_next (ht : t < L.length) (g : GI L m t k o) (f : FI L m t h n k o) {h1 : List Str} {oo : List Nat} (hw : L.getD t "" ∈ h1 ∨ L.getD t "" ∉ h1)
    (e1 : ∀ x, x ≠ L.getD t "" → live L t x = true → (x ∈ h1 ↔ x ∈ h ∧ ∃ s ∈ oo, L.getD s "" = x)) (e2 : ∀ s ∈ oo, s ∈ o ∧ ∃ j, nxt L s = some j ∧ t < j) (x : Str) :
    ((x = L.getD t "" ∨ x ∈ h1) ∧ live L (t + 1) x = true) ↔ ∃ s, (s ∈ oo ∨ (s = t ∧ (nxt L t).isSome = true)) ∧ L.getD s "" = x := by
  constructor
  · rintro ⟨h2, h3⟩
    by_cases c : x = L.getD t ""
    · subst c
      rw [live_self] at h3
      exact ⟨t, .inr ⟨rfl, h3⟩, rfl⟩
    · rw [live_next ht c] at h3
      obtain ⟨_, s, hs, e⟩ := (e1 x c h3).mp (h2.resolve_left c)
      exact ⟨s, .inl hs, e⟩
  · rintro ⟨s, hs | ⟨rfl, hs⟩, rfl⟩
    · obtain ⟨h2, j, e, hj⟩ := e2 s hs
      have ls := (g.ho s h2).1
      have c : L.getD s "" ≠ L.getD t "" := fun z => by
        have q := fo_o g h2 e ls (by omega : t ≤ j)
        rw [z, fo_here ht] at q
        cases q
        omega
      have lv : live L t (L.getD s "") = true := by
        unfold live
        rw [fo_o g h2 e ls (by omega : t ≤ j)]
        rfl
      refine ⟨.inr ((e1 _ c lv).mpr ⟨((f.mem _).mpr ⟨s, h2, rfl⟩).1, s, hs, rfl⟩), ?_⟩
      rw [live_next ht c]
      exact lv
    · exact ⟨.inl rfl, by rw [live_self]; exact hs⟩
theorem o4_mem {s : Nat} : s ∈ o4 L m t o ↔ s ∈ o3 L m t o ∨ (s = t ∧ (nxt L t).isSome = true) := by
  unfold o4
  by_cases c : (nxt L t).isSome = true
  · rw [if_pos c, List.mem_append, List.mem_singleton]
    simp [c]
  · rw [if_neg c]
    simp [c]
theorem fi_step (ht : t < L.length) (m1 : 1 ≤ m) (g : GI L m t k o) (f : FI L m t h n k o) : FI L m (t + 1) (stepH L m t h) (stepM L t h n) (k ++ o.filter (endAt L t)) (o4 L m t o) := by
  have cnt := live_count g f (by omega)
  have pe : ∀ s ∈ o, past L t s = !endAt L t s := fun s hs => by
    obtain ⟨_, j, e, hj⟩ := g.ho s hs
    unfold past endAt
    rw [e]
    by_cases c : j = t
    · subst c; simp
    · have : t < j := by omega
      simp [this, c]
  have len2 : o.length = (o.filter (endAt L t)).length + (o2 L t o).length := by
    have z := cp_split (q := fun _ => true) pe
    rw [cp_all fun _ _ => rfl, cp_all fun _ _ => rfl, cp_all fun _ _ => rfl] at z
    exact z
  have e2 : ∀ s ∈ o2 L t o, s ∈ o ∧ ∃ j, nxt L s = some j ∧ t < j := fun s hs => in_o2 hs
  by_cases hw : L.getD t "" ∈ h
  · -- a hit: just one ends here
    obtain ⟨s, hs, es⟩ := (f.mem (L.getD t "")).mp ⟨hw, by unfold live; rw [fo_here ht]; rfl⟩
    obtain ⟨ls, j, ej, hj⟩ := g.ho s hs
    have et : nxt L s = some t := by
      have q := fo_o g hs ej ls hj
      rw [es, fo_here ht] at q
      cases q
      exact ej
    have g1 : (o.filter (endAt L t)).length = 1 := by
      have nd1 : (o.filter (endAt L t)).Nodup := List.Nodup.sublist List.filter_sublist g.no
      have p : (o.filter (endAt L t)).Perm [s] := by
        refine (List.perm_ext_iff_of_nodup nd1 (by simp)).mpr fun x => ?_
        rw [List.mem_filter, List.mem_singleton]
        constructor
        · rintro ⟨hx, e⟩
          have := (g.ho x hx).1
          exact nxt_inj (by omega) (by omega) (of_decide_eq_true e) et
        · rintro rfl
          exact ⟨hs, decide_eq_true et⟩
      rw [p.length_eq]
      rfl
    have lo := g.lo
    have e3 : o3 L m t o = o2 L t o := if_neg (by omega)
    have eh : stepH L m t h = h := if_pos hw
    have em : stepM L t h n = n := if_pos hw
    rw [eh, em]
    refine ⟨f.nd, f.len, fun x => ?_, ?_⟩
    · have q := mem_next (h1 := h) (oo := o2 L t o) ht g f (.inl hw) (fun x hx lv => ⟨fun hh => ⟨hh, ?_⟩, fun hh => hh.1⟩) e2 x
      · rw [show (x ∈ h ∧ live L (t + 1) x = true) ↔ ((x = L.getD t "" ∨ x ∈ h) ∧ live L (t + 1) x = true) from
          ⟨fun z => ⟨.inr z.1, z.2⟩, fun z => ⟨z.1.elim (fun y => by rw [y]; exact hw) id, z.2⟩⟩, q]
        simp only [o4_mem, e3]
      · obtain ⟨s', hs', e'⟩ := (f.mem x).mp ⟨hh, lv⟩
        refine ⟨s', List.mem_filter.mpr ⟨hs', ?_⟩, e'⟩
        rw [pe s' hs']
        have : endAt L t s' = false := decide_eq_false fun z => hx (by
          rw [← e']
          have := (nxt_spec z).2.2.1
          rw [getD_at ht] at this
          exact (Option.some.inj this).symm)
        rw [this]
        rfl
    · rw [List.length_append, g1]
      have := f.ms
      omega
  · -- a miss: none ends here
    have none1 : ∀ s ∈ o, endAt L t s = false := fun s hs => decide_eq_false fun z => hw (by
      have := (nxt_spec z).2.2.1
      rw [getD_at ht] at this
      rw [Option.some.inj this]
      exact ((f.mem _).mpr ⟨s, hs, rfl⟩).1)
    have g1 : o.filter (endAt L t) = [] := List.filter_eq_nil_iff.mpr fun s hs => by simp [none1 s hs]
    have eo : o2 L t o = o := List.filter_eq_self.mpr fun s hs => by rw [pe s hs, none1 s hs]; rfl
    have em : stepM L t h n = n + 1 := if_neg hw
    have eh : stepH L m t h = (if h.length = m then dropH L t h else h) ++ [L.getD t ""] := if_neg hw
    rw [eh, em, g1, List.append_nil]
    have fin : ∀ (h1 : List Str) (oo : List Nat), (∀ x, x ≠ L.getD t "" → live L t x = true → (x ∈ h1 ↔ x ∈ h ∧ ∃ s ∈ oo, L.getD s "" = x)) → (∀ s ∈ oo, s ∈ o) → o3 L m t o = oo → h1.Nodup → h1.length < m → (∀ x ∈ h1, x ∈ h) → FI L m (t + 1) (h1 ++ [L.getD t ""]) (n + 1) k (o4 L m t o) := fun h1 oo a1 a2 a3 a4 a5 a6 => by
      refine ⟨List.nodup_append.mpr ⟨a4, by simp, fun a ha b hb z => ?_⟩, ?_, fun x => ?_, ?_⟩
      · rw [List.mem_singleton] at hb
        subst hb
        subst z
        exact hw (a6 _ ha)
      · rw [List.length_append, List.length_singleton]
        omega
      · have q := mem_next (h1 := h1) (oo := oo) ht g f (Classical.em _) a1 (fun s hs => e2 s (by rw [eo]; exact a2 s hs)) x
        rw [List.mem_append, List.mem_singleton, show (x ∈ h1 ∨ x = L.getD t "") ↔ (x = L.getD t "" ∨ x ∈ h1) from Or.comm, q]
        simp only [o4_mem, a3]
      · have := f.ms
        omega
    have lc : (h.filter (live L t)).length ≤ h.length := List.length_filter_le _ _
    by_cases cm : h.length = m
    · rw [if_pos cm]
      have hl : 0 < (h.map (rest L t)).length := by rw [List.length_map]; omega
      obtain ⟨hi, ev⟩ := mi_is hl
      have hi' : mi (h.map (rest L t)) < h.length := by rw [List.length_map] at hi; exact hi
      rw [List.getElem_map] at ev
      -- the one that goes
      have top : ∀ x ∈ h, rest L t x ≤ rest L t h[mi (h.map (rest L t))] := fun x hx => by
        rw [ev]
        exact mxI_top (List.mem_map.mpr ⟨x, hx, rfl⟩)
      have my : h[mi (h.map (rest L t))] ∈ h := List.getElem_mem hi'
      have md : ∀ x, x ∈ dropH L t h ↔ x ∈ h ∧ x ≠ h[mi (h.map (rest L t))] := fun x => by
        unfold dropH
        rw [List.mem_eraseIdx_iff_getElem]
        constructor
        · rintro ⟨i, hii, ne, e⟩
          refine ⟨by rw [← e]; exact List.getElem_mem hii, fun z => ne ?_⟩
          rw [← e] at z
          exact (List.getElem_inj f.nd).mp z
        · rintro ⟨hx, ne⟩
          obtain ⟨i, hii, e⟩ := List.getElem_of_mem hx
          exact ⟨i, hii, fun z => ne (by subst z; exact e.symm), e⟩
      have ld : (dropH L t h).length < m := by
        unfold dropH
        rw [List.length_eraseIdx, if_pos hi']
        omega
      have ndd : (dropH L t h).Nodup := List.Nodup.sublist (List.eraseIdx_sublist ..) f.nd
      generalize h[mi (h.map (rest L t))] = y at top my md
      have rl : ∀ {x j}, fo L t x = some j → rest L t x = ((j - t : Nat) : Int) := fun e => by unfold rest; rw [e]
      have rd : ∀ {x}, live L t x = false → rest L t x = (L.length : Nat) := fun {x} e => by
        unfold rest
        unfold live at e
        cases q : fo L t x with
        | none => rfl
        | some j => rw [q] at e; cases e
      by_cases co : o.length = m
      · -- all are asked again: the latest goes
        have e3 : o3 L m t o = drop1 L o := by
          unfold o3
          rw [eo, if_pos co]
        obtain ⟨s, hs, ed, _, tp⟩ := drop_is (L := L) (o := o) (by omega)
        rw [ed] at e3
        have ally : ∀ x ∈ h, live L t x = true := by
          have z : h.filter (live L t) = h := List.Sublist.eq_of_length List.filter_sublist (by omega)
          exact List.filter_eq_self.mp z
        obtain ⟨s', hs', es'⟩ := (f.mem y).mp ⟨my, ally y my⟩
        obtain ⟨l1, j1, ej1, tj1⟩ := g.ho s hs
        obtain ⟨l2, j2, ej2, tj2⟩ := g.ho s' hs'
        have q1 := fo_o g hs ej1 l1 tj1
        have q2 := fo_o g hs' ej2 l2 tj2
        have r := top _ ((f.mem _).mpr ⟨s, hs, rfl⟩).1
        rw [rl q1, ← es', rl q2] at r
        have r2 := tp s' hs'
        rw [ej1, ej2] at r2
        have ejj : j1 = j2 := by
          simp only [Option.getD_some] at r2
          omega
        subst ejj
        have ess : s' = s := nxt_inj (by omega) (by omega) ej2 ej1
        subst ess
        refine fin (dropH L t h) (o.erase s') (fun x hx lv => ?_) (fun x hx => List.mem_of_mem_erase hx) e3 ndd ld fun x hx => ((md x).mp hx).1
        rw [md x]
        constructor
        · rintro ⟨a, b⟩
          obtain ⟨s2, hs2, e2'⟩ := (f.mem x).mp ⟨a, lv⟩
          exact ⟨a, s2, (List.Nodup.mem_erase_iff g.no).mpr ⟨fun z => b (by rw [← e2', z]; exact es'), hs2⟩, e2'⟩
        · rintro ⟨a, s2, hs2, e2'⟩
          obtain ⟨n2, hs2⟩ := (List.Nodup.mem_erase_iff g.no).mp hs2
          exact ⟨a, fun z => n2 (o_inj g (by omega) hs2 hs' (by rw [e2', es', z]))⟩
      · -- one is never asked again: such a one goes
        have e3 : o3 L m t o = o := by
          unfold o3
          rw [eo, if_neg co]
        have ex : ∃ x ∈ h, live L t x = false := by
          refine Classical.byContradiction fun z => ?_
          have : h.filter (live L t) = h := List.filter_eq_self.mpr fun x hx => by
            cases q : live L t x with
            | true => rfl
            | false => exact (z ⟨x, hx, q⟩).elim
          rw [this] at cnt
          omega
        obtain ⟨x0, h0, d0⟩ := ex
        have dy : live L t y = false := by
          cases q : live L t y with
          | false => rfl
          | true =>
            obtain ⟨j, ej⟩ := Option.isSome_iff_exists.mp q
            have r := top x0 h0
            rw [rd d0, rl ej] at r
            have := (fo_spec ej).2.1
            omega
        refine fin (dropH L t h) o (fun x hx lv => ?_) (fun x hx => hx) e3 ndd ld fun x hx => ((md x).mp hx).1
        rw [md x]
        constructor
        · rintro ⟨a, b⟩
          exact ⟨a, (f.mem x).mp ⟨a, lv⟩⟩
        · rintro ⟨a, _⟩
          exact ⟨a, fun z => by rw [z, dy] at lv; cases lv⟩
    · rw [if_neg cm]
      have fl := f.len
      have e3 : o3 L m t o = o := by
        unfold o3
        rw [eo, if_neg (by omega)]
      exact fin h o (fun x hx lv => ⟨fun a => ⟨a, (f.mem x).mp ⟨a, lv⟩⟩, fun a => a.1⟩) (fun _ h => h) e3 f.nd (by omega) fun _ h => h
theorem fi_run (m1 : 1 ≤ m) : ∀ t, t ≤ L.length → FI L m t (runH L m t).1 (runH L m t).2 (run L m t).1 (run L m t).2
  | 0, _ => ⟨by simp [runH], by simp [runH], fun x => by simp [runH, run], rfl⟩
  | t + 1, h => fi_step (by omega) m1 (gi_run m1 t (by omega)) (fi_run m1 t (by omega))
theorem fore_misses (m1 : 1 ≤ m) : (runH L m L.length).2 = L.length - GN L m := by
  have := (fi_run (L := L) m1 L.length (Nat.le_refl _)).ms
  unfold GN kp
  omega
end
end K75

set_option Elab.async false
set_option linter.all false
set_option maxRecDepth 100000
set_option maxHeartbeats 4000000
/-! The program's is_keeping. -/
namespace K75
open PySem PySem.Spec PyProof.Rows L2 GX StX DL
structure Known (L : List Str) (m : Int) : Prop where
  len : L.length ≤ 200
  ok : ∀ w ∈ L, NameOk w
  m1 : 1 ≤ m
  m4 : m ≤ 4
theorem ne_int (i j : Int) : neD (.int i) (.int j) = some (.bool (!decide (i = j))) := by
  simp [neD, SeqAt.shaped, PyData.canLay0, PyData.depth, PyData.eqv, Bool.beq_eq_decide_eq]
theorem ifs_t {c : TF} {g h : SF} {ρ ρ1 : Rho} (e : c ρ = some (true, ρ1)) : fIfS c g h ρ = g ρ1 := by rw [q_fIfS, e]
theorem ifs_f {c : TF} {g h : SF} {ρ ρ1 : Rho} (e : c ρ = some (false, ρ1)) : fIfS c g h ρ = h ρ1 := by rw [q_fIfS, e]
theorem ret0 {ρ : Rho} : fSq (fRet (fC (.bool false))) fNx ρ = some (.rt (.bool false) ρ) := rfl
theorem or_t {f g : TF} {ρ ρ1 : Rho} (e : f ρ = some (true, ρ1)) : fOr f g ρ = some (true, ρ1) := by rw [q_fOr, e]
theorem or_f {f g : TF} {ρ ρ1 : Rho} (e : f ρ = some (false, ρ1)) : fOr f g ρ = g ρ1 := by rw [q_fOr, e]
theorem not_b {f : TF} {b : Bool} {ρ ρ1 : Rho} (e : f ρ = some (b, ρ1)) : fNot f ρ = some (!b, ρ1) := by rw [q_fNot, e]
theorem andV_t {f g : EF} {ρ ρ1 : Rho} (e : f ρ = some (.bool true, ρ1)) : fAndV f g ρ = g ρ1 := by rw [q_fAndV, e]
theorem andV_f {f g : EF} {ρ ρ1 : Rho} (e : f ρ = some (.bool false, ρ1)) : fAndV f g ρ = some (.bool false, ρ1) := by rw [q_fAndV, e]
theorem ret_at {f : EF} {ρ ρ1 : Rho} {d : PyData} (e : f ρ = some (d, ρ1)) : fRet f ρ = some (.rt d ρ1) := by rw [q_fRet, e]
def gC1 : SF := fDrop (fCa 1 F_checkhistory (aCons (gVar 0) aNil))
def gC2 : SF := fIfS (fNot (fTst (fCa 3 F_isbetween (aCons (gVar 1) (aCons (gVal (fC (.int 1))) (aCons (gVal (fC (.int 4))) aNil)))))) (fSq fNv fNx) fNx
def gC3 : SF := fIfS (fTst (fOp gtD (gVal (fCl lenD (aCons (gVar 0) aNil))) (gVal (fC (.int 200))))) (fSq fNv fNx) fNx
theorem gC_is : g_checkknown = fSq gC1 (fSq gC2 (fSq gC3 fNx)) := rfl
theorem c1v {r : PyData} {b : Sl} (e : F_checkhistory [.dat r] = some (.none, [.un])) : gC1 [.dat r, b] = some (.nx [.dat r, b]) := by
  unfold gC1
  simp [e]
theorem c2v {r : PyData} {m : Int} (h1 : 1 ≤ m) (h4 : m ≤ 4) : gC2 [.dat r, .dat (.int m)] = some (.nx [.dat r, .dat (.int m)]) := by
  have e := m_betw m 1 4
  rw [decide_eq_true h1, decide_eq_true h4] at e
  unfold gC2
  simp [e]
theorem c3v {xs : List PyData} {b : Sl} (h : xs.length ≤ 200) : gC3 [.dat (.tuple xs), b] = some (.nx [.dat (.tuple xs), b]) := by
  have e : ¬ ((200 : Int) < xs.length) := by omega
  unfold gC3
  simp [e]
theorem m_known {L : List Str} {m : Int} (K : Known L m) : F_checkknown [.dat (rowD L), .dat (.int m)] = some (.none, [.un, .un]) := by
  have z : g_checkknown [.dat (rowD L), .dat (.int m)] = some (.nx [.dat (rowD L), .dat (.int m)]) := by
    rw [gC_is, sq_nx (c1v (m_history (by have := K.len; omega) K.ok)), sq_nx (c2v K.m1 K.m4)]
    refine (sq_nx (c3v (by rw [List.length_map]; exact K.len))).trans (q_fNx _)
  show fBody 0 g_checkknown [.dat (rowD L), .dat (.int m)] = _
  rw [q_fBody, show [.dat (rowD L), .dat (.int m)] ++ List.replicate 0 Sl.un = [.dat (rowD L), .dat (.int m)] from rfl, z]
  rfl
end K75

set_option Elab.async false
set_option linter.all false
set_option maxRecDepth 100000
set_option maxHeartbeats 4000000
/-! What best_keeping tells. -/
namespace DL
open PySem PySem.Spec PyProof.Rows L2 GX StX
/-- a comprehension with a condition, over a list that is given away -/
theorem comp_ifF {α : Type} {it : LF} {ks : List Nat} {t : GT} {c : TF} {f : EF} (g : α → PyData) (p : α → Bool) (h : α → PyData) {ρ0 ρ ρ1 : Rho} (xs : List α) (hi : it ρ0 = some (xs.map g, ρ1)) (hw : wipeR ρ1 ks = ρ) (st : ∀ x ∈ xs, ∃ ρ0, t (g x) ρ = some ρ0 ∧ c ρ0 = some (p x, ρ0) ∧ (p x = true → f ρ0 = some (h x, ρ0)) ∧ wipeR ρ0 ks = ρ) (hz : xs.length ≤ 1000000) :
    fComp it ks t c f ρ0 = some ((xs.filter p).map h, ρ) := by
  rw [q_fComp, hi]
  dsimp only
  rw [hw]
  have z := K75.comp_gen (ks := ks) (t := t) (c := c) (f := f) g p h (ρ := ρ) xs [] (fun x hx => by
    obtain ⟨ρ0, e0, e1, e2, w⟩ := st x hx
    exact ⟨ρ0, ρ0, e0, e1, fun q => ⟨ρ0, e2 q, w⟩, fun _ => w⟩) (by simpa using hz)
  rw [z]
  simp
end DL
namespace K75
open PySem PySem.Spec PyProof.Rows L2 GX StX DL
abbrev natD (ks : List Nat) : List PyData := ks.map fun k => .int ((k : Nat) : Int)
theorem eqv_nat (a b : Nat) : PyData.eqv (.int (a : Int)) (.int (b : Int)) = decide (a = b) := by
  show ((a : Int) == (b : Int)) = _
  by_cases c : a = b
  · subst c; simp
  · have : ¬ (a : Int) = (b : Int) := fun z => c (by omega)
    simp [c, this]
theorem flat_nat (ks : List Nat) : (natD ks).all flatD = true := by
  rw [List.all_eq_true]
  intro x hx
  obtain ⟨y, _, rfl⟩ := List.mem_map.mp hx
  rfl
theorem in_nat (s : Nat) (ks : List Nat) : inD (.int (s : Int)) (.list (natD ks)) = some (.bool (decide (s ∈ ks))) := by
  have m : memD (.int (s : Int)) (natD ks) = decide (s ∈ ks) := by
    unfold memD
    rw [List.any_map]
    by_cases c : s ∈ ks
    · rw [decide_eq_true c, List.any_eq_true]
      exact ⟨s, c, by show PyData.eqv _ _ = true; rw [eqv_nat]; simp⟩
    · rw [decide_eq_false c, List.any_eq_false]
      intro x hx
      show ¬ PyData.eqv _ _ = true
      rw [eqv_nat, decide_eq_true_eq]
      intro z
      exact c (z ▸ hx)
  show (if (flatD (.int (s : Int)) && (natD ks).all flatD) = true then some (PyData.bool (memD (.int (s : Int)) (natD ks))) else _) = _
  rw [if_pos (by rw [flat_nat]; rfl), m]
abbrev sO (o : List Nat) : Sl := .own false (.l (natD o))
abbrev sN (L : List Str) : Sl := .dat (.list (NX L))
abbrev sT (t : Nat) : Sl := .dat (.int (t : Int))
end K75

set_option Elab.async false
set_option linter.all false
set_option maxRecDepth 100000
set_option maxHeartbeats 4000000
/-! The program's cheapest_times: one offer, all offers of a time. -/
namespace DL
open PySem PySem.Spec PyProof.Rows L2 GX StX
theorem q_iDown {f : LF} {ρ ρ' : Rho} {i j : Int} (h : f ρ = some ([.int i, .int j, .int (-1)], ρ')) (a : small62 i = true) (b : small62 j = true) : iDown f ρ = some (downD i (i - j).toNat, ρ') := by
  unfold iDown
  rw [h]
  dsimp only
  rw [a, b, if_pos (by decide)]
theorem q_dicP1 (i : Nat) (fk fv : EF) (ρ : Rho) : fDicP1 i fk fv ρ = (match fk ρ with
  | some (e, ρ1) => match fv ρ1, keyP e with
    | some (d, ρ2), some k => some (.nx (ρ2.set i (.own false (.d [(k, d)]))))
    | _, _ => none
  | none => none) := rfl
theorem q_keyI (i : Int) : keyP (.int i) = some (.inl i) := rfl
theorem downD_at {lo : Int} {n j : Nat} {d : PyData} (h : (downD lo n)[j]? = some d) : j < n ∧ d = .int (lo - (j : Int)) := by
  unfold downD at h
  rw [List.getElem?_map] at h
  cases e : (List.range n)[j]? with
  | none => rw [e] at h; cases h
  | some k =>
    rw [e] at h
    cases h
    obtain ⟨h1, h2⟩ := List.getElem?_eq_some_iff.mp e
    rw [List.getElem_range] at h2
    rw [List.length_range] at h1
    subst h2
    exact ⟨h1, rfl⟩
theorem downD_len (lo : Int) (n : Nat) : (downD lo n).length = n := by simp [downD]
end DL
namespace K75
open PySem PySem.Spec PyProof.Rows L2 GX StX DL
theorem isn0 : isNotD .none .none = some (.bool false) := rfl
theorem isn1 (i : Int) : isNotD (.int i) .none = some (.bool true) := rfl
theorem mis_go (e : Nat → Bool) (a : Nat) : ∀ t, a < t → (List.range t).countP (fun b => decide (a ≤ b) && e b) = (List.range t).countP (fun b => decide (a + 1 ≤ b) && e b) + if e a = true then 1 else 0
  | 0, h => by omega
  | t + 1, h => by
    rw [List.range_succ, List.countP_append, List.countP_append, List.countP_singleton, List.countP_singleton]
    by_cases c : a < t
    · rw [mis_go e a t c]
      have h1 : a ≤ t := by omega
      have h2 : a + 1 ≤ t := by omega
      simp only [h1, h2, decide_true, Bool.true_and]
      omega
    · have z : a = t := by omega
      subst z
      have z1 : (List.range a).countP (fun b => decide (a ≤ b) && e b) = 0 := cp_zero fun s hs => by
        rw [List.mem_range] at hs
        simp
        omega
      have z2 : (List.range a).countP (fun b => decide (a + 1 ≤ b) && e b) = 0 := cp_zero fun s hs => by
        rw [List.mem_range] at hs
        simp
        omega
      rw [z1, z2]
      have n1 : ¬ a + 1 ≤ a := by omega
      simp [n1]
theorem mis_step {L : List Str} {a t : Nat} (h : a < t) : mis L a t = mis L (a + 1) t + if ended L t a = true then 1 else 0 := mis_go _ a t h
theorem mis_top (L : List Str) (t : Nat) : mis L t t = 0 := cp_zero fun s hs => by
  rw [List.mem_range] at hs
  simp
  omega
abbrev qC (L : List Str) (p : Int) (s2 s3 s4 s5 s6 s7 s8 s9 : Sl) : Rho := [sN L, .dat (.int p), s2, s3, s4, s5, s6, s7, s8, s9]
abbrev sD (kvs : List (Key × PyData)) : Sl := .own false (.d kvs)
abbrev sL (xs : List PyData) : Sl := .own false (.l xs)
abbrev sI (i : Int) : Sl := .dat (.int i)
def gW1 : SF := fIfS (fAnd (fTst (fOp geD (gVar 7) (gVal (fC (.int 0))))) (fAnd (fTst (fOp isNotD (gVal (fOp ixD (gVar 0) (gVar 7))) (gVal (fC .none)))) (fTst (fOp leD (gVal (fOp ixD (gVar 0) (gVar 7))) (gVar 4))))) (fSq (fAugI 5 (fC (.int 1))) fNx) fNx
def gW2 : SF := fApp 6 (fTup (lCons (fOp addD (gVal (fIxP 2 (fVar 7))) (gVar 5)) (lCons (fVar 7) lNil)))
def gWi : SF := fSq gW1 (fSq gW2 fNx)
section
variable {L : List Str} {p : Int} {s2 s3 s4 s5 s6 s7 s8 s9 : Sl} {cs ss : List (Key × PyData)} {xs : List PyData} {t b : Nat}
theorem w1_neg {c : Int} : gW1 (qC L p s2 s3 s4 (sI c) s6 (sI (-1)) s8 s9) = some (.nx (qC L p s2 s3 s4 (sI c) s6 (sI (-1)) s8 s9)) := by
  unfold gW1
  rw [ifs_f (ρ1 := qC L p s2 s3 s4 (sI c) s6 (sI (-1)) s8 s9) (by simp [look])]
  rfl
theorem w1_nat {c : Int} (h : b < L.length) : gW1 (qC L p s2 s3 (sT t) (sI c) s6 (sT b) s8 s9) = some (.nx (qC L p s2 s3 (sT t) (sI (c + if ended L t b = true then 1 else 0)) s6 (sT b) s8 s9)) := by
  have a := atN h
  unfold gW1
  unfold ended
  cases e : nxt L b with
  | none =>
    rw [e] at a
    rw [ifs_f (ρ1 := qC L p s2 s3 (sT t) (sI c) s6 (sT b) s8 s9) (by simp [look, a, oN, isn0])]
    simp
  | some j =>
    rw [e] at a
    by_cases l : j ≤ t
    · rw [ifs_t (ρ1 := qC L p s2 s3 (sT t) (sI c) s6 (sT b) s8 s9) (by simp [look, a, oN, isn1, l])]
      simp [l]
    · rw [ifs_f (ρ1 := qC L p s2 s3 (sT t) (sI c) s6 (sT b) s8 s9) (by simp [look, a, oN, isn1, l])]
      simp [l]
theorem w2_at {c v w : Int} (hv : valD cs (.inl v) = some (.int w)) (hx : xs.length ≤ 1000) : gW2 (qC L p (sD cs) s3 s4 (sI c) (sL xs) (sI v) s8 s9) = some (.nx (qC L p (sD cs) s3 s4 (sI c) (sL (xs ++ [pD (w + c, v)])) (sI v) s8 s9)) := by
  have z : fits (xs.length + 1) = true := decide_eq_true (by omega)
  have f2 : fits 2 = true := rfl
  unfold gW2
  simp [look, q_keyI, hv, z, f2, pD]
end
end K75

set_option Elab.async false
set_option linter.all false
set_option maxRecDepth 100000
set_option maxHeartbeats 4000000
/-! The program's cheapest_times: a time, all times, the way back. -/
namespace K75
open PySem PySem.Spec PyProof.Rows L2 GX StX DL
/-- what the dicts hold ahead of time t -/
structure Kn (L : List Str) (p t : Nat) (cs ss : List (Key × PyData)) : Prop where
  lc : cs.length ≤ t + 1
  ls : ss.length ≤ t
  hc : ∀ b : Int, -1 ≤ b → b < t → valD cs (.inl b) = some (.int (Cb p (En L p) b))
  hs : ∀ j : Nat, j < t → valD ss (.inl (j : Int)) = some (.int (En L p j).2)
def gO3 : SF := fFor (iDown (lCons (fOp subD (gVar 4) (gVal (fC (.int 1)))) (lCons (fC (.int (-2))) (lCons (fC (.int (-1))) lNil)))) (tName 7) gWi
def gO4 : SF := fAsg (fCl minPD (aCons (gVar 6) aNil)) (tTupT 2 [(tName 8), (tSubP 3 (fVar 4))])
def gO5 : SF := fAsg (fOp addD (gVar 8) (gVar 1)) (tSubP 2 (fVar 4))
def gOb : SF := fSq (fAsg (fC (.int 0)) (tName 5)) (fSq (fHold 6 (lLst lNil)) (fSq gO3 (fSq gO4 (fSq gO5 fNx))))
section
variable {L : List Str} {p t : Nat} {s2 s3 s4 s5 s6 s7 s8 s9 s7' : Sl} {cs ss : List (Key × PyData)}
def IW (L : List Str) (p t : Nat) (cs ss : List (Key × PyData)) (s8 s9 : Sl) (q : Nat) (ρ : Rho) : Prop := ∃ s7, ρ = qC L p (sD cs) (sD ss) (sT t) (sI (mis L (t - q) t : Nat)) (sL ((offs L p (En L p) t q).map pD)) s7 s8 s9
theorem wi_at (ht : t ≤ L.length) (hl : L.length ≤ 200) (h : Kn L p t cs ss) {q : Nat} (hq : q < t + 1) {ρ : Rho} (I : IW L p t cs ss s8 s9 q ρ) : ∃ ρ2, gWi (ρ.set 7 (.dat (.int ((t : Int) - 1 - (q : Int))))) = some (.nx ρ2) ∧ IW L p t cs ss s8 s9 (q + 1) ρ2 := by
  obtain ⟨s7, rfl⟩ := I
  have lo : (offs L p (En L p) t (q + 1)).map pD = (offs L p (En L p) t q).map pD ++ [pD (off L p (En L p) t q)] := by
    unfold offs
    rw [List.range_succ, List.map_append, List.map_append]
    rfl
  have hx : ((offs L p (En L p) t q).map pD).length ≤ 1000 := by
    unfold offs
    rw [List.length_map, List.length_map, List.length_range]
    omega
  have hv := h.hc (bq t q) (by unfold bq; omega) (by unfold bq; omega)
  by_cases c : q = t
  · subst c
    have z : (q : Int) - 1 - (q : Int) = -1 := by omega
    have zb : bq q q = -1 := z
    rw [zb] at hv
    refine ⟨_, ?_, sI (-1), rfl⟩
    show gWi (qC L p (sD cs) (sD ss) (sT q) (sI (mis L (q - q) q : Nat)) (sL ((offs L p (En L p) q q).map pD)) (sI ((q : Int) - 1 - (q : Int))) s8 s9) = _
    rw [z]
    unfold gWi
    rw [sq_nx w1_neg, sq_nx (w2_at hv hx)]
    have e1 : q - q = 0 := by omega
    have e2 : q - (q + 1) = 0 := by omega
    rw [lo, e1, e2]
    have e3 : off L p (En L p) q q = (Cb p (En L p) (-1) + (mis L 0 q : Nat), -1) := by
      unfold off
      rw [zb]
      rfl
    rw [e3]
    rfl
  · obtain ⟨b, hb⟩ : ∃ b : Nat, b = t - 1 - q := ⟨_, rfl⟩
    have z : (t : Int) - 1 - (q : Int) = (b : Int) := by omega
    have zb : bq t q = (b : Int) := z
    rw [zb] at hv
    have ms := mis_step (L := L) (a := b) (t := t) (by omega)
    have e1 : t - q = b + 1 := by omega
    have e2 : t - (q + 1) = b := by omega
    refine ⟨_, ?_, sT b, rfl⟩
    show gWi (qC L p (sD cs) (sD ss) (sT t) (sI (mis L (t - q) t : Nat)) (sL ((offs L p (En L p) t q).map pD)) (sI ((t : Int) - 1 - (q : Int))) s8 s9) = _
    rw [z, e1, e2, ms, lo]
    unfold gWi
    have e4 : ((mis L (b + 1) t : Nat) : Int) + (if ended L t b = true then 1 else 0) = ((mis L (b + 1) t + if ended L t b = true then 1 else 0 : Nat) : Int) := by
      split <;> simp
    have e3 : off L p (En L p) t q = (Cb p (En L p) (b : Int) + ((mis L (b + 1) t + if ended L t b = true then 1 else 0 : Nat) : Int), (b : Int)) := by
      unfold off
      rw [zb, Int.toNat_natCast, ms]
    rw [sq_nx (w1_nat (by omega)), e4, sq_nx (w2_at hv hx), e3]
    rfl
theorem o3_at (ht : t ≤ L.length) (hl : L.length ≤ 200) (h : Kn L p t cs ss) : ∃ s5 s7, gO3 (qC L p (sD cs) (sD ss) (sT t) (sI 0) (sL []) s7' s8 s9) = some (.nx (qC L p (sD cs) (sD ss) (sT t) s5 (sL ((offs L p (En L p) t (t + 1)).map pD)) s7 s8 s9)) := by
  have it : iDown (lCons (fOp subD (gVar 4) (gVal (fC (.int 1)))) (lCons (fC (.int (-2))) (lCons (fC (.int (-1))) lNil))) (qC L p (sD cs) (sD ss) (sT t) (sI 0) (sL []) s7' s8 s9) = some (downD ((t : Int) - 1) (t + 1), qC L p (sD cs) (sD ss) (sT t) (sI 0) (sL []) s7' s8 s9) := by
    rw [q_iDown (i := (t : Int) - 1) (j := -2) (ρ' := qC L p (sD cs) (sD ss) (sT t) (sI 0) (sL []) s7' s8 s9) (by simp [look]) ?_ rfl]
    · have e : ((t : Int) - 1 - -2).toNat = t + 1 := by omega
      rw [e]
    · unfold small62
      rw [Bool.and_eq_true]
      exact ⟨decide_eq_true (by omega), decide_eq_true (by omega)⟩
  unfold gO3
  rw [for_it it]
  have I0 : IW L p t cs ss s8 s9 0 (qC L p (sD cs) (sD ss) (sT t) (sI 0) (sL []) s7' s8 s9) := ⟨s7', by
    have : mis L (t - 0) t = 0 := by rw [Nat.sub_zero]; exact mis_top L t
    rw [this]
    rfl⟩
  obtain ⟨ρ', e1, s7, e2⟩ := loop_at (t := tName 7) (g := gWi) (IW L p t cs ss s8 s9) (downD ((t : Int) - 1) (t + 1)) I0 fun j d hd ρ I => by
    obtain ⟨hj, rfl⟩ := downD_at hd
    obtain ⟨ρ2, e, I2⟩ := wi_at ht hl h hj I
    exact ⟨_, ρ2, rfl, e, I2⟩
  rw [downD_len] at e2
  exact ⟨_, s7, by rw [e1, e2]⟩
end
end K75

set_option Elab.async false
set_option linter.all false
set_option maxRecDepth 100000
set_option maxHeartbeats 4000000
/-! The program's cheapest_times: all times, the way back, whole. -/
namespace DL
open PySem PySem.Spec PyProof.Rows L2 GX StX
theorem cut_last (A : List PyData) (x : PyData) : cutL (A ++ [x]) none (some (-1)) = A := by
  unfold cutL HT.sIx
  rw [List.length_append, List.length_singleton]
  simp only [show ((-1 : Int) < 0) from by decide, if_true]
  have e : ((-1 : Int) + ((A.length + 1 : Nat) : Int)).toNat = A.length := by omega
  rw [e]
  simp
end DL
namespace K75
open PySem PySem.Spec PyProof.Rows L2 GX StX DL
theorem pairs_of : ∀ (ps : List (Int × Int)), pairsP (ps.map pD) = some ps
  | [] => rfl
  | (a, b) :: ps => by
    show (pairsP (ps.map pD)).map (fun ps => (a, b) :: ps) = _
    rw [pairs_of ps]
    rfl
theorem min_at {xs : List (Int × Int)} (h : xs ≠ []) : minPD [.list (xs.map pD)] = some (pD (minL xs)) := by
  show (match pairsP (xs.map pD) with
    | some (p :: ps) => some (pD (minPs p ps))
    | _ => none) = _
  rw [pairs_of]
  cases xs with
  | nil => exact (h rfl).elim
  | cons x xs => rfl
section
variable {L : List Str} {p t : Nat} {s2 s3 s4 s5 s6 s7 s8 s9 s7' : Sl} {cs ss : List (Key × PyData)}
theorem o4_at {P : Int} {xs : List PyData} {v : Int × Int} (hm : minPD [.list xs] = some (pD v)) (hz : ss.length ≤ 1000) : gO4 (qC L P (sD cs) (sD ss) (sT t) s5 (sL xs) s7 s8 s9) = some (.nx (qC L P (sD cs) (sD (putD ss (.inl (t : Int)) (.int v.2))) (sT t) s5 (sL xs) s7 (sI v.1) s9)) := by
  have z : fits (ss.length + 1) = true := decide_eq_true (by omega)
  unfold pD at hm
  unfold gO4
  generalize minPD = op at hm ⊢
  simp [look, hm, q_keyI, z]
theorem o5_at {P : Int} {v : Int} (hz : cs.length ≤ 1000) : gO5 (qC L P (sD cs) s3 (sT t) s5 s6 s7 (sI v) s9) = some (.nx (qC L P (sD (putD cs (.inl (t : Int)) (.int (v + P)))) s3 (sT t) s5 s6 s7 (sI v) s9)) := by
  have z : fits (cs.length + 1) = true := decide_eq_true (by omega)
  unfold gO5
  simp [look, q_keyI, z]
def IO (L : List Str) (p t : Nat) (ρ : Rho) : Prop := ∃ cs ss s4 s5 s6 s7 s8, ρ = qC L p (sD cs) (sD ss) s4 s5 s6 s7 s8 .un ∧ Kn L p t cs ss
theorem ob_at (ht : t ≤ L.length) (hl : L.length ≤ 200) {ρ : Rho} (I : IO L p t ρ) : ∃ ρ2, gOb (ρ.set 4 (.dat (.int (t : Int)))) = some (.nx ρ2) ∧ IO L p (t + 1) ρ2 := by
  obtain ⟨cs, ss, s4, s5, s6, s7, s8, rfl, h⟩ := I
  have lc := h.lc
  have ls := h.ls
  obtain ⟨u5, u7, e3⟩ := o3_at (s7' := s7) (s8 := s8) (s9 := .un) ht hl h
  have ne : offs L p (En L p) t (t + 1) ≠ [] := fun z => by
    have := congrArg List.length z
    unfold offs at this
    simp at this
  have hm := min_at ne
  rw [← En_is] at hm
  refine ⟨qC L p (sD (putD cs (.inl (t : Int)) (.int ((En L p t).1 + p)))) (sD (putD ss (.inl (t : Int)) (.int (En L p t).2))) (sT t) u5 (sL ((offs L p (En L p) t (t + 1)).map pD)) u7 (sI (En L p t).1) .un, ?_, _, _, _, _, _, _, _, rfl, ?_⟩
  · show gOb (qC L p (sD cs) (sD ss) (sT t) s5 s6 s7 s8 .un) = _
    unfold gOb
    rw [sq_nx (show fAsg (fC (.int 0)) (tName 5) (qC L p (sD cs) (sD ss) (sT t) s5 s6 s7 s8 .un) = some (.nx (qC L p (sD cs) (sD ss) (sT t) (sI 0) s6 s7 s8 .un)) from rfl)]
    rw [sq_nx (show fHold 6 (lLst lNil) (qC L p (sD cs) (sD ss) (sT t) (sI 0) s6 s7 s8 .un) = some (.nx (qC L p (sD cs) (sD ss) (sT t) (sI 0) (sL []) s7 s8 .un)) from rfl)]
    rw [sq_nx e3, sq_nx (o4_at hm (by omega)), sq_nx (o5_at (by omega))]
    exact q_fNx _
  · refine ⟨?_, ?_, fun b h1 h2 => ?_, fun j hj => ?_⟩
    · have := putD_len cs (.inl (t : Int)) (.int ((En L p t).1 + p)); omega
    · have := putD_len ss (.inl (t : Int)) (.int (En L p t).2); omega
    · rw [valD_put]
      by_cases c : b = (t : Int)
      · subst c
        rw [if_pos rfl]
        unfold Cb
        rw [if_neg (by omega), Int.toNat_natCast]
      · rw [if_neg (fun z => c (Sum.inl.inj z)), h.hc b h1 (by omega)]
    · rw [valD_put]
      by_cases c : j = t
      · subst c
        rw [if_pos rfl]
      · rw [if_neg (fun z => c (by have := Sum.inl.inj z; omega)), h.hs j (by omega)]
abbrev iTm : LF := iRange1 (lCons (fOp addD (gVal (fCl lenD (aCons (gVar 0) aNil))) (gVal (fC (.int 1)))) lNil)
def gTb : SF := fSq (fApp 9 (fIxP 3 (fOp ixD (gVar 9) (gVal (fC (.int (-1))))))) fNx
def gTt : TF := fTst (fOp geD (gVal (fOp ixD (gVar 9) (gVal (fC (.int (-1)))))) (gVal (fC (.int 0))))
def gT1 : SF := fHold 9 (lLst (lCons (fIxP 3 (fCl lenD (aCons (gVar 0) aNil))) lNil))
def gT3 : SF := fRet (fSl (gVar 9) oNone (oSome (fC (.int (-1)))))
theorem gT_is : g_cheapesttimes = fSq (fDicP1 2 (fC (.int (-1))) (fC (.int 0))) (fSq (fDicP 3) (fSq (fFor iTm (tName 4) gOb) (fSq gT1 (fSq (fWh gTt gTb 260) (fSq gT3 fNx))))) := rfl
theorem all_at (hl : L.length ≤ 200) : ∃ cs ss s4 s5 s6 s7 s8, fFor iTm (tName 4) gOb (qC L p (sD [(.inl (-1), .int 0)]) (sD []) .un .un .un .un .un .un) = some (.nx (qC L p (sD cs) (sD ss) s4 s5 s6 s7 s8 .un)) ∧ Kn L p (L.length + 1) cs ss := by
  have nl : (NX L).length = L.length := by simp [NX]
  have it : iTm (qC L p (sD [(.inl (-1), .int 0)]) (sD []) .un .un .un .un .un .un) = some (rangeD 0 (L.length + 1), qC L p (sD [(.inl (-1), .int 0)]) (sD []) .un .un .un .un .un .un) := by
    have z := q_iR (f := lCons (fOp addD (gVal (fCl lenD (aCons (gVar 0) aNil))) (gVal (fC (.int 1)))) lNil) (ρ := qC L p (sD [(.inl (-1), .int 0)]) (sD []) .un .un .un .un .un .un) (ρ' := qC L p (sD [(.inl (-1), .int 0)]) (sD []) .un .un .un .un .un .un) (j := (L.length : Int) + 1) (by simp [look, nl]) (small62_le (by omega) (by omega))
    have e : ((L.length : Int) + 1).toNat = L.length + 1 := by omega
    rw [e] at z
    exact z
  rw [for_it it]
  have I0 : IO L p 0 (qC L p (sD [(.inl (-1), .int 0)]) (sD []) .un .un .un .un .un .un) := by
    refine ⟨_, _, _, _, _, _, _, rfl, by simp, by simp, fun b h1 h2 => ?_, fun j hj => by omega⟩
    have z : b = -1 := by omega
    subst z
    rfl
  obtain ⟨ρ', e1, cs, ss, s4, s5, s6, s7, s8, rfl, h⟩ := loop_at (t := tName 4) (g := gOb) (IO L p) (rangeD 0 (L.length + 1)) I0 fun j d hd ρ I => by
    obtain ⟨hj, rfl⟩ := rangeD_at hd
    obtain ⟨ρ2, e, I2⟩ := ob_at (by omega) hl I
    exact ⟨_, ρ2, rfl, e, I2⟩
  rw [rangeD_len] at h
  exact ⟨cs, ss, s4, s5, s6, s7, s8, e1, h⟩
abbrev iD (xs : List Int) : List PyData := xs.map PyData.int
theorem tt_at {P x : Int} {A : List PyData} : gTt (qC L P s2 s3 s4 s5 s6 s7 s8 (sL (A ++ [PyData.int x]))) = some (decide (0 ≤ x), qC L P s2 s3 s4 s5 s6 s7 s8 (sL (A ++ [PyData.int x]))) := by
  have a := atI_last A (.int x)
  unfold gTt
  simp [look, a]
theorem tbd_at {P x y : Int} {A : List PyData} (hv : valD ss (.inl x) = some (.int y)) (hz : A.length ≤ 1000) : gTb (qC L P s2 (sD ss) s4 s5 s6 s7 s8 (sL (A ++ [PyData.int x]))) = some (.nx (qC L P s2 (sD ss) s4 s5 s6 s7 s8 (sL ((A ++ [PyData.int x]) ++ [PyData.int y])))) := by
  have a := atI_last A (.int x)
  have z : fits ((A ++ [PyData.int x]).length + 1) = true := decide_eq_true (by rw [List.length_append, List.length_singleton]; omega)
  unfold gTb
  generalize hB : A ++ [PyData.int x] = B at a z ⊢
  simp [look, a, q_keyI, hv, z]
theorem wh_at {P : Int} (hs : ∀ j : Nat, j < L.length + 1 → valD ss (.inl (j : Int)) = some (.int (En L p j).2)) : ∀ (f t F : Nat) (A : List PyData), t ≤ f → t ≤ L.length → f < F → A.length + f ≤ 1000 →
    fWh gTt gTb F (qC L P s2 (sD ss) s4 s5 s6 s7 s8 (sL (A ++ [PyData.int (En L p t).2]))) = some (.nx (qC L P s2 (sD ss) s4 s5 s6 s7 s8 (sL (A ++ natD (pth L p f t) ++ [PyData.int (-1)]))))
  | f, t, 0, A, _, _, h, _ => by omega
  | f, t, F + 1, A, h1, h2, h3, h4 => by
    rcases En_src (L := L) (p := p) t with ⟨e, _⟩ | ⟨s, lt, e, _⟩
    · have z : pth L p f t = [] := by
        cases f with
        | zero => rfl
        | succ f => rw [pth_succ, e, if_pos (by decide)]
      rw [z, e]
      unfold fWh
      rw [tt_at]
      simp
    · cases f with
      | zero => omega
      | succ f =>
        have z : pth L p (f + 1) t = s :: pth L p f s := by
          rw [pth_succ, e, if_neg (by omega), Int.toNat_natCast]
        have b := tbd_at (L := L) (P := P) (s2 := s2) (s4 := s4) (s5 := s5) (s6 := s6) (s7 := s7) (s8 := s8) (A := A) (hs s (by omega)) (by omega)
        have ih := wh_at (P := P) hs f s F (A ++ [PyData.int (s : Int)]) (by omega) (by omega) (by omega) (by rw [List.length_append, List.length_singleton]; omega)
        rw [z, e]
        unfold fWh
        rw [tt_at, decide_eq_true (by omega)]
        dsimp only
        rw [b]
        dsimp only
        rw [ih]
        simp [natD]
theorem m_cheap (hl : L.length ≤ 200) : F_cheapesttimes [sN L, .dat (.int (p : Int))] = some (.list (natD (pth L p L.length L.length)), [.un, .un]) := by
  have nl : (NX L).length = L.length := by simp [NX]
  obtain ⟨cs, ss, s4, s5, s6, s7, s8, e1, h⟩ := all_at (p := p) hl
  have hv := h.hs L.length (by omega)
  have t1 : gT1 (qC L p (sD cs) (sD ss) s4 s5 s6 s7 s8 .un) = some (.nx (qC L p (sD cs) (sD ss) s4 s5 s6 s7 s8 (sL [.int (En L p L.length).2]))) := by
    have f1 : fits 1 = true := rfl
    unfold gT1
    simp [look, nl, q_keyI, hv, f1]
  have w := wh_at (P := p) (s2 := sD cs) (s4 := s4) (s5 := s5) (s6 := s6) (s7 := s7) (s8 := s8) h.hs L.length L.length 260 [] (Nat.le_refl _) (Nat.le_refl _) (by omega) (by simp; omega)
  rw [List.nil_append, List.nil_append] at w
  have c := cut_last (natD (pth L p L.length L.length)) (.int (-1))
  have t3 : gT3 (qC L p (sD cs) (sD ss) s4 s5 s6 s7 s8 (sL (natD (pth L p L.length L.length) ++ [PyData.int (-1)]))) = some (.rt (.list (natD (pth L p L.length L.length))) (qC L p (sD cs) (sD ss) s4 s5 s6 s7 s8 (sL (natD (pth L p L.length L.length) ++ [PyData.int (-1)])))) := by
    have sl : sliceD (.list (natD (pth L p L.length L.length) ++ [PyData.int (-1)])) none (some (-1)) = some (.list (natD (pth L p L.length L.length))) := by
      show some (PyData.list (cutL _ _ _)) = _
      rw [c]
    unfold gT3
    generalize natD (pth L p L.length L.length) ++ [PyData.int (-1)] = B at sl ⊢
    simp [look, sl]
  show fBody 8 g_cheapesttimes _ = _
  refine body_rt (ρ := qC L p .un .un .un .un .un .un .un .un) rfl (?_ : g_cheapesttimes (qC L p .un .un .un .un .un .un .un .un) = some (Out.rt _ (qC L p (sD cs) (sD ss) s4 s5 s6 s7 s8 (sL (natD (pth L p L.length L.length) ++ [PyData.int (-1)])))))
  rw [gT_is, sq_nx (show fDicP1 2 (fC (.int (-1))) (fC (.int 0)) (qC L p .un .un .un .un .un .un .un .un) = some (.nx (qC L p (sD [(.inl (-1), .int 0)]) .un .un .un .un .un .un .un)) from rfl)]
  rw [sq_nx (show fDicP 3 (qC L p (sD [(.inl (-1), .int 0)]) .un .un .un .un .un .un .un) = some (.nx (qC L p (sD [(.inl (-1), .int 0)]) (sD []) .un .un .un .un .un .un)) from rfl)]
  rw [sq_nx e1, sq_nx t1, sq_nx w]
  exact sq_rt t3
end
end K75

set_option Elab.async false
set_option linter.all false
set_option maxRecDepth 100000
set_option maxHeartbeats 4000000
/-! What _law_foreseen tells. -/
namespace K75
open PySem PySem.Spec PyProof.Rows L2 GX StX DL
theorem cut_tail (ds : List PyData) {t : Nat} (h : t ≤ ds.length) : sliceD (.tuple ds) (some (t : Int)) none = some (.tuple (ds.drop t)) := by
  show some (PyData.tuple (cutL ds (some (t : Int)) none)) = _
  unfold cutL
  have e : HT.sIx ds.length 0 (some (t : Int)) = t := by
    rw [HT.sIx_nat]
    omega
  rw [e, HT.sIx_none]
  congr 2
  rw [List.take_of_length_le]
  rw [List.length_drop]
  omega
theorem flat_strs (xs : List Str) : (xs.map PyData.str).all flatD = true := by
  rw [List.all_eq_true]
  intro x hx
  obtain ⟨y, _, rfl⟩ := List.mem_map.mp hx
  rfl
theorem eqv_str (a b : Str) : PyData.eqv (.str a) (.str b) = decide (a = b) := by
  show (a == b) = _
  by_cases c : a = b <;> simp [c]
theorem mem_strs (x : Str) (xs : List Str) : memD (.str x) (xs.map .str) = decide (x ∈ xs) := by
  unfold memD
  rw [List.any_map]
  by_cases c : x ∈ xs
  · rw [decide_eq_true c, List.any_eq_true]
    exact ⟨x, c, by show PyData.eqv _ _ = true; rw [eqv_str]; simp⟩
  · rw [decide_eq_false c, List.any_eq_false]
    intro y hy
    show ¬ PyData.eqv _ _ = true
    rw [eqv_str, decide_eq_true_eq]
    intro z
    exact c (z ▸ hy)
theorem notin_strs (x : Str) (xs : List Str) : notInD (.str x) (.list (xs.map .str)) = some (.bool (!decide (x ∈ xs))) := by
  show (if (flatD (.str x) && (xs.map PyData.str).all flatD) = true then some (PyData.bool (!memD (.str x) (xs.map .str))) else _) = _
  rw [if_pos (by rw [flat_strs]; rfl), mem_strs]
theorem in_tail {L : List Str} {t : Nat} (w : Str) : inD (.str w) (.tuple ((L.map PyData.str).drop t)) = some (.bool (fo L t w).isSome) := by
  have m : w ∈ L.drop t ↔ (fo L t w).isSome = true := by
    constructor
    · intro h
      cases q : fo L t w with
      | some j => rfl
      | none =>
        obtain ⟨i, hi, e⟩ := List.getElem_of_mem h
        rw [List.length_drop] at hi
        have := fo_none q (t + i) (by omega)
        rw [List.getElem_drop] at e
        rw [List.getElem?_eq_getElem (by omega), e] at this
        exact (this rfl).elim
    · intro h
      obtain ⟨j, e⟩ := Option.isSome_iff_exists.mp h
      obtain ⟨a, b, c, _⟩ := fo_spec e
      rw [List.mem_iff_getElem?]
      exact ⟨j - t, by rw [List.getElem?_drop, show t + (j - t) = j by omega]; exact c⟩
  rw [← List.map_drop]
  show (if (flatD (.str w) && ((L.drop t).map PyData.str).all flatD) = true then some (PyData.bool (memD (.str w) ((L.drop t).map .str))) else _) = _
  rw [if_pos (by rw [flat_strs]; rfl), mem_strs]
  congr 2
  rw [Bool.eq_iff_iff, decide_eq_true_eq]
  exact m
theorem idx_tail {L : List Str} {t j : Nat} {w : Str} (h : fo L t w = some j) : tIndexD (.tuple ((L.map PyData.str).drop t)) [.str w] = some (.int ((j - t : Nat) : Int)) := by
  obtain ⟨a, b, c, d⟩ := fo_spec h
  rw [← List.map_drop]
  have i : idxL (.str w) ((L.drop t).map PyData.str) = some (j - t) := by
    unfold idxL
    rw [List.findIdx?_eq_some_iff_getElem]
    refine ⟨by rw [List.length_map, List.length_drop]; omega, ?_, fun k hk => ?_⟩
    · rw [List.getElem_map, eqv_str, List.getElem_drop]
      have : L[j]? = L[t + (j - t)]? := by rw [show t + (j - t) = j by omega]
      rw [c, List.getElem?_eq_getElem (by omega)] at this
      simp [Option.some.inj this]
    · rw [List.getElem_map, eqv_str, List.getElem_drop]
      have := d (t + k) (by omega) (by omega)
      rw [List.getElem?_eq_getElem (by omega)] at this
      simpa using this
  show (if (flatD (.str w) && ((L.drop t).map PyData.str).all flatD) = true then (idxL (.str w) ((L.drop t).map .str)).map (fun j => PyData.int (j : Nat)) else _) = _
  rw [if_pos (by rw [flat_strs]; rfl), i]
  rfl
theorem ints_back : ∀ ns : List Int, intsOf (ns.map PyData.int) = some ns
  | [] => rfl
  | n :: ns => by
    show (match intsOf (ns.map PyData.int) with
      | some is => some (n :: is)
      | none => none) = _
    rw [ints_back ns]
theorem max_ints {rs : List Int} (h : 0 < rs.length) : maxD [.list (rs.map .int)] = some (.int (mxI rs)) := by
  cases rs with
  | nil => simp at h
  | cons n ns =>
    show (match intsOf ((n :: ns).map PyData.int) with
      | some (n :: ns) => some (PyData.int (ns.foldl max n))
      | _ => none) = _
    rw [ints_back]
    rfl
theorem flat_ints (rs : List Int) : (rs.map PyData.int).all flatD = true := by
  rw [List.all_eq_true]
  intro x hx
  obtain ⟨y, _, rfl⟩ := List.mem_map.mp hx
  rfl
theorem eqv_int (a b : Int) : PyData.eqv (.int a) (.int b) = decide (a = b) := by
  show (a == b) = _
  by_cases c : a = b <;> simp [c]
theorem idx_max {rs : List Int} (h : 0 < rs.length) : lIndexD (.list (rs.map .int)) [.int (mxI rs)] = some (.int ((mi rs : Nat) : Int)) := by
  obtain ⟨hi, e⟩ := mi_is h
  have i : idxL (.int (mxI rs)) (rs.map PyData.int) = some (mi rs) := by
    unfold idxL
    rw [List.findIdx?_eq_some_iff_getElem]
    refine ⟨by rw [List.length_map]; exact hi, ?_, fun j hj => ?_⟩
    · rw [List.getElem_map, eqv_int, e]
      simp
    · rw [List.getElem_map, eqv_int]
      have := List.not_of_lt_findIdx hj
      simpa using this
  show (if (flatD (.int (mxI rs)) && (rs.map PyData.int).all flatD) = true then (idxL (.int (mxI rs)) (rs.map .int)).map (fun j => PyData.int (j : Nat)) else _) = _
  rw [if_pos (by rw [flat_ints]; rfl), i]
  rfl
theorem flT_strs (xs : List Str) : flTs (xs.map .str) = true := by
  induction xs with
  | nil => rfl
  | cons x xs ih => simp [flTs, flT, ih]
theorem flT_ints (xs : List Int) : flTs (xs.map .int) = true := by
  induction xs with
  | nil => rfl
  | cons x xs ih => simp [flTs, flT, ih]
theorem mrg_self : ∀ {ρ : Rho}, (∀ s ∈ ρ, mrgS s s = some s) → mrg ρ ρ = some ρ
  | [], _ => rfl
  | s :: ρ, h => by
    unfold mrg
    rw [h s List.mem_cons_self, mrg_self fun x hx => h x (List.mem_cons_of_mem _ hx)]
abbrev qV (L : List Str) (m : Nat) (h : List Str) (n : Nat) (s4 s5 : Sl) : Rho := [.dat (rowD L), .dat (.int (m : Int)), .own false (.l (h.map .str)), .dat (.int (n : Int)), s4, s5, .un]
def gVe : EF := fIf (fTst (fOp inD (gVar 6) (gVal (fSl (gVar 0) (oSome (fVar 4)) oNone)))) (fMe "tuple" tIndexD (gVal (fSl (gVar 0) (oSome (fVar 4)) oNone)) (aCons (gVar 6) aNil)) (fCl lenD (aCons (gVar 0) aNil))
def gVc : LF := fComp (iSeq (fVar 2)) [6] (tName 6) fYes gVe
def gV1 : SF := fAsg (fOp addD (gVar 3) (gVal (fC (.int 1)))) (tName 3)
def gV2a : SF := fHold 5 (fThaw 2 gVc)
def gV2b : SF := fDrop (fPop 2 (fMe "list" lIndexD (gVar 5) (aCons (gVal (fCl maxD (aCons (gVar 5) aNil))) aNil)))
def gV2 : SF := fIfS (fTst (fOp eqD (gVal (fCl lenD (aCons (gVar 2) aNil))) (gVar 1))) (fSq gV2a (fSq gV2b fNx)) fNx
def gV3 : SF := fApp 2 (fOp ixD (gVar 0) (gVar 4))
def gVt : TF := fTst (fOp notInD (gVal (fOp ixD (gVar 0) (gVar 4))) (gVar 2))
def gVb : SF := fSq (fIfS gVt (fSq gV1 (fSq gV2 (fSq gV3 fNx))) fNx) fNx
theorem gV_is : g_Lforeseen = fSq (fPar2 2 3 (xNew (lLst lNil)) (xDat (fC (.int 0)))) (fSq (fFor (iRange1 (lCons (fCl lenD (aCons (gVar 0) aNil)) lNil)) (tName 4) gVb) (fSq (fRet (fVar 3)) fNx)) := rfl
section
variable {L : List Str} {m t n : Nat} {h : List Str} {s4 s5 : Sl}
theorem sl_at {D T : List PyData} {s1 s2 s3 s5 s6 : Sl} (sl : sliceD (.tuple D) (some (t : Int)) none = some (.tuple T)) : fSl (gVar 0) (oSome (fVar 4)) oNone [.dat (.tuple D), s1, s2, s3, sT t, s5, s6] = some (.tuple T, [.dat (.tuple D), s1, s2, s3, sT t, s5, s6]) := by
  simp [sl]
theorem ve_none {D T : List PyData} {w : Str} {s1 s2 s3 s5 : Sl} (sl : sliceD (.tuple D) (some (t : Int)) none = some (.tuple T)) (i : inD (.str w) (.tuple T) = some (.bool false)) :
    gVe [.dat (.tuple D), s1, s2, s3, sT t, s5, .dat (.str w)] = some (.int (D.length : Int), [.dat (.tuple D), s1, s2, s3, sT t, s5, .dat (.str w)]) := by
  have S := sl_at (s1 := s1) (s2 := s2) (s3 := s3) (s5 := s5) (s6 := .dat (.str w)) sl
  unfold gVe
  generalize fSl (gVar 0) (oSome (fVar 4)) oNone = A at S ⊢
  generalize inD = op at i ⊢
  simp [S, i]
theorem ve_some {D T : List PyData} {w : Str} {s1 s2 s3 s5 : Sl} {d : PyData} (sl : sliceD (.tuple D) (some (t : Int)) none = some (.tuple T)) (i : inD (.str w) (.tuple T) = some (.bool true)) (x : tIndexD (.tuple T) [.str w] = some d) :
    gVe [.dat (.tuple D), s1, s2, s3, sT t, s5, .dat (.str w)] = some (d, [.dat (.tuple D), s1, s2, s3, sT t, s5, .dat (.str w)]) := by
  have S := sl_at (s1 := s1) (s2 := s2) (s3 := s3) (s5 := s5) (s6 := .dat (.str w)) sl
  have ty : tyD "tuple" (PyData.tuple T) = true := rfl
  unfold gVe
  generalize fSl (gVar 0) (oSome (fVar 4)) oNone = A at S ⊢
  generalize inD = op at i ⊢
  generalize tIndexD = op2 at x ⊢
  simp [S, i, x, ty]
theorem ve_at {w : Str} {s2 s3 : Sl} (ht : t < L.length) : gVe [.dat (rowD L), .dat (.int (m : Int)), s2, s3, sT t, s5, .dat (.str w)] = some (.int (rest L t w), [.dat (rowD L), .dat (.int (m : Int)), s2, s3, sT t, s5, .dat (.str w)]) := by
  have sl := cut_tail (L.map PyData.str) (t := t) (by rw [List.length_map]; omega)
  have i := in_tail (L := L) (t := t) w
  cases q : fo L t w with
  | none =>
    rw [q] at i
    have r : rest L t w = (((L.map PyData.str).length : Nat) : Int) := by unfold rest; rw [q, List.length_map]
    rw [r]
    exact ve_none sl i
  | some j =>
    rw [q] at i
    have r : rest L t w = ((j - t : Nat) : Int) := by unfold rest; rw [q]
    rw [r]
    exact ve_some sl i (idx_tail q)
theorem vc_at {s3 : Sl} (ht : t < L.length) (hz : h.length ≤ 1000) : gVc [.dat (rowD L), .dat (.int (m : Int)), .dat (.list (h.map .str)), s3, sT t, s5, .un] = some ((h.map (rest L t)).map .int, [.dat (rowD L), .dat (.int (m : Int)), .dat (.list (h.map .str)), s3, sT t, s5, .un]) := by
  unfold gVc
  have z := comp_all (it := iSeq (fVar 2)) (ks := [6]) (t := tName 6) (f := gVe) (fun w : Str => PyData.str w) (fun w : Str => PyData.int (rest L t w)) (ρ := [.dat (rowD L), .dat (.int (m : Int)), .dat (.list (h.map .str)), s3, sT t, s5, .un]) (ρ1 := [.dat (rowD L), .dat (.int (m : Int)), .dat (.list (h.map .str)), s3, sT t, s5, .un]) h rfl rfl (fun w hw =>
    ⟨[.dat (rowD L), .dat (.int (m : Int)), .dat (.list (h.map .str)), s3, sT t, s5, .dat (.str w)], [.dat (rowD L), .dat (.int (m : Int)), .dat (.list (h.map .str)), s3, sT t, s5, .dat (.str w)], rfl, ve_at ht, rfl⟩) (by omega)
  rw [z, List.map_map]
  rfl
theorem v2a_at (ht : t < L.length) (hz : h.length ≤ 1000) (h5 : mrgS s5 s5 = some s5) : gV2a (qV L m h n (sT t) s5) = some (.nx (qV L m h n (sT t) (.own false (.l ((h.map (rest L t)).map .int))))) := by
  have c := vc_at (m := m) (s5 := s5) (s3 := .dat (.int (n : Int))) ht hz
  have mm : mrg [.dat (rowD L), .dat (.int (m : Int)), .dat (.list (h.map .str)), .dat (.int (n : Int)), sT t, s5, .un] [.dat (rowD L), .dat (.int (m : Int)), .dat (.list (h.map .str)), .dat (.int (n : Int)), sT t, s5, .un] = some [.dat (rowD L), .dat (.int (m : Int)), .dat (.list (h.map .str)), .dat (.int (n : Int)), sT t, s5, .un] := mrg_self fun s hs => by
    simp only [List.mem_cons, List.not_mem_nil, or_false] at hs
    rcases hs with rfl | rfl | rfl | rfl | rfl | rfl | rfl <;> first | rfl | exact h5
  have fl := flT_ints (h.map (rest L t))
  have T : fThaw 2 gVc (qV L m h n (sT t) s5) = some ((h.map (rest L t)).map .int, qV L m h n (sT t) s5) := by
    show (match gVc [.dat (rowD L), .dat (.int (m : Int)), .dat (.list (h.map .str)), .dat (.int (n : Int)), sT t, s5, .un] with
      | some (es, ρ') => if flTs es = true then match mrg [.dat (rowD L), .dat (.int (m : Int)), .dat (.list (h.map .str)), .dat (.int (n : Int)), sT t, s5, .un] ρ' with
          | some r => some (es, r.set 2 (Sl.own false (Cn.l (h.map .str))))
          | none => none
        else none
      | none => none) = _
    rw [c]
    dsimp only
    rw [if_pos fl, mm]
    rfl
  unfold gV2a
  generalize fThaw 2 gVc = A at T ⊢
  generalize (h.map (rest L t)).map PyData.int = R at T ⊢
  simp [T]
theorem drop_at {A : EF} {ρ ρ' : Rho} {d : PyData} (P : A ρ = some (d, ρ')) : fDrop A ρ = some (.nx ρ') := by
  simp [P]
theorem erase_strs : ∀ (l : List Str) (i : Nat), (l.map PyData.str).eraseIdx i = (l.eraseIdx i).map .str
  | [], _ => rfl
  | a :: l, 0 => rfl
  | a :: l, i + 1 => by
    have := erase_strs l i
    simpa using this
theorem v2b_at (hp : 0 < h.length) (hz : h.length ≤ 1000) : gV2b (qV L m h n (sT t) (.own false (.l ((h.map (rest L t)).map .int)))) = some (.nx (qV L m (dropH L t h) n (sT t) (.own false (.l ((h.map (rest L t)).map .int))))) := by
  have hl : 0 < (h.map (rest L t)).length := by rw [List.length_map]; exact hp
  have a := max_ints hl
  have b := idx_max hl
  obtain ⟨hi, _⟩ := mi_is hl
  rw [List.length_map] at hi
  have hi' : mi (h.map (rest L t)) < (h.map PyData.str).length := by rw [List.length_map]; exact hi
  have e : (h.map PyData.str).eraseIdx (mi (h.map (rest L t))) = (dropH L t h).map .str := erase_strs h _
  have ty : ∀ ds, tyD "list" (PyData.list ds) = true := fun _ => rfl
  have I : fMe "list" lIndexD (gVar 5) (aCons (gVal (fCl maxD (aCons (gVar 5) aNil))) aNil) (qV L m h n (sT t) (.own false (.l ((h.map (rest L t)).map .int)))) = some (.int ((mi (h.map (rest L t)) : Nat) : Int), qV L m h n (sT t) (.own false (.l ((h.map (rest L t)).map .int)))) := by
    generalize (h.map (rest L t)).map PyData.int = R at a b ⊢
    generalize maxD = op at a ⊢
    generalize lIndexD = op2 at b ⊢
    simp [a, b, ty]
  have P : fPop 2 (fMe "list" lIndexD (gVar 5) (aCons (gVal (fCl maxD (aCons (gVar 5) aNil))) aNil)) (qV L m h n (sT t) (.own false (.l ((h.map (rest L t)).map .int)))) = some ((h.map PyData.str)[mi (h.map (rest L t))], qV L m (dropH L t h) n (sT t) (.own false (.l ((h.map (rest L t)).map .int)))) := by
    generalize fMe "list" lIndexD (gVar 5) (aCons (gVal (fCl maxD (aCons (gVar 5) aNil))) aNil) = A at I ⊢
    unfold fPop
    rw [I]
    show (if 0 ≤ ((mi (h.map (rest L t)) : Nat) : Int) ∧ ((mi (h.map (rest L t)) : Nat) : Int).toNat < (h.map PyData.str).length ∧ ((mi (h.map (rest L t)) : Nat) : Int) < 1000000 then ((h.map PyData.str)[((mi (h.map (rest L t)) : Nat) : Int).toNat]?).map (fun d => (d, (qV L m h n (sT t) (.own false (.l ((h.map (rest L t)).map .int)))).set 2 (Sl.own false (Cn.l ((h.map PyData.str).eraseIdx ((mi (h.map (rest L t)) : Nat) : Int).toNat))))) else none) = _
    rw [if_pos ⟨by omega, by rw [Int.toNat_natCast]; exact hi', by omega⟩, Int.toNat_natCast, List.getElem?_eq_getElem hi', e]
    rfl
  exact drop_at P
theorem v2_at (ht : t < L.length) (hz : h.length ≤ 1000) (m1 : 1 ≤ m) (h5 : mrgS s5 s5 = some s5) : ∃ u5 : Sl, mrgS u5 u5 = some u5 ∧ gV2 (qV L m h n (sT t) s5) = some (.nx (qV L m (if h.length = m then dropH L t h else h) n (sT t) u5)) := by
  have q : eqD (.int (h.length : Int)) (.int (m : Int)) = some (.bool (decide (h.length = m))) := by
    show some (PyData.bool (PyData.eqv (.int (h.length : Int)) (.int (m : Int)))) = _
    rw [eqv_nat]
  have tt : fTst (fOp eqD (gVal (fCl lenD (aCons (gVar 2) aNil))) (gVar 1)) (qV L m h n (sT t) s5) = some (decide (h.length = m), qV L m h n (sT t) s5) := by
    generalize eqD = op at q ⊢
    simp [q]
  unfold gV2
  by_cases c : h.length = m
  · rw [decide_eq_true c] at tt
    refine ⟨.own false (.l ((h.map (rest L t)).map .int)), ?_, ?_⟩
    · show (if flTs ((h.map (rest L t)).map .int) = true then _ else none) = _
      rw [if_pos (flT_ints _)]
    · rw [ifs_t tt, if_pos c, sq_nx (v2a_at ht hz h5), sq_nx (v2b_at (by omega) hz)]
      exact q_fNx _
  · rw [decide_eq_false c] at tt
    refine ⟨s5, h5, ?_⟩
    rw [ifs_f tt, if_neg c]
    exact q_fNx _
theorem vt_at (ht : t < L.length) : gVt (qV L m h n (sT t) s5) = some (!decide (L.getD t "" ∈ h), qV L m h n (sT t) s5) := by
  have a := ix_row ht
  have q := notin_strs (L.getD t "") h
  unfold gVt
  generalize L.getD t "" = w at a q ⊢
  generalize notInD = op at q ⊢
  simp [a, q]
theorem v1_at (hn : n ≤ 1000) : gV1 (qV L m h n s4 s5) = some (.nx (qV L m h (n + 1) s4 s5)) := by
  unfold gV1
  simp
theorem v3_at (ht : t < L.length) (hz : h.length ≤ 1000) : gV3 (qV L m h n (sT t) s5) = some (.nx (qV L m (h ++ [L.getD t ""]) n (sT t) s5)) := by
  have a := ix_row ht
  have fz : fits ((h.map PyData.str).length + 1) = true := decide_eq_true (by rw [List.length_map]; omega)
  have e : (h ++ [L.getD t ""]).map PyData.str = h.map .str ++ [.str (L.getD t "")] := List.map_append
  unfold gV3 qV
  rw [e]
  generalize h.map PyData.str = H at fz ⊢
  simp [a, fz]
theorem vb_at (ht : t < L.length) (hz : h.length ≤ m) (m1 : 1 ≤ m) (m4 : m ≤ 4) (hn : n ≤ 1000) (h5 : mrgS s5 s5 = some s5) : ∃ u5 : Sl, mrgS u5 u5 = some u5 ∧ gVb (qV L m h n (sT t) s5) = some (.nx (qV L m (stepH L m t h) (stepM L t h n) (sT t) u5)) := by
  have tt := vt_at (m := m) (h := h) (n := n) (s5 := s5) ht
  unfold gVb
  by_cases c : L.getD t "" ∈ h
  · refine ⟨s5, h5, ?_⟩
    rw [decide_eq_true c] at tt
    have e1 : stepH L m t h = h := if_pos c
    have e2 : stepM L t h n = n := if_pos c
    rw [e1, e2]
    refine (sq_nx ((ifs_f tt).trans (q_fNx _))).trans (q_fNx _)
  · rw [decide_eq_false c] at tt
    obtain ⟨u5, hu, e⟩ := v2_at (n := n + 1) (s5 := s5) (h := h) ht (by omega) m1 h5
    have e1 : stepH L m t h = (if h.length = m then dropH L t h else h) ++ [L.getD t ""] := if_neg c
    have e2 : stepM L t h n = n + 1 := if_neg c
    have l1 : (if h.length = m then dropH L t h else h).length ≤ 1000 := by
      split
      · unfold dropH
        have := List.length_eraseIdx_le h (mi (h.map (rest L t)))
        omega
      · omega
    refine ⟨u5, hu, ?_⟩
    rw [e1, e2]
    refine (sq_nx ((ifs_t tt).trans ?_)).trans (q_fNx _)
    rw [sq_nx (v1_at hn), sq_nx e]
    exact (sq_nx (v3_at ht l1)).trans (q_fNx _)
theorem m_fore (hl : L.length ≤ 1000) (m1 : 1 ≤ m) (m4 : m ≤ 4) : F_Lforeseen [.dat (rowD L), .dat (.int (m : Int))] = some (.int ((L.length - GN L m : Nat) : Int), [.un, .un]) := by
  have it : iRange1 (lCons (fCl lenD (aCons (gVar 0) aNil)) lNil) (qV L m [] 0 .un .un) = some (rangeD 0 L.length, qV L m [] 0 .un .un) := by
    rw [rangeD_map]
    exact rng_len hl (tl := [.dat (.int (m : Int)), .own false (.l []), .dat (.int 0), .un, .un, .un])
  obtain ⟨ρ', e, s4, s5, _, h⟩ := loop_at (t := tName 4) (g := gVb) (fun j ρ => ∃ s4 s5 : Sl, mrgS s5 s5 = some s5 ∧ ρ = qV L m (runH L m j).1 (runH L m j).2 s4 s5) (rangeD 0 L.length) (ρ := qV L m [] 0 .un .un) ⟨.un, .un, rfl, rfl⟩ (by
    rintro j d hd ρ ⟨s4, s5, h5, rfl⟩
    obtain ⟨hj, rfl⟩ := rangeD_at hd
    have f := fi_run (L := L) m1 j (by omega)
    have ms := f.ms
    obtain ⟨u5, hu, e⟩ := vb_at (n := (runH L m j).2) (s5 := s5) hj f.len m1 m4 (by omega) h5
    exact ⟨qV L m (runH L m j).1 (runH L m j).2 (sT j) s5, _, rfl, e, sT j, u5, hu, rfl⟩)
  rw [rangeD_len] at h
  have fm := fore_misses (L := L) m1
  have all : g_Lforeseen [.dat (rowD L), .dat (.int (m : Int)), .un, .un, .un, .un, .un] = some (.rt (.int ((L.length - GN L m : Nat) : Int)) ρ') := by
    rw [gV_is, sq_nx (show fPar2 2 3 (xNew (lLst lNil)) (xDat (fC (.int 0))) [.dat (rowD L), .dat (.int (m : Int)), .un, .un, .un, .un, .un] = some (.nx (qV L m [] 0 .un .un)) from rfl), sq_nx ((for_it it).trans e), h, fm]
    rfl
  rw [h] at all
  exact (body_rt (m := 5) (g := g_Lforeseen) (sls := [.dat (rowD L), .dat (.int (m : Int))]) rfl all).trans (by simp [List.range, List.range.loop])
end
end K75

set_option Elab.async false
set_option linter.all false
set_option maxRecDepth 100000
set_option maxHeartbeats 4000000
/-! The program's best_weights; the law's bound of them. -/
namespace K75
open PySem PySem.Spec PyProof.Rows L2 GX StX DL
def wt (T : List Nat) (i : Nat) : Int := if i ∈ T then 1 else 0
/-- the weights -/
def bw (L : List Str) (m : Nat) : List Int := (List.range L.length).map (wt (TS L m))
theorem bw_len (L : List Str) (m : Nat) : (bw L m).length = L.length := by simp [bw]
abbrev qW (L : List Str) (m : Nat) (s2 s3 : Sl) : Rho := [.dat (rowD L), .dat (.int (m : Int)), s2, s3]
def gB1 : SF := fDrop (fCa 2 F_checkknown (aCons (gVar 0) (aCons (gVar 1) aNil)))
def gB2 : SF := fAsg (fCa 2 F_cheapesttimes (aCons (gVal (fCa 1 F_nextrequests (aCons (gVar 0) aNil))) (aCons (gVal (fOp subD (gVar 1) (gVal (fC (.int 1))))) aNil))) (tName 2)
def gBf : EF := fIf (fTst (fOp inD (gVar 3) (gVar 2))) (fC (.int 1)) (fC (.int 0))
def gBc : LF := fComp (iRange1 (lCons (fCl lenD (aCons (gVar 0) aNil)) lNil)) [3] (tName 3) fYes gBf
def gB3 : SF := fRet (fCl tupleD (aCons (gVal (fLst gBc)) aNil))
theorem gB_is : g_bestweights = fSq gB1 (fSq gB2 (fSq gB3 fNx)) := rfl
section
variable {L : List Str} {m : Nat}
theorem b1_at {r d : PyData} {s2 s3 : Sl} (c : F_checkknown [.dat r, .dat d] = some (.none, [.un, .un])) : gB1 [.dat r, .dat d, s2, s3] = some (.nx [.dat r, .dat d, s2, s3]) := by
  unfold gB1
  generalize F_checkknown = A at c ⊢
  simp [c]
theorem b2_at {r x y : PyData} {d : Int} {s2 s3 : Sl} (n : F_nextrequests [.dat r] = some (x, [.un])) (c : F_cheapesttimes [.dat x, .dat (.int (d - 1))] = some (y, [.un, .un])) : gB2 [.dat r, .dat (.int d), s2, s3] = some (.nx [.dat r, .dat (.int d), .dat y, s3]) := by
  unfold gB2
  generalize F_nextrequests = A at n ⊢
  generalize F_cheapesttimes = B at c ⊢
  simp [n, c]
theorem bf_at {r d : PyData} {T : List Nat} {i : Nat} : gBf [.dat r, .dat d, .dat (.list (natD T)), sT i] = some (.int (wt T i), [.dat r, .dat d, .dat (.list (natD T)), sT i]) := by
  have q := in_nat i T
  unfold gBf wt
  generalize inD = op at q ⊢
  by_cases c : i ∈ T
  · rw [decide_eq_true c] at q
    simp [q, c, fIf]
  · rw [decide_eq_false c] at q
    simp [q, c, fIf]
theorem bc_at (hl : L.length ≤ 1000) {d : PyData} {T : List Nat} : gBc [.dat (rowD L), .dat d, .dat (.list (natD T)), .un] = some (((List.range L.length).map (wt T)).map PyData.int, [.dat (rowD L), .dat d, .dat (.list (natD T)), .un]) := by
  unfold gBc
  have z := comp_all (it := iRange1 (lCons (fCl lenD (aCons (gVar 0) aNil)) lNil)) (ks := [3]) (t := tName 3) (f := gBf) (fun i : Nat => PyData.int ((i : Nat) : Int)) (fun i : Nat => PyData.int (wt T i)) (ρ := [.dat (rowD L), .dat d, .dat (.list (natD T)), .un]) (List.range L.length) (rng_len hl) rfl (fun i hi => by
    exact ⟨[.dat (rowD L), .dat d, .dat (.list (natD T)), sT i], [.dat (rowD L), .dat d, .dat (.list (natD T)), sT i], rfl, bf_at, rfl⟩) (by rw [List.length_range]; omega)
  rw [z, List.map_map]
  rfl
theorem b3_at {ρ : Rho} {B : List PyData} (cc : gBc ρ = some (B, ρ)) : gB3 ρ = some (.rt (.tuple B) ρ) := by
  unfold gB3
  generalize gBc = C at cc ⊢
  simp [cc]
theorem m_best (K : Known L (m : Int)) : F_bestweights [.dat (rowD L), .dat (.int (m : Int))] = some (.tuple ((bw L m).map .int), [.un, .un]) := by
  have m1 : 1 ≤ m := by have := K.m1; omega
  have hl2 := K.len
  have hl : L.length ≤ 1000 := by omega
  have c := m_known K
  have n := m_next hl
  have ch := m_cheap (L := L) (p := m - 1) hl2
  have e : ((m - 1 : Nat) : Int) = (m : Int) - 1 := by omega
  rw [e] at ch
  have a0 := b1_at (s2 := .un) (s3 := .un) c
  have a1 := b2_at (s2 := .un) (s3 := .un) n ch
  have a2 := b3_at (bc_at (L := L) (d := .int (m : Int)) (T := TS L m) hl)
  have all : g_bestweights (qW L m .un .un) = some (.rt (.tuple ((bw L m).map .int)) (qW L m (.dat (.list (natD (TS L m)))) .un)) := by
    rw [gB_is, sq_nx a0, sq_nx a1]
    exact sq_rt a2
  exact (body_rt (m := 2) (g := g_bestweights) (sls := [.dat (rowD L), .dat (.int (m : Int))]) rfl all).trans (by simp [List.range, List.range.loop])
end
/-! ### the law's bound -/
theorem cut_mid (T : List Nat) {n a b : Nat} (h : a + b ≤ n) : ((List.range n).drop a).take b = List.range' a b := by
  refine List.ext_getElem (by simp; omega) fun i h1 h2 => ?_
  simp
theorem sum_wt (T : List Nat) : ∀ xs : List Nat, (xs.map (wt T)).sum = ((xs.countP fun x => decide (x ∈ T) : Nat) : Int)
  | [] => rfl
  | x :: xs => by
    rw [List.map_cons, List.sum_cons, sum_wt T xs, List.countP_cons]
    unfold wt
    by_cases c : x ∈ T
    · simp [c]; omega
    · simp [c]
theorem sum_all {T : List Nat} {n : Nat} (c : Ch T n) : ((List.range n).map (wt T)).sum = (T.length : Int) := by
  rw [sum_wt]
  congr 1
  rw [List.countP_eq_length_filter]
  refine List.Perm.length_eq ((List.perm_ext_iff_of_nodup (List.Nodup.sublist List.filter_sublist List.nodup_range) ?_).mpr fun a => ?_)
  · exact c.1.imp fun h z => by omega
  · rw [List.mem_filter, List.mem_range]
    exact ⟨fun h => of_decide_eq_true h.2, fun h => ⟨c.2 a h, decide_eq_true h⟩⟩
theorem max_hit {L : List Str} {T : List Nat} {i j n : Nat} (e : nxt L i = some j) (hj : j ≤ n) (hi : i < j) : (if 1 - ((((List.range n).drop (i + 1)).take (j - (i + 1))).map (wt T)).sum > 0 then 1 - ((((List.range n).drop (i + 1)).take (j - (i + 1))).map (wt T)).sum else 0) = if hit L T i = true then (0 : Int) else 1 := by
  rw [cut_mid T (by omega), sum_wt]
  by_cases c : hit L T i = true
  · rw [if_pos c]
    obtain ⟨x, hx, q⟩ := hit_iff.mp c
    obtain ⟨l1, j', e', l2⟩ := ov_iff.mp q
    rw [e] at e'
    cases e'
    have p : 0 < (List.range' (i + 1) (j - (i + 1))).countP fun x => decide (x ∈ T) := List.countP_pos_iff.mpr ⟨x, by rw [List.mem_range'_1]; omega, decide_eq_true hx⟩
    rw [if_neg (by omega)]
  · rw [if_neg c]
    have z : (List.range' (i + 1) (j - (i + 1))).countP (fun x => decide (x ∈ T)) = 0 := cp_zero fun x hx => by
      rw [List.mem_range'_1] at hx
      refine decide_eq_false fun h => c (hit_iff.mpr ⟨x, h, ov_iff.mpr ⟨by omega, j, e, by omega⟩⟩)
    rw [z]
    rfl
theorem sum_ints (ns : List Int) : sumTD [.tuple (ns.map .int)] = some (.int ns.sum) := by
  show (match intsOf (ns.map PyData.int) with
    | some ns => some (PyData.int ns.sum)
    | none => none) = _
  rw [ints_back]
theorem cut_two (ds : List PyData) {a b : Nat} (h1 : a ≤ b) (h2 : b ≤ ds.length) : sliceD (.tuple ds) (some (a : Int)) (some (b : Int)) = some (.tuple ((ds.drop a).take (b - a))) := by
  show some (PyData.tuple (cutL ds _ _)) = _
  unfold cutL
  rw [HT.sIx_nat, HT.sIx_nat, Nat.min_eq_left h2, Nat.min_eq_left (Nat.le_trans h1 h2)]
end K75

set_option Elab.async false
set_option linter.all false
set_option maxRecDepth 100000
set_option maxHeartbeats 4000000
/-! The law's bound, worked out. -/
namespace K75
open PySem PySem.Spec PyProof.Rows L2 GX StX DL
abbrev qD (L : List Str) (m : Int) (ws : List Int) (s3 s4 s5 : Sl) : Rho := [.dat (rowD L), .dat (.int m), .dat (.tuple (ws.map .int)), s3, s4, s5]
def gD1 : SF := fPar 3 4 (lCons (fCa 1 F_Llater (aCons (gVar 0) aNil)) (lCons (fOp mulD (gVal (fOp subD (gVar 1) (gVal (fC (.int 1))))) (gVal (fCl sumTD (aCons (gVar 2) aNil)))) lNil))
def gDs : EF := fSl (gVar 2) (oSome (fOp addD (gVar 5) (gVal (fC (.int 1))))) (oSome (fOp ixD (gVar 3) (gVar 5)))
def gDm : EF := fCl maxD (aCons (gVal (fC (.int 0))) (aCons (gVal (fOp subD (gVal (fC (.int 1))) (gVal (fCl sumTD (aCons (gVal gDs) aNil))))) aNil))
def gDa : SF := fAsg (fOp addD (gVar 4) (gVal gDm)) (tName 4)
def gDt : TF := fTst (fOp isNotD (gVal (fOp ixD (gVar 3) (gVar 5))) (gVal (fC .none)))
def gDb : SF := fSq (fIfS gDt (fSq gDa fNx) fNx) fNx
theorem gD_is : g_Lbound = fSq gD1 (fSq (fFor (iRange1 (lCons (fCl lenD (aCons (gVar 0) aNil)) lNil)) (tName 5) gDb) (fSq (fRet (fVar 4)) fNx)) := rfl
section
variable {L : List Str} {m : Nat} {ws : List Int} {s3 s4 s5 : Sl} {i j : Nat}
theorem d1_at {r x W : PyData} {M S : Int} (n : F_Llater [.dat r] = some (x, [.un])) (hs : sumTD [W] = some (.int S)) (hm : smallI (M - 1) = true) : gD1 [.dat r, .dat (.int M), .dat W, .un, .un, .un] = some (.nx [.dat r, .dat (.int M), .dat W, .dat x, .dat (.int ((M - 1) * S)), .un]) := by
  unfold gD1
  generalize F_Llater = A at n ⊢
  generalize sumTD = op at hs ⊢
  simp [n, hs, hm]
theorem ix5 {r W : PyData} {M : Int} {d : PyData} {N : List PyData} (a : atI N (i : Int) = some d) : fOp ixD (gVar 3) (gVar 5) [.dat r, .dat (.int M), .dat W, .dat (.list N), s4, sT i] = some (d, [.dat r, .dat (.int M), .dat W, .dat (.list N), s4, sT i]) := by
  simp [look, a]
theorem dt_at {r W : PyData} {M : Int} {N : List PyData} {o : Option Nat} (a : atI N (i : Int) = some (oN o)) : gDt [.dat r, .dat (.int M), .dat W, .dat (.list N), s4, sT i] = some (o.isSome, [.dat r, .dat (.int M), .dat W, .dat (.list N), s4, sT i]) := by
  unfold gDt
  cases o with
  | none => simp [look, a, oN, isn0]
  | some j => simp [look, a, oN, isn1]
theorem dm_at {r : PyData} {M S : Int} {N W U : List PyData} (a : atI N (i : Int) = some (.int (j : Nat))) (sl : sliceD (.tuple W) (some ((i : Int) + 1)) (some (j : Int)) = some (.tuple U)) (hs : sumTD [.tuple U] = some (.int S)) :
    gDm [.dat r, .dat (.int M), .dat (.tuple W), .dat (.list N), s4, sT i] = some (.int (if 1 - S > 0 then 1 - S else 0), [.dat r, .dat (.int M), .dat (.tuple W), .dat (.list N), s4, sT i]) := by
  have mx : ∀ y : Int, maxD [.int 0, .int y] = some (.int (if y > 0 then y else 0)) := fun _ => rfl
  have z := mx (1 - S)
  have sl' : fSl (gVar 2) (oSome (fOp addD (gVar 5) (gVal (fC (.int 1))))) (oSome (fOp ixD (gVar 3) (gVar 5))) [.dat r, .dat (.int M), .dat (.tuple W), .dat (.list N), s4, sT i] = some (.tuple U, [.dat r, .dat (.int M), .dat (.tuple W), .dat (.list N), s4, sT i]) := by
    simp [look, a, sl]
  unfold gDm gDs
  generalize fSl (gVar 2) (oSome (fOp addD (gVar 5) (gVal (fC (.int 1))))) (oSome (fOp ixD (gVar 3) (gVar 5))) = E at sl' ⊢
  generalize sumTD = op at hs ⊢
  generalize maxD = op2 at z ⊢
  simp [sl', hs, z]
theorem da_at {ρ : Rho} {F x : Int} (h4 : ρ[4]? = some (.dat (.int F))) (h : gDm ρ = some (.int x, ρ)) : gDa ρ = some (.nx (ρ.set 4 (.dat (.int (F + x))))) := by
  unfold gDa
  generalize gDm = E at h ⊢
  simp [look, h4, h]
theorem db_at {M : Int} {F : Nat} {T : List Nat} (hl : L.length ≤ 1000) (hi : i < L.length) (hw : ws = (List.range L.length).map (wt T)) : gDb (qD L M ws (sN L) (sI F) (sT i)) = some (.nx (qD L M ws (sN L) (sI ((F + if (ended L L.length i && !hit L T i) = true then 1 else 0 : Nat) : Int)) (sT i))) := by
  have a := atN hi
  have t := dt_at (r := rowD L) (W := .tuple (ws.map .int)) (M := M) (s4 := sI F) a
  unfold gDb
  cases e : nxt L i with
  | none =>
    rw [e] at t
    rw [sq_nx ((ifs_f t).trans (q_fNx _))]
    have z : ended L L.length i = false := by unfold ended; rw [e]
    rw [z]
    exact q_fNx _
  | some j =>
    rw [e] at t a
    obtain ⟨lt, le, _⟩ := nxt_spec e
    have z : ended L L.length i = true := ended_iff.mpr ⟨j, e, by omega⟩
    have sl := cut_two (ws.map PyData.int) (a := i + 1) (b := j) (by omega) (by rw [hw]; simp; omega)
    rw [← List.map_drop, ← List.map_take] at sl
    have e1 : ((i + 1 : Nat) : Int) = (i : Int) + 1 := by omega
    rw [e1] at sl
    have hs := sum_ints ((ws.drop (i + 1)).take (j - (i + 1)))
    have dm := dm_at (r := rowD L) (M := M) (s4 := sI F) (j := j) a sl hs
    have mh := max_hit (T := T) (n := L.length) e (by omega) lt
    rw [List.map_take, List.map_drop, ← hw] at mh
    rw [mh] at dm
    rw [sq_nx ((ifs_t t).trans (sq_nx (da_at (ρ := qD L M ws (sN L) (sI F) (sT i)) rfl dm)))] <;> try exact q_fNx _
    rw [z]
    cases hit L T i <;> simp [qD]
end
end K75

set_option Elab.async false
set_option linter.all false
set_option maxRecDepth 100000
set_option maxHeartbeats 4000000
/-! A history drawn; whether both functions tell so many misses. -/
namespace K75
open PySem PySem.Spec PyProof.Rows L2 GX StX DL
theorem eq_int (i j : Int) : eqD (.int i) (.int j) = some (.bool (decide (i = j))) := by
  show some (PyData.bool (PyData.eqv (.int i) (.int j))) = _
  rw [eqv_int]
abbrev rS (a b : Int) (P : List PyData) (n w : Int) (s5 : Sl) : Rho := [.own true P, .dat (.int a), .dat (.int b), .dat (.int n), .dat (.int w), s5]
def gR1 : SF := fAsg (fTup (lCons (fCa 2 F_Ldraw (aCons (gVar 0) (aCons (gVal (fOp addD (gVar 1) (gVal (fC (.int 1))))) aNil))) (lCons (fOp addD (gVal (fC (.int 1))) (gVal (fCa 2 F_Ldraw (aCons (gVar 0) (aCons (gVar 2) aNil))))) lNil))) (tTupT 2 [(tName 3), (tName 4)])
def gRt : TF := fTst (fOp eqD (gVal (fCa 2 F_Ldraw (aCons (gVar 0) (aCons (gVal (fC (.int 4))) aNil)))) (gVal (fC (.int 0))))
def gRf1 : EF := fOp ixD (gVal (fC (.str "abcdefghijkl"))) (gVal (fOp modD (gVar 5) (gVar 4)))
def gRf2 : EF := fOp ixD (gVal (fC (.str "abcdefghijkl"))) (gVal (fCa 2 F_Ldraw (aCons (gVar 0) (aCons (gVar 4) aNil))))
def gRc (f : EF) : LF := fComp (iRange1 (lCons (fVar 3) lNil)) [5] (tName 5) fYes f
def gRr (f : EF) : SF := fRet (fCl tupleD (aCons (gVal (fLst (gRc f))) aNil))
theorem gR_is : g_Lrow = fSq gR1 (fSq (fIfS gRt (fSq (gRr gRf1) fNx) fNx) (fSq (gRr gRf2) fNx)) := rfl
section
variable {a b : Int}
theorem r1v {P P1 P2 : List PyData} {n w : Int} (e1 : F_Ldraw [.own true P, .dat (.int (a + 1))] = some (.int n, [.own true P1, .un])) (e2 : F_Ldraw [.own true P1, .dat (.int b)] = some (.int w, [.own true P2, .un])) : gR1 [.own true P, .dat (.int a), .dat (.int b), .un, .un, .un] = some (.nx (rS a b P2 n (1 + w) .un)) := by
  have f2 : fits 2 = true := by decide
  unfold gR1
  generalize F_Ldraw = A at e1 e2 ⊢
  simp [e1, e2, f2]
theorem rtv {P P1 : List PyData} {n w d : Int} (e1 : F_Ldraw [.own true P, .dat (.int 4)] = some (.int d, [.own true P1, .un])) : gRt (rS a b P n w .un) = some (decide (d = 0), rS a b P1 n w .un) := by
  have e := eq_int d 0
  unfold gRt
  generalize F_Ldraw = A at e1 ⊢
  generalize decide (d = 0) = b at e ⊢
  generalize eqD = op at e ⊢
  simp [e1, e]
theorem rf1v {P : List PyData} {n w j : Int} {x : PyData} (w1 : 0 < w) (e : ixD (.str "abcdefghijkl") (.int (j % w)) = some x) : gRf1 (rS a b P n w (.dat (.int j))) = some (x, rS a b P n w (.dat (.int j))) := by
  unfold gRf1
  generalize (PyData.str "abcdefghijkl") = z at e ⊢
  simp [w1, e]
theorem rf2v {P P1 : List PyData} {n w j d : Int} {x : PyData} (e1 : F_Ldraw [.own true P, .dat (.int w)] = some (.int d, [.own true P1, .un])) (e : ixD (.str "abcdefghijkl") (.int d) = some x) : gRf2 (rS a b P n w (.dat (.int j))) = some (x, rS a b P1 n w (.dat (.int j))) := by
  unfold gRf2
  generalize F_Ldraw = A at e1 ⊢
  generalize (PyData.str "abcdefghijkl") = z at e ⊢
  simp [e1, e]
theorem rcv {f : EF} {P : List PyData} {n w : Int} (n0 : 0 ≤ n) (n1 : n ≤ 100) (hP : Pool P) (st : ∀ (P : List PyData) (j : Nat), Pool P → ∃ (P' : List PyData) (x : Str), f (rS a b P n w (.dat (.int (j : Nat)))) = some (.str x, rS a b P' n w (.dat (.int (j : Nat)))) ∧ Pool P' ∧ NameOk x) : ∃ (P' : List PyData) (L : List Str), gRc f (rS a b P n w .un) = some (L.map .str, rS a b P' n w .un) ∧ Pool P' ∧ (L.length : Int) = n ∧ ∀ w ∈ L, NameOk w := by
  have it : iRange1 (lCons (fVar 3) lNil) (rS a b P n w .un) = some (rangeD 0 n.toNat, rS a b P n w .un) := q_iR (by simp) (small62_le n0 (by omega))
  obtain ⟨ys, ρ', e, hl, hy, P', rfl, hP'⟩ := comp_inv (k := 5) (f := f) (fun ρ => ∃ P' : List PyData, ρ = rS a b P' n w .un ∧ Pool P') (fun y => ∃ h, y = PyData.str h ∧ NameOk h) (rangeD 0 n.toNat) [] (rS a b P n w .un) ⟨P, rfl, hP⟩ (by
    rintro d hd ρ ⟨P, rfl, hP⟩
    obtain ⟨i, _, rfl⟩ := rangeD_mem hd
    obtain ⟨P', x, e, hP', hx⟩ := st P i hP
    exact ⟨.str x, rS a b P' n w (.dat (.int (i : Nat))), by simpa using e, ⟨P', rfl, hP'⟩, x, rfl, hx⟩) (by rw [rangeD_len]; simp; omega)
  obtain ⟨L, rfl, hL⟩ := strs_of hy
  refine ⟨P', L, ?_, hP', ?_, hL⟩
  · unfold gRc
    rw [q_fComp, it]
    exact e
  · rw [List.length_map, rangeD_len] at hl
    omega
theorem rrv {f : EF} {ρ ρ' : Rho} {ds : List PyData} (e : gRc f ρ = some (ds, ρ')) : gRr f ρ = some (.rt (.tuple ds) ρ') := by
  unfold gRr
  generalize gRc f = g at e ⊢
  simp [e]
theorem m_row {P : List PyData} (hP : Pool P) (a0 : 0 ≤ a) (a1 : a ≤ 60) (b0 : 1 ≤ b) (b1 : b ≤ 8) : ∃ (P' : List PyData) (L : List Str), F_Lrow [.own true P, .dat (.int a), .dat (.int b)] = some (rowD L, [.own true P', .un, .un]) ∧ Pool P' ∧ (L.length : Int) ≤ a ∧ ∀ w ∈ L, NameOk w := by
  obtain ⟨n, P1, e1, n0, n1, hP1⟩ := draw hP (m := a + 1) (by omega) (by omega)
  obtain ⟨w, P2, e2, w0, w1, hP2⟩ := draw hP1 (m := b) (by omega) (by omega)
  obtain ⟨d, P3, e3, _, _, hP3⟩ := draw hP2 (m := 4) (by omega) (by omega)
  have s1 := r1v e1 e2
  have s2 := rtv (a := a) (b := b) (n := n) (w := 1 + w) e3
  have fin : ∀ {P' : List PyData} {L : List Str}, g_Lrow [.own true P, .dat (.int a), .dat (.int b), .un, .un, .un] = some (.rt (rowD L) (rS a b P' n (1 + w) .un)) → F_Lrow [.own true P, .dat (.int a), .dat (.int b)] = some (rowD L, [.own true P', .un, .un]) := fun z =>
    (body_rt (m := 3) (g := g_Lrow) (sls := [.own true P, .dat (.int a), .dat (.int b)]) rfl z).trans (by simp [List.range, List.range.loop])
  by_cases q : d = 0
  · rw [decide_eq_true q] at s2
    obtain ⟨P', L, e, hP', hl, hL⟩ := rcv (a := a) (b := b) (f := gRf1) (P := P3) (n := n) (w := 1 + w) n0 (by omega) hP3 (fun P j hP => by
      obtain ⟨x, ex, hx⟩ := letter (x := (j : Int) % (1 + w)) (Int.emod_nonneg _ (by omega)) (by have := Int.emod_lt_of_pos (j : Int) (show 0 < 1 + w by omega); omega)
      exact ⟨P, x, rf1v (by omega) ex, hP, hx⟩)
    refine ⟨P', L, fin ?_, hP', by omega, hL⟩
    rw [gR_is, sq_nx s1]
    exact sq_rt ((ifs_t s2).trans (sq_rt (rrv e)))
  · rw [decide_eq_false q] at s2
    obtain ⟨P', L, e, hP', hl, hL⟩ := rcv (a := a) (b := b) (f := gRf2) (P := P3) (n := n) (w := 1 + w) n0 (by omega) hP3 (fun P j hP => by
      obtain ⟨d, P', e, d0, d1, hP'⟩ := draw hP (m := 1 + w) (by omega) (by omega)
      obtain ⟨x, ex, hx⟩ := letter (x := d) d0 (by omega)
      exact ⟨P', x, rf2v e ex, hP', hx⟩)
    refine ⟨P', L, fin ?_, hP', by omega, hL⟩
    rw [gR_is, sq_nx s1]
    refine (sq_nx ((ifs_f s2).trans (q_fNx _))).trans ?_
    exact sq_rt (rrv e)
end
/-! ### repr of weights -/
theorem show_ws : ∀ ws : List Int, (∀ x ∈ ws, x = 0 ∨ x = 1) → noLs (ws.map .int) = true ∧ PyData.showableAll (ws.map .int) = true ∧ PyData.depthAll (ws.map .int) = 0 ∧ piled (PyData.shownAll (ws.map .int)) ≤ 7 * ws.length ∧ (PyData.shownAll (ws.map .int)).length = ws.length
  | [], _ => ⟨rfl, rfl, by simp [PyData.depthAll], by simp [PyData.shownAll, piled], rfl⟩
  | b :: bs, h => by
    obtain ⟨h1, h2, h3, h4, h5⟩ := show_ws bs fun x hx => h x (List.mem_cons_of_mem _ hx)
    have l : (PyData.shown (.int b)).length ≤ 5 := by
      rcases h b List.mem_cons_self with z | z <;> subst z <;> decide +kernel
    refine ⟨?_, ?_, ?_, ?_, ?_⟩
    · simp [noLs, noL] at h1 ⊢
      exact h1
    · rcases h b List.mem_cons_self with z | z <;> subst z <;> simp [PyData.showableAll, PyData.showable] at h2 ⊢ <;> first | exact h2 | exact ⟨by decide +kernel, h2⟩
    · simp [PyData.depthAll, PyData.depth] at h3 ⊢
      exact h3
    · show piled (PyData.shown (.int b) :: PyData.shownAll (bs.map .int)) ≤ _
      rw [piled_cons, List.length_cons]
      omega
    · show (PyData.shown (.int b) :: PyData.shownAll (bs.map .int)).length = _
      rw [List.length_cons, List.length_cons, h5]
theorem tup_len (ts : List Str) : (tupleText ts).length ≤ piled ts + 3 := by
  unfold tupleText
  rw [strLen_append, strLen_append]
  have a : ((if ts.length == 1 then ",)" else ")" : String) : Str).length ≤ 2 := by split <;> decide
  have c : (("(" : String) : Str).length = 1 := rfl
  by_cases e : ts = []
  · subst e
    have : (Str.join ", " []).length = 0 := rfl
    rw [piled_nil]
    omega
  · have := join_length_add ts e
    omega
theorem rep_ws {ws : List Int} (h : ws.length ≤ 1000) (h01 : ∀ x ∈ ws, x = 0 ∨ x = 1) : ∃ x, reprXD [.tuple (ws.map .int)] = some (.str x) := by
  obtain ⟨h1, h2, h3, h4, _⟩ := show_ws ws h01
  have l := tup_len (PyData.shownAll (ws.map .int))
  refine ⟨tupleText (PyData.shownAll (ws.map .int)), ?_⟩
  show (if (noLs (ws.map .int) && PyData.showableAll (ws.map .int) && decide (PyData.depthAll (ws.map .int) ≤ 60) && fits (tupleText (PyData.shownAll (ws.map .int))).length) = true then some (PyData.str (tupleText (PyData.shownAll (ws.map .int)))) else none) = _
  have fz : fits (tupleText (PyData.shownAll (ws.map .int))).length = true := decide_eq_true (by omega)
  rw [if_pos (by rw [h1, h2, h3, fz]; decide)]
theorem bw_01 (L : List Str) (m : Nat) : ∀ x ∈ bw L m, x = 0 ∨ x = 1 := fun x hx => by
  unfold bw at hx
  obtain ⟨i, _, rfl⟩ := List.mem_map.mp hx
  unfold wt
  split
  · exact .inr rfl
  · exact .inl rfl
/-! ### the bound -/
theorem m_bound {L : List Str} {m : Nat} (K : Known L (m : Int)) : F_Lbound [.dat (rowD L), .dat (.int (m : Int)), .dat (.tuple ((bw L m).map .int))] = some (.int (GN L m : Nat), [.un, .un, .un]) := by
  have m1 : 1 ≤ m := by have := K.m1; omega
  have m4 := K.m4
  have hl : L.length ≤ 1000 := by have := K.len; omega
  have sa := sum_all (TS_ch L m)
  have ss := sum_ints (bw L m)
  have e0 : (bw L m).sum = ((TS L m).length : Int) := sa
  rw [e0] at ss
  have em : (m : Int) - 1 = ((m - 1 : Nat) : Int) := by omega
  have d1 := d1_at (r := rowD L) (M := (m : Int)) (m_later hl) ss (by rw [em]; exact smallI_nat (by omega))
  have e1 : ((m : Int) - 1) * ((TS L m).length : Int) = (((m - 1) * (TS L m).length : Nat) : Int) := by rw [em]; simp
  rw [e1] at d1
  obtain ⟨ρ', e2, s5, rfl⟩ := loop_at (t := tName 5) (g := gDb) (fun q ρ => ∃ s5, ρ = qD L (m : Int) (bw L m) (sN L) (sI (((m - 1) * (TS L m).length + unh L (TS L m) L.length q : Nat) : Int)) s5) ((List.range L.length).map (fun i => PyData.int ((i : Nat) : Int))) (ρ := qD L (m : Int) (bw L m) (sN L) (sI (((m - 1) * (TS L m).length : Nat) : Int)) .un) ⟨.un, rfl⟩ fun j d hd ρ I => by
    obtain ⟨s5, rfl⟩ := I
    rw [List.getElem?_map] at hd
    cases q : (List.range L.length)[j]? with
    | none => rw [q] at hd; cases hd
    | some x =>
      rw [q] at hd
      cases hd
      obtain ⟨h1, h2⟩ := List.getElem?_eq_some_iff.mp q
      rw [List.getElem_range] at h2
      rw [List.length_range] at h1
      subst h2
      refine ⟨qD L (m : Int) (bw L m) (sN L) (sI (((m - 1) * (TS L m).length + unh L (TS L m) L.length j : Nat) : Int)) (sT j), _, rfl, db_at hl h1 rfl, sT j, ?_⟩
      rw [unh_succ, Nat.add_assoc]
  have fl : fFor (iRange1 (lCons (fCl lenD (aCons (gVar 0) aNil)) lNil)) (tName 5) gDb (qD L (m : Int) (bw L m) (sN L) (sI (((m - 1) * (TS L m).length : Nat) : Int)) .un) = some (.nx (qD L (m : Int) (bw L m) (sN L) (sI (GN L m : Nat)) s5)) := by
    rw [for_it (rng_len hl), e2, List.length_map, List.length_range, TS_is m1]
  have all : g_Lbound (qD L (m : Int) (bw L m) .un .un .un) = some (.rt (.int (GN L m : Nat)) (qD L (m : Int) (bw L m) (sN L) (sI (GN L m : Nat)) s5)) := by
    rw [gD_is, sq_nx d1, sq_nx fl]
    exact sq_rt rfl
  exact (body_rt (m := 3) (g := g_Lbound) (sls := [.dat (rowD L), .dat (.int (m : Int)), .dat (.tuple ((bw L m).map .int))]) rfl all).trans (by simp [List.range, List.range.loop])
end K75

set_option Elab.async false
set_option linter.all false
set_option maxRecDepth 100000
set_option maxHeartbeats 4000000
/-! Whether the weights are right; a turn. -/
namespace K75
open PySem PySem.Spec PyProof.Rows L2 GX StX DL
def gH1 : SF := fAsg (fCa 2 F_bestweights (aCons (gVar 0) (aCons (gVar 1) aNil))) (tName 3)
def gHp : TF := fTst (fOp neD (gVal (fCl reprXD (aCons (gVal (fCa 2 F_bestweights (aCons (gVar 0) (aCons (gVar 1) aNil)))) aNil))) (gVal (fCl reprXD (aCons (gVar 3) aNil))))
def gHn : TF := fTst (fOp neD (gVal (fCl lenD (aCons (gVar 3) aNil))) (gVal (fCl lenD (aCons (gVar 0) aNil))))
def gHm : TF := fNot (fTst (fIsa dTup (gVar 3)))
def gHk : TF := fOr (fNot (fTst (fIsa dInt (gVar 4)))) (fOr (fTst (fIsa dBool (gVar 4))) (fTst (fOp ltD (gVar 4) (gVal (fC (.int 0))))))
def gHc : LF := fComp (iSeq (fVar 3)) [4] (tName 4) gHk (fVar 4)
def gHd : TF := fTst (fOp neD (gVal (fLst gHc)) (gVal (fLst (lLst lNil))))
def gHr : EF := fOp eqD (gVal (fOp subD (gVal (fCl lenD (aCons (gVar 0) aNil))) (gVal (fCa 3 F_Lbound (aCons (gVar 0) (aCons (gVar 1) (aCons (gVar 3) aNil))))))) (gVar 2)
abbrev gF0 : SF := fSq (fRet (fC (.bool false))) fNx
theorem gH_is : g_Lholds = fSq gH1 (fSq (fIfS (fOr gHm (fOr gHn gHp)) gF0 fNx) (fSq (fIfS gHd gF0 fNx) (fSq (fRet gHr) fNx))) := rfl
section
variable {r d x y u : PyData} {s2 s3 s4 s5 : Sl}
theorem h1_at (e2 : F_bestweights [.dat r, .dat d] = some (y, [.un, .un])) : gH1 [.dat r, .dat d, s2, .un, .un] = some (.nx [.dat r, .dat d, s2, .dat y, .un]) := by
  unfold gH1
  generalize F_bestweights = B at e2 ⊢
  simp [e2]
theorem ne_str (s : Str) : neD (.str s) (.str s) = some (.bool false) := by
  show some (PyData.bool (!decide (s = s))) = _
  rw [decide_eq_true rfl]
  rfl
theorem hp_at {s : Str} (e2 : F_bestweights [.dat r, .dat d] = some (y, [.un, .un])) (rp : reprXD [y] = some (.str s)) : gHp [.dat r, .dat d, s2, .dat y, s4] = some (false, [.dat r, .dat d, s2, .dat y, s4]) := by
  have n := ne_str s
  unfold gHp
  generalize F_bestweights = B at e2 ⊢
  generalize reprXD = op at rp ⊢
  generalize neD = op2 at n ⊢
  simp [e2, rp, n]
theorem hn_at {D B : List PyData} {s1 : Sl} (l : B.length = D.length) : gHn [.dat (.tuple D), s1, s2, .dat (.tuple B), s4] = some (false, [.dat (.tuple D), s1, s2, .dat (.tuple B), s4]) := by
  have n2 := ne_int (B.length : Int) (D.length : Int)
  rw [decide_eq_true (show (B.length : Int) = (D.length : Int) by rw [l])] at n2
  unfold gHn
  generalize neD = op at n2 ⊢
  simp [n2]
theorem hm_at {B : List PyData} {s0 s1 : Sl} : gHm [s0, s1, s2, .dat (.tuple B), s4] = some (false, [s0, s1, s2, .dat (.tuple B), s4]) := rfl
theorem hk_at {s0 s1 : Sl} {v : Int} (h : v = 0 ∨ v = 1) : gHk [s0, s1, s2, s3, .dat (.int v)] = some (false, [s0, s1, s2, s3, .dat (.int v)]) := by
  rcases h with h | h <;> subst h <;> rfl
theorem hc_at {ws : List Int} {s0 s1 : Sl} (h : ∀ x ∈ ws, x = 0 ∨ x = 1) (hz : ws.length ≤ 1000) : gHc [s0, s1, s2, .dat (.tuple (ws.map .int)), .un] = some ([], [s0, s1, s2, .dat (.tuple (ws.map .int)), .un]) := by
  unfold gHc
  have z := comp_if (it := iSeq (fVar 3)) (ks := [4]) (t := tName 4) (c := gHk) (f := fVar 4) (fun b : Int => PyData.int b) (fun _ => false) (fun b : Int => PyData.int b) (ρ := [s0, s1, s2, .dat (.tuple (ws.map .int)), .un]) (ρ1 := [s0, s1, s2, .dat (.tuple (ws.map .int)), .un]) ws rfl rfl (fun b hb => ⟨[s0, s1, s2, .dat (.tuple (ws.map .int)), .dat (.int b)], rfl, hk_at (h b hb), fun _ => rfl, rfl⟩) (by omega)
  rw [z, List.filter_eq_nil_iff.mpr (fun _ _ => by simp)]
  rfl
theorem hd_at {ρ : Rho} (c : gHc ρ = some ([], ρ)) : gHd ρ = some (false, ρ) := by
  have n := ne_nil (ds := []) (fun d hd => by simp at hd)
  have f0 : fits 0 = true := by decide
  unfold gHd
  generalize gHc = C at c ⊢
  generalize neD = op at n ⊢
  simp [c, n, f0]
def gHg (A : FF) (op : Op2) : EF := fOp op (gVal (fOp subD (gVal (fCl lenD (aCons (gVar 0) aNil))) (gVal (fCa 3 A (aCons (gVar 0) (aCons (gVar 1) (aCons (gVar 3) aNil))))))) (gVar 2)
theorem gHg_is : gHr = gHg F_Lbound eqD := rfl
theorem hg_at {A : FF} {op : Op2} {D : List PyData} {w : PyData} {n i : Int} (c : A [.dat (.tuple D), .dat d, .dat w] = some (.int n, [.un, .un, .un])) (e : op (.int ((D.length : Int) - n)) (.int i) = some (.bool true)) : gHg A op [.dat (.tuple D), .dat d, .dat (.int i), .dat w, s4] = some (.bool true, [.dat (.tuple D), .dat d, .dat (.int i), .dat w, s4]) := by
  unfold gHg
  simp [c, e]
theorem hr_at {D : List PyData} {w : PyData} {n i : Int} (c : F_Lbound [.dat (.tuple D), .dat d, .dat w] = some (.int n, [.un, .un, .un])) (q : (D.length : Int) - n = i) : gHr [.dat (.tuple D), .dat d, .dat (.int i), .dat w, s4] = some (.bool true, [.dat (.tuple D), .dat d, .dat (.int i), .dat w, s4]) := by
  rw [gHg_is]
  refine hg_at c ?_
  rw [eq_int, decide_eq_true q]
end
section
variable {L : List Str} {m : Nat}
theorem m_holds (K : Known L (m : Int)) : F_Lholds [.dat (rowD L), .dat (.int (m : Int)), .dat (.int ((L.length - GN L m : Nat) : Int))] = some (.bool true, [.un, .un, .un]) := by
  have m1 : 1 ≤ m := by have := K.m1; omega
  have hl := K.len
  have e2 := m_best K
  have wl := bw_len L m
  obtain ⟨x, rp⟩ := rep_ws (ws := bw L m) (by omega) (bw_01 L m)
  have gl := GN_le (L := L) m1
  have a1 := h1_at (s2 := .dat (.int ((L.length - GN L m : Nat) : Int))) e2
  have a2 := hp_at (s2 := .dat (.int ((L.length - GN L m : Nat) : Int))) (s4 := .un) e2 rp
  have a3 := hn_at (D := L.map .str) (B := (bw L m).map .int) (s1 := .dat (.int (m : Int))) (s2 := .dat (.int ((L.length - GN L m : Nat) : Int))) (s4 := .un) (by rw [List.length_map, List.length_map, wl])
  have a4 := hd_at (hc_at (ws := bw L m) (s0 := .dat (rowD L)) (s1 := .dat (.int (m : Int))) (s2 := .dat (.int ((L.length - GN L m : Nat) : Int))) (bw_01 L m) (by omega))
  have a5 := hm_at (B := (bw L m).map .int) (s0 := .dat (rowD L)) (s1 := .dat (.int (m : Int))) (s2 := .dat (.int ((L.length - GN L m : Nat) : Int))) (s4 := .un)
  have a6 := hr_at (D := L.map .str) (i := ((L.length - GN L m : Nat) : Int)) (s4 := .un) (m_bound K) (by rw [List.length_map]; omega)
  have all : g_Lholds [.dat (rowD L), .dat (.int (m : Int)), .dat (.int ((L.length - GN L m : Nat) : Int)), .un, .un] = some (.rt (.bool true) [.dat (rowD L), .dat (.int (m : Int)), .dat (.int ((L.length - GN L m : Nat) : Int)), .dat (.tuple ((bw L m).map .int)), .un]) := by
    rw [gH_is, sq_nx a1, sq_nx ((ifs_f ((or_f a5).trans ((or_f a3).trans a2))).trans (q_fNx _)), sq_nx ((ifs_f a4).trans (q_fNx _))]
    exact sq_rt (ret_at a6)
  exact (body_rt (m := 2) (g := g_Lholds) (sls := [.dat (rowD L), .dat (.int (m : Int)), .dat (.int ((L.length - GN L m : Nat) : Int))]) rfl all).trans (by simp [List.range, List.range.loop])
end
/-! ### a turn of the law -/
abbrev qR (P : List PyData) (s1 s2 s3 : Sl) : Rho := [.own true P, s1, s2, s3]
def gIx (a b : Int) : EF := fOp ixD (gVal (fLst (lLst (lCons (fC (.int a)) (lCons (fC (.int b)) lNil))))) (gVal (fCl intD (aCons (gVal (fOp gtD (gVar 1) (gVal (fC (.int 4))))) aNil)))
def gP (A B : EF) : SF := fPar 2 3 (lCons (fCa 3 F_Lrow (aCons (gVar 0) (aCons (gVal A) (aCons (gVal B) aNil)))) (lCons (fOp addD (gVal (fC (.int 1))) (gVal (fCa 2 F_Ldraw (aCons (gVar 0) (aCons (gVal (fC (.int 4))) aNil))))) lNil))
def gQ : TF := fNot (fTst (fCa 3 F_Lholds (aCons (gVar 2) (aCons (gVar 3) (aCons (gVal (fCa 2 F_Lforeseen (aCons (gVar 2) (aCons (gVar 3) aNil)))) aNil)))))
def gT : SF := fSq (gP (gIx 12 60) (gIx 4 8)) (fSq (fIfS gQ gF0 fNx) fNx)
theorem gRt_is : g_Lright = fSq (fFor (iRange1 (lCons (fC (.int 7)) lNil)) (tName 1) gT) (fSq (fRet (fC (.bool true))) fNx) := rfl
section
variable {a b : Int} {s1 s2 s3 : Sl}
theorem ix_at {P : List PyData} (j : Int) : gIx a b (qR P (.dat (.int j)) s2 s3) = some (.int (if 4 < j then b else a), qR P (.dat (.int j)) s2 s3) := by
  have f2 : fits 2 = true := by decide
  have i0 : atI [PyData.int a, .int b] (0 : Int) = some (.int a) := rfl
  have i1 : atI [PyData.int a, .int b] (1 : Int) = some (.int b) := rfl
  unfold gIx
  by_cases c : 4 < j
  · simp [look, c, f2, i1]
  · simp [look, c, f2, i0]
theorem p_at {P P1 P2 : List PyData} {A B : EF} {x : PyData} {w : Int} (hA : ∀ s2 s3, A (qR P s1 s2 s3) = some (.int a, qR P s1 s2 s3)) (hB : ∀ s2 s3, B (qR P s1 s2 s3) = some (.int b, qR P s1 s2 s3)) (e1 : F_Lrow [.own true P, .dat (.int a), .dat (.int b)] = some (x, [.own true P1, .un, .un])) (e2 : F_Ldraw [.own true P1, .dat (.int 4)] = some (.int w, [.own true P2, .un])) : gP A B (qR P s1 s2 s3) = some (.nx (qR P2 s1 (.dat x) (.dat (.int (1 + w))))) := by
  unfold gP
  generalize F_Lrow = A' at e1 ⊢
  generalize F_Ldraw = B' at e2 ⊢
  simp [e1, e2, fPar, hA, hB]
theorem qq_at {P : List PyData} {x y z : PyData} (e1 : F_Lforeseen [.dat x, .dat y] = some (z, [.un, .un])) (e2 : F_Lholds [.dat x, .dat y, .dat z] = some (.bool true, [.un, .un, .un])) : gQ (qR P s1 (.dat x) (.dat y)) = some (false, qR P s1 (.dat x) (.dat y)) := by
  unfold gQ
  generalize F_Lforeseen = F at e1 ⊢
  generalize F_Lholds = A at e2 ⊢
  simp [e1, e2]
theorem turn (j : Int) {P : List PyData} (hP : Pool P) : ∃ (P' : List PyData) (u2 u3 : Sl), gT (qR P (.dat (.int j)) s2 s3) = some (.nx (qR P' (.dat (.int j)) u2 u3)) ∧ Pool P' := by
  have ha : (0 : Int) ≤ (if 4 < j then 60 else 12) ∧ (if 4 < j then (60 : Int) else 12) ≤ 60 := by split <;> omega
  have hb : (1 : Int) ≤ (if 4 < j then 8 else 4) ∧ (if 4 < j then (8 : Int) else 4) ≤ 8 := by split <;> omega
  obtain ⟨P1, L, e1, hP1, hl, hL⟩ := m_row hP ha.1 ha.2 hb.1 hb.2
  obtain ⟨w, P2, e2, w0, w1, hP2⟩ := draw hP1 (m := 4) (by omega) (by omega)
  have ew : (1 : Int) + w = (((1 + w).toNat : Nat) : Int) := by omega
  have K : Known L (((1 + w).toNat : Nat) : Int) := ⟨by omega, hL, by omega, by omega⟩
  have f := m_fore (L := L) (m := (1 + w).toNat) (by omega) (by omega) (by omega)
  have h := m_holds K
  rw [← ew] at f h
  refine ⟨P2, .dat (rowD L), .dat (.int (1 + w)), ?_, hP2⟩
  unfold gT
  rw [sq_nx (p_at (fun s2 s3 => ix_at j) (fun s2 s3 => ix_at j) e1 e2)]
  exact (sq_nx ((ifs_f (qq_at f h)).trans (q_fNx _))).trans (q_fNx _)
end
theorem m_right {P : List PyData} (hP : Pool P) : ∃ P' : List PyData, F_Lright [.own true P] = some (.bool true, [.own true P']) := by
  obtain ⟨ρ', e, P', u1, u2, u3, rfl, hP'⟩ := loop_inv (t := tName 1) (g := gT) (fun _ ρ => ∃ (P' : List PyData) (u1 u2 u3 : Sl), ρ = qR P' u1 u2 u3 ∧ Pool P') (rangeD 0 7) 0 (qR P .un .un .un) ⟨P, _, _, _, rfl, hP⟩ (by
    rintro d hd i ρ ⟨P, u1, u2, u3, rfl, hP⟩
    obtain ⟨i, _, rfl⟩ := rangeD_mem hd
    obtain ⟨P', v2, v3, e, hP'⟩ := turn (s2 := u2) (s3 := u3) (0 + (i : Int)) hP
    exact ⟨qR P (.dat (.int (0 + (i : Int)))) u2 u3, _, rfl, e, P', _, v2, v3, rfl, hP'⟩)
  have i1 : ∀ ρ, iRange1 (lCons (fC (.int 7)) lNil) ρ = some (rangeD 0 7, ρ) := fun _ => rfl
  refine ⟨P', ?_⟩
  have z : g_Lright (qR P .un .un .un) = some (.rt (.bool true) (qR P' u1 u2 u3)) := by
    rw [gRt_is, sq_nx ((for_it (i1 _)).trans e)]
    rfl
  exact (body_rt (m := 3) (g := g_Lright) (sls := [.own true P]) rfl z).trans (by simp [List.range, List.range.loop])
end K75

set_option Elab.async false
set_option linter.all false
set_option maxRecDepth 100000
set_option maxHeartbeats 4000000
/-! The rows by hand; the law says True. -/
namespace K75
open PySem PySem.Spec PyProof.Rows L2 GX StX DL
def timesS (L : List Str) : Nat → List Str
  | 0 => []
  | n + 1 => L ++ timesS L n
abbrev Tri := List Str × Nat × Nat
def trip (e : Tri) : PyData := .tuple [.tuple (e.1.map .str), .int (e.2.1 : Int), .int (e.2.2 : Int)]
def R6 : List Str := ["a", "b", "c", "a", "b", "c"]
def T1 : List Tri := [([], 1, 0), ([], 4, 0), (["a"], 1, 1), (["a", "a", "a"], 1, 1), (["a", "a", "a"], 4, 1), (R6, 1, 6)]
def T2 : List Tri := [(R6, 2, 4), (R6, 3, 3), (R6, 4, 3), (["a", "b", "b", "a", "b"], 1, 4)]
def T3 : List Tri := [(["a", "b", "c", "d", "a", "b", "c", "d"], 3, 5), (timesS ["a", "b", "c", "d", "e"] 40, 4, 53)]
def T4 : List Tri := [(timesS ["a", "b", "c", "d", "e"] 40, 1, 200), (timesS ["a", "b"] 50 ++ timesS ["b"] 100, 1, 100)]
def TT : List Tri := T1 ++ T2 ++ T3 ++ T4
def okT (e : Tri) : Bool := decide (e.1.length ≤ 200) && (e.1.all (fun w => W0.contains w) && (decide (1 ≤ e.2.1) && decide (e.2.1 ≤ 4)))
theorem known_of {e : Tri} (h : okT e = true) : Known e.1 (e.2.1 : Int) := by
  simp only [okT, Bool.and_eq_true, decide_eq_true_eq] at h
  obtain ⟨h1, h2, h3, h4⟩ := h
  refine ⟨h1, fun w hw => names0 w ?_, by omega, by omega⟩
  have := List.all_eq_true.mp h2 w hw
  simpa using this
theorem TT_known : ∀ e ∈ TT, okT e = true := fun e h => List.all_eq_true.mp (show TT.all okT = true by decide +kernel) e h
def foreB (e : Tri) : Prop := F_Lforeseen [.dat (.tuple (e.1.map .str)), .dat (.int (e.2.1 : Int))] = some (.int (e.2.2 : Int), [.un, .un])
theorem l1 : foreB ([], 1, 0) := by unfold foreB; kernel_rfl
theorem l2 : foreB ([], 4, 0) := by unfold foreB; kernel_rfl
theorem l3 : foreB (["a"], 1, 1) := by unfold foreB; kernel_rfl
theorem l4 : foreB (["a", "a", "a"], 1, 1) := by unfold foreB; kernel_rfl
theorem l5 : foreB (["a", "a", "a"], 4, 1) := by unfold foreB; kernel_rfl
theorem l6 : foreB (R6, 1, 6) := by unfold foreB; kernel_rfl
theorem l7 : foreB (R6, 2, 4) := by unfold foreB; kernel_rfl
theorem l8 : foreB (R6, 3, 3) := by unfold foreB; kernel_rfl
theorem l9 : foreB (R6, 4, 3) := by unfold foreB; kernel_rfl
theorem l10 : foreB (["a", "b", "b", "a", "b"], 1, 4) := by unfold foreB; kernel_rfl
theorem l11 : foreB (["a", "b", "c", "d", "a", "b", "c", "d"], 3, 5) := by unfold foreB; kernel_rfl
theorem l12 : foreB (timesS ["a", "b", "c", "d", "e"] 40, 4, 53) := by unfold foreB; kernel_rfl
theorem l13 : foreB (timesS ["a", "b", "c", "d", "e"] 40, 1, 200) := by unfold foreB; kernel_rfl
theorem l14 : foreB (timesS ["a", "b"] 50 ++ timesS ["b"] 100, 1, 100) := by unfold foreB; kernel_rfl
end K75

set_option Elab.async false
set_option linter.all false
set_option maxRecDepth 100000
set_option maxHeartbeats 4000000
/-! The rows by hand, listed. -/
namespace K75
open PySem PySem.Spec PyProof.Rows L2 GX StX DL
def gS1 : SF := fAsg (fTup (lCons (fC (.str "a")) (lCons (fC (.str "b")) (lCons (fC (.str "c")) (lCons (fC (.str "a")) (lCons (fC (.str "b")) (lCons (fC (.str "c")) lNil))))))) (tName 0)
def gS2 : SF := fAsg (fLst (lLst (lCons (fTup (lCons (fTup lNil) (lCons (fC (.int 1)) (lCons (fC (.int 0)) lNil)))) (lCons (fTup (lCons (fTup lNil) (lCons (fC (.int 4)) (lCons (fC (.int 0)) lNil)))) (lCons (fTup (lCons (fTup (lCons (fC (.str "a")) lNil)) (lCons (fC (.int 1)) (lCons (fC (.int 1)) lNil)))) (lCons (fTup (lCons (fTup (lCons (fC (.str "a")) (lCons (fC (.str "a")) (lCons (fC (.str "a")) lNil)))) (lCons (fC (.int 1)) (lCons (fC (.int 1)) lNil)))) (lCons (fTup (lCons (fTup (lCons (fC (.str "a")) (lCons (fC (.str "a")) (lCons (fC (.str "a")) lNil)))) (lCons (fC (.int 4)) (lCons (fC (.int 1)) lNil)))) (lCons (fTup (lCons (fVar 0) (lCons (fC (.int 1)) (lCons (fC (.int 6)) lNil)))) lNil)))))))) (tName 1)
def gS3 : SF := fAsg (fOp addD (gVar 1) (gVal (fLst (lLst (lCons (fTup (lCons (fVar 0) (lCons (fC (.int 2)) (lCons (fC (.int 4)) lNil)))) (lCons (fTup (lCons (fVar 0) (lCons (fC (.int 3)) (lCons (fC (.int 3)) lNil)))) (lCons (fTup (lCons (fVar 0) (lCons (fC (.int 4)) (lCons (fC (.int 3)) lNil)))) (lCons (fTup (lCons (fTup (lCons (fC (.str "a")) (lCons (fC (.str "b")) (lCons (fC (.str "b")) (lCons (fC (.str "a")) (lCons (fC (.str "b")) lNil)))))) (lCons (fC (.int 1)) (lCons (fC (.int 4)) lNil)))) lNil)))))))) (tName 1)
def gS4 : SF := fAsg (fOp addD (gVar 1) (gVal (fLst (lLst (lCons (fTup (lCons (fTup (lCons (fC (.str "a")) (lCons (fC (.str "b")) (lCons (fC (.str "c")) (lCons (fC (.str "d")) (lCons (fC (.str "a")) (lCons (fC (.str "b")) (lCons (fC (.str "c")) (lCons (fC (.str "d")) lNil))))))))) (lCons (fC (.int 3)) (lCons (fC (.int 5)) lNil)))) (lCons (fTup (lCons (fOp mulD (gVal (fTup (lCons (fC (.str "a")) (lCons (fC (.str "b")) (lCons (fC (.str "c")) (lCons (fC (.str "d")) (lCons (fC (.str "e")) lNil))))))) (gVal (fC (.int 40)))) (lCons (fC (.int 4)) (lCons (fC (.int 53)) lNil)))) lNil)))))) (tName 1)
def gS5 : SF := fAsg (fOp addD (gVar 1) (gVal (fLst (lLst (lCons (fTup (lCons (fOp mulD (gVal (fTup (lCons (fC (.str "a")) (lCons (fC (.str "b")) (lCons (fC (.str "c")) (lCons (fC (.str "d")) (lCons (fC (.str "e")) lNil))))))) (gVal (fC (.int 40)))) (lCons (fC (.int 1)) (lCons (fC (.int 200)) lNil)))) (lCons (fTup (lCons (fOp addD (gVal (fOp mulD (gVal (fTup (lCons (fC (.str "a")) (lCons (fC (.str "b")) lNil)))) (gVal (fC (.int 50))))) (gVal (fOp mulD (gVal (fTup (lCons (fC (.str "b")) lNil))) (gVal (fC (.int 100)))))) (lCons (fC (.int 1)) (lCons (fC (.int 100)) lNil)))) lNil)))))) (tName 1)
def gS6 : SF := fAsg (fOp addD (gVal (fOp mulD (gVal (fTup (lCons (fC (.str "a")) (lCons (fC (.str "b")) (lCons (fC (.str "c")) lNil))))) (gVal (fC (.int 20))))) (gVal (fOp mulD (gVal (fTup (lCons (fC (.str "d")) (lCons (fC (.str "e")) lNil)))) (gVal (fC (.int 70)))))) (tName 2)
def gS7f : EF := fTup (lCons (fVar 2) (lCons (fC (.int 2)) (lCons (fCa 2 F_Lforeseen (aCons (gVar 2) (aCons (gVal (fC (.int 2))) aNil))) lNil)))
def gS7 : SF := fAsg (fOp addD (gVar 1) (gVal (fLst (lLst (lCons gS7f lNil))))) (tName 1)
def gS8f : EF := fCa 3 F_Lholds (aCons (gVar 3) (aCons (gVar 4) (aCons (gVar 5) aNil)))
def gS8c : LF := fComp (iSeq (fVar 1)) [3, 4, 5] (tTupT 3 [tName 3, tName 4, tName 5]) fYes gS8f
def gS8 : SF := fRet (fCl allD (aCons (gVal (fLst gS8c)) aNil))
theorem gS_is : g_Lbyhand = fSq gS1 (fSq gS2 (fSq gS3 (fSq gS4 (fSq gS5 (fSq gS6 (fSq gS7 (fSq gS8 fNx))))))) := rfl
abbrev qB (s0 s1 s2 : Sl) : Rho := [s0, s1, s2, .un, .un, .un]
def far : List Str := timesS ["a", "b", "c"] 20 ++ timesS ["d", "e"] 70
theorem far_len : far.length = 200 := by decide +kernel
abbrev rw6 : Sl := .dat (.tuple (R6.map .str))
theorem s1_at : gS1 (qB .un .un .un) = some (.nx (qB rw6 .un .un)) := by kernel_rfl
theorem s2_at : gS2 (qB rw6 .un .un) = some (.nx (qB rw6 (.dat (.list (T1.map trip))) .un)) := by kernel_rfl
theorem s3_at : gS3 (qB rw6 (.dat (.list (T1.map trip))) .un) = some (.nx (qB rw6 (.dat (.list ((T1 ++ T2).map trip))) .un)) := by kernel_rfl
theorem s4_at : gS4 (qB rw6 (.dat (.list ((T1 ++ T2).map trip))) .un) = some (.nx (qB rw6 (.dat (.list ((T1 ++ T2 ++ T3).map trip))) .un)) := by kernel_rfl
theorem s5_at : gS5 (qB rw6 (.dat (.list ((T1 ++ T2 ++ T3).map trip))) .un) = some (.nx (qB rw6 (.dat (.list (TT.map trip))) .un)) := by kernel_rfl
theorem s6_at {s1 : Sl} : gS6 (qB rw6 s1 .un) = some (.nx (qB rw6 s1 (.dat (.tuple (far.map .str))))) := by kernel_rfl
end K75

set_option Elab.async false
set_option linter.all false
set_option maxRecDepth 100000
set_option maxHeartbeats 4000000
/-! The rows by hand; the law says True. -/
namespace K75
open PySem PySem.Spec PyProof.Rows L2 GX StX DL
theorem TT_fore : ∀ e ∈ TT, foreB e := by
  intro e h
  have h' : e ∈ ([([], 1, 0), ([], 4, 0), (["a"], 1, 1), (["a", "a", "a"], 1, 1), (["a", "a", "a"], 4, 1), (R6, 1, 6), (R6, 2, 4), (R6, 3, 3), (R6, 4, 3), (["a", "b", "b", "a", "b"], 1, 4), (["a", "b", "c", "d", "a", "b", "c", "d"], 3, 5), (timesS ["a", "b", "c", "d", "e"] 40, 4, 53), (timesS ["a", "b", "c", "d", "e"] 40, 1, 200), (timesS ["a", "b"] 50 ++ timesS ["b"] 100, 1, 100)] : List Tri) := h
  simp only [List.mem_cons, List.not_mem_nil, or_false] at h'
  rcases h' with h' | h' | h' | h' | h' | h' | h' | h' | h' | h' | h' | h' | h' | h'
  all_goals rw [h']
  · exact l1
  · exact l2
  · exact l3
  · exact l4
  · exact l5
  · exact l6
  · exact l7
  · exact l8
  · exact l9
  · exact l10
  · exact l11
  · exact l12
  · exact l13
  · exact l14
/-- what is asked of a triple comes out True -/
def Fine (e : Tri) : Prop := F_Lholds [.dat (.tuple (e.1.map .str)), .dat (.int (e.2.1 : Int)), .dat (.int (e.2.2 : Int))] = some (.bool true, [.un, .un, .un])
theorem fine_of {L : List Str} {m i : Nat} (K : Known L (m : Int)) (h : i = L.length - GN L m) : Fine (L, m, i) := by
  subst h
  exact m_holds K
theorem TT_fine : ∀ e ∈ TT, Fine e := by
  intro e h
  have K := known_of (TT_known e h)
  have l := TT_fore e h
  obtain ⟨L, m, i⟩ := e
  refine fine_of K ?_
  have h0 := K.len
  have h1 : (1 : Int) ≤ (m : Int) := K.m1
  have h4 : (m : Int) ≤ 4 := K.m4
  have q := m_fore (L := L) (m := m) (by dsimp only at h0; omega) (by omega) (by omega)
  unfold foreB at l
  rw [q] at l
  have z := PyData.int.inj (Prod.mk.inj (Option.some.inj l)).1
  exact (Int.ofNat.inj z).symm
/-! ### the far row -/
theorem far_known : okT (far, 2, 0) = true := by decide +kernel
abbrev eF : Tri := (far, 2, far.length - GN far 2)
theorem eF_fine : Fine eF := fine_of (known_of far_known) rfl
theorem s7f_at {d v : PyData} {s0 s1 : Sl} (e : F_Lforeseen [.dat d, .dat (.int 2)] = some (v, [.un, .un])) : gS7f (qB s0 s1 (.dat d)) = some (.tuple [d, .int 2, v], qB s0 s1 (.dat d)) := by
  have f3 : fits 3 = true := by decide
  unfold gS7f
  generalize F_Lforeseen = A at e ⊢
  simp [e, f3]
theorem s7_at {A : List PyData} {d : PyData} {s0 s2 : Sl} (c : gS7f (qB s0 (.dat (.list A)) s2) = some (d, qB s0 (.dat (.list A)) s2)) (h : A.length ≤ 1000) : gS7 (qB s0 (.dat (.list A)) s2) = some (.nx (qB s0 (.dat (.list (A ++ [d]))) s2)) := by
  have a : addD (.list A) (.list [d]) = some (.list (A ++ [d])) := by
    show (if fits (A.length + [d].length) = true then some (PyData.list (A ++ [d])) else none) = _
    have hf : fits (A.length + [d].length) = true := decide_eq_true (by simp; omega)
    rw [if_pos hf]
  have f1 : fits 1 = true := by decide
  unfold gS7
  generalize gS7f = C at c ⊢
  generalize addD = op at a ⊢
  simp [c, a, f1]
theorem s8f_at {x y z : PyData} {s0 s1 s2 : Sl} (e : F_Lholds [.dat x, .dat y, .dat z] = some (.bool true, [.un, .un, .un])) : gS8f [s0, s1, s2, .dat x, .dat y, .dat z] = some (.bool true, [s0, s1, s2, .dat x, .dat y, .dat z]) := by
  unfold gS8f
  generalize F_Lholds = A at e ⊢
  simp [e]
theorem s8c_at {E : List Tri} {s0 s2 : Sl} (h : ∀ e ∈ E, Fine e) (hz : E.length ≤ 1000) : gS8c (qB s0 (.dat (.list (E.map trip))) s2) = some (E.map fun _ => .bool true, qB s0 (.dat (.list (E.map trip))) s2) := by
  unfold gS8c
  exact comp_all (it := iSeq (fVar 1)) (ks := [3, 4, 5]) (t := tTupT 3 [tName 3, tName 4, tName 5]) (f := gS8f) trip (fun _ => PyData.bool true) (ρ := qB s0 (.dat (.list (E.map trip))) s2) E rfl rfl (fun e he => ⟨[s0, .dat (.list (E.map trip)), s2, .dat (.tuple (e.1.map .str)), .dat (.int (e.2.1 : Int)), .dat (.int (e.2.2 : Int))], _, rfl, s8f_at (h e he), rfl⟩) (by omega)
theorem s8_at {ρ : Rho} {E : List Tri} (c : gS8c ρ = some (E.map fun _ => PyData.bool true, ρ)) : gS8 ρ = some (.rt (.bool true) ρ) := by
  have al : allD [.list (E.map fun _ => PyData.bool true)] = some (.bool true) := by
    have := all_true (E.map fun _ => PyData.none)
    rw [List.map_map] at this
    exact this
  unfold gS8
  generalize gS8c = C at c ⊢
  generalize (E.map fun _ => PyData.bool true) = B at c al
  generalize allD = op at al ⊢
  simp [c, al]
theorem by_hand : F_Lbyhand [] = some (.bool true, []) := by
  have f := m_fore (L := far) (m := 2) (by rw [far_len]; omega) (by omega) (by omega)
  have s7 := s7_at (s7f_at (s0 := rw6) (s1 := .dat (.list (TT.map trip))) f) (by rw [List.length_map]; decide)
  have e : TT.map trip ++ [PyData.tuple [.tuple (far.map .str), .int 2, .int ((far.length - GN far 2 : Nat) : Int)]] = (TT ++ [eF]).map trip := by
    rw [List.map_append]
    rfl
  rw [e] at s7
  have s8 := s8_at (s8c_at (E := TT ++ [eF]) (s0 := rw6) (s2 := .dat (.tuple (far.map .str))) (fun e he => (List.mem_append.mp he).elim (TT_fine e) (fun h => by rw [List.mem_singleton.mp h]; exact eF_fine)) (by rw [List.length_append]; decide))
  have s6 := s6_at (s1 := .dat (.list (TT.map trip)))
  have all : ∃ ρ, g_Lbyhand (qB .un .un .un) = some (.rt (.bool true) ρ) := by
    refine ⟨qB rw6 (.dat (.list ((TT ++ [eF]).map trip))) (.dat (.tuple (far.map .str))), ?_⟩
    rw [gS_is, sq_nx s1_at, sq_nx s2_at, sq_nx s3_at, sq_nx s4_at, sq_nx s5_at, sq_nx s6, sq_nx s7]
    exact sq_rt s8
  obtain ⟨ρ, all⟩ := all
  exact body_rt (m := 6) (g := g_Lbyhand) (sls := []) rfl all
theorem q_caN (F : FF) (f : LF) (ρ : Rho) : fCaN F f ρ = (match f ρ with
  | none => none
  | some (ds, ρ1) => match F [.own true (.l ds)] with
    | none => none
    | some (d, _) => some (d, ρ1)) := rfl
abbrev gMk : LF := fCaL 1 F_Lpool (aCons (gVal (fCa 2 F_Lcell (aCons (gScr 0) (aCons (gVar 1) aNil)))) aNil)
theorem mk (ns : List Int) (k : Nat) (hk : k ≤ 1000) : ∃ P, gMk [.scr ns, .dat (.int k)] = some (P, [.scr ns, .dat (.int k)]) ∧ Pool P := by
  obtain ⟨v, ev⟩ := m_cell ns k hk
  obtain ⟨P, eP, hP⟩ := m_pool v
  exact ⟨P, by simp [gMk, ev, eP], hP⟩
theorem one (ns : List Int) (k : Nat) (hk : k ≤ 1000) : fCaN F_Lright gMk [.scr ns, .dat (.int k)] = some (.bool true, [.scr ns, .dat (.int k)]) := by
  obtain ⟨P, e, hP⟩ := mk ns k hk
  obtain ⟨P', e2⟩ := m_right hP
  rw [q_caN, e]
  dsimp only
  rw [e2]
abbrev gN : LF := (lCons (fCl maxD (aCons (gVal (fC (.int 2))) (aCons (gVal (fCl min2D (aCons (gVal (fScrLen 0)) (aCons (gVal (fC (.int 6))) aNil)))) aNil))) lNil)
noncomputable def gLA : SF := fRet (fCl allD (aCons (gVal (fLst (fComp (iRange1 gN) [1] (tName 1) fYes (fCaN F_Lright gMk)))) aNil))
theorem law_is : g_law = fSq (fIfS (fNot (fTst (fCa 0 F_Lbyhand aNil))) gF0 fNx) (fSq gLA fNx) := rfl
theorem l0_t {A : FF} {ρ : Rho} (e : A [] = some (.bool true, [])) : fNot (fTst (fCa 0 A aNil)) ρ = some (false, ρ) := by
  simp [e]
theorem l0_gen {A : FF} {ρ : Rho} (e : A [] = some (.bool true, [])) : fIfS (fNot (fTst (fCa 0 A aNil))) gF0 fNx ρ = some (.nx ρ) := (ifs_f (l0_t e)).trans (q_fNx _)
theorem law_gen {A : FF} {G : SF} {ρ ρ1 : Rho} (e : A [] = some (.bool true, [])) (h : G ρ = some (.rt (.bool true) ρ1)) : fSq (fIfS (fNot (fTst (fCa 0 A aNil))) gF0 fNx) (fSq G fNx) ρ = some (.rt (.bool true) ρ1) := by
  rw [sq_nx (l0_gen e)]
  exact sq_rt h
theorem law_true (ns : List Int) (_ : ns.length ≤ 63) : ∃ sls, F_law [.scr ns] = some (.bool true, sls) := by
  have hN : ∃ N : Int, 0 ≤ N ∧ N ≤ 6 ∧ gN [.scr ns, .un] = some ([.int N], [.scr ns, .un]) := by
    refine ⟨if (if (6 : Int) < (ns.length : Int) then 6 else (ns.length : Int)) > 2 then (if (6 : Int) < (ns.length : Int) then 6 else (ns.length : Int)) else 2, ?_, ?_, ?_⟩
    · split <;> omega
    · split
      · split <;> omega
      · omega
    · rfl
  obtain ⟨N, N0, N6, eN⟩ := hN
  have it := q_iR eN (small62_le N0 (by omega))
  have c := comp_map (k := 1) (f := fCaN F_Lright gMk) (h := fun _ => .bool true) (ρ := [.scr ns, .un]) (rangeD 0 N.toNat) [] (fun d hd => by
    obtain ⟨k, hk, rfl⟩ := rangeD_mem hd
    rw [Int.zero_add]
    exact ⟨_, one ns k (by omega), rfl⟩) (by rw [rangeD_len]; simp; omega)
  rw [List.nil_append] at c
  have cc : fComp (iRange1 gN) [1] (tName 1) fYes (fCaN F_Lright gMk) [.scr ns, .un] = some ((rangeD 0 N.toNat).map fun _ => .bool true, [.scr ns, .un]) := by
    rw [q_fComp, it]
    exact c
  have al := all_true (rangeD 0 N.toNat)
  have e1 : gLA [.scr ns, .un] = some (.rt (.bool true) [.scr ns, .un]) := by
    unfold gLA
    generalize fComp (iRange1 gN) [1] (tName 1) fYes (fCaN F_Lright gMk) = C at cc ⊢
    simp [cc, al]
  have all : g_law [.scr ns, .un] = some (.rt (.bool true) [.scr ns, .un]) := by
    rw [law_is]
    exact law_gen by_hand e1
  exact ⟨backP 1 [.scr ns, .un], body_rt (m := 1) (g := g_law) (sls := [.scr ns]) rfl all⟩
end K75

set_option Elab.async false
set_option linter.all false
set_option maxRecDepth 100000
set_option maxHeartbeats 4000000
/-! The law holds. -/
open PySem PySem.W PySem.Calls PyProof.Rows
theorem PySem.Challenge.cw_missbounds_k75_weights_holds : PySem.Challenge.rw_missbounds_k75_weights.Holds := by
  w_on; o_law
  refine HandSHeadRun.head_any (r := OpenLaw.row PySem.Challenge.rw_missbounds_k75_weights) (q := view (OpenLaw.row PySem.Challenge.rw_missbounds_k75_weights).prog [34]) (H := K75.hk) (ob := K75.ob) (M := 20000) (loose := K75.loose) (d := HandSHeadRun.topDef (OpenLaw.row PySem.Challenge.rw_missbounds_k75_weights).prog 34) (kwd := []) K75.ob_eq
    (by kernel_rfl) (fun s => by kernel_rfl) K75.headRun (by kernel_rfl) (by kernel_rfl) (by kernel_rfl) (by rfl) (by first | assumption | decide +kernel) (by decide +kernel) ⟨rfl, rfl, rfl, rfl, rfl, by decide +kernel⟩ ?hw ?hc
  case hw => w_witness2
  case hc =>
    refine DL.walk_TF (l := PySem.Challenge.rw_missbounds_k75_weights) (n := 63) (k := 7) (x := "_law_script") rfl (by decide) (by kernel_rfl) ⟨rfl, by decide, by decide⟩ ?F
    intro w mg fa h Y G hmg0
    obtain ⟨K, KX, c⟩ := Y
    have hmg : mg ("law" : PySem.Str) = some (.ref fa) := by
      have e : (HandSHeadRun.topDef (OpenLaw.row PySem.Challenge.rw_missbounds_k75_weights).prog 34).name = ("law" : PySem.Str) := by kernel_rfl
      rw [← e]
      exact hmg0
    letI : DL.FT := K75.ftOf  
    obtain ⟨fd, hb, hF⟩ := K75.facts (P := (PySem.Challenge.rw_missbounds_k75_weights).prog) (w := w) KX G hmg c (K75.ft_ok )
    refine ⟨inferInstance, K, fd, DL.spD w K 1 K75.F_law, K75.cps K, KX, fun p hp => ?_, fun p hp => ?_, fun p hp => ?_, hb, fun H a ns hl hS hH => DL.sp_scr (K75.law_true ns hl).choose_spec hS (DL.tb_empty fun p hp => ?_), hF⟩
    · obtain ⟨x, hx, rfl⟩ := List.mem_map.mp hp
      exact c.empty x hx
    · obtain ⟨x, hx, rfl⟩ := List.mem_map.mp hp
      exact c.out x hx
    · obtain ⟨x, hx, rfl⟩ := List.mem_map.mp hp
      exact PySem.W.codeHd_of_K KX (c.hd x hx)
    · have hp2 : p ∈ ([] : List (PySem.Addr × (Nat → Nat → PySem.Str))) := hp
      cases hp2

