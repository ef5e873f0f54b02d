import PyProof.Rows.All
import Wide.All
import OpenK.AllK
import Wide.FinOn
import HandS.ForMost
import HandS.Exc
import HandS.Defaults
import HandS.HeadEnd
import HandS.ExcInit
import HandS.NoneIn
import HandS.Steps
import PyProof.ReprRoads
import HandS.IsInst
import HandS.Star
import HandS.RevTup
import HandS.TupMul
import HandS.TupLen
import HandS.TupAny
import HandS.Deep
import HandS.Conv
import KE.KeyNested
import KE.KDictKeyed
import HandS.Nested
import HandS.Strs
import HandS.SetFor
import HandS.Style
import HandS.Iter
import KE.KUnpackStar
import KE.GoesMore
import PyProof.EnumMake
import HandS.HeadHook3
import HandS.Property
import HandS.Zip
import HandS.NestedK
import KE.KLam
import HandS.Lambda
import KE.KDictDisplayH
import PyProof.Walks
import HandS.Dict
import HandS.RevRange
import HandS.EndTab
import KE.DataFind
import KE.KTupSum
import KE.DataMinKey
import KE.DataMinMax
import KE.SortData
import HandS.SetKeys
import HandS.Flow
import HandS.WordsDict
import HandS.SortKw
import HandS.Head0
import HandS.Head1
import HandS.Head2
import HandS.HeadHook1
import HandS.HeadHook2
import HandS.HeadHook4
import KE.KStateDown
import PySem.Challenge.RW_missbounds_k77_whole_no_device_with_fewe
set_option Elab.async false
set_option linter.all false
set_option maxRecDepth 100000
set_option maxHeartbeats 4000000
namespace GX
open PySem PySem.Spec PyProof.Rows L2
abbrev Gd (A : Around) : Prop := A.guards = some []
structure FnG (P : Program) (w : World) (K : PySem.W.Frag) (mg : Str → Option Value) (base : Heap) (k : Nat) (f : Addr) (fd : FuncData) (ps : List Str) (sp : Sp) : Prop where
  len : ∀ vs H Q E, sp vs H Q E → vs.length = ps.length
  go : ∀ (A : Around) (outer : List Env) (s : Shared) (H : Hp) (args : Args) (us : List Value) (vs : List V) (Q : VK) (E : XK), Gd A → Room k A →
    Env0 P w K mg base A outer s H → BindsTo s fd args (ps.zip us) → Vals vs us → sp vs H Q E →
    codeAny (model P w) A (.call (.ref f) args) (CR CX0 outer P w H s Q E) s
section
variable {P : Program} {w : World} {K : PySem.W.Frag} {mg : Str → Option Value} {base : Heap} {k : Nat} {f : Addr} {fd : FuncData} {ps : List Str} {sp : Sp}
theorem FnG.of (F : FnOk P w K mg base CX0 k f fd ps sp) : FnG P w K mg base k f fd ps sp :=
  ⟨F.len, fun A outer s H args us vs Q E _ hr he hb hv hs => F.run A outer s H args us vs Q E hr he hb hv hs⟩
theorem FnG.mono {j : Nat} (F : FnG P w K mg base j f fd ps sp) (h : j ≤ k) : FnG P w K mg base k f fd ps sp :=
  ⟨F.len, fun A outer s H args us vs Q E g hr he hb hv hs => F.go A outer s H args us vs Q E g (hr.mono h) he hb hv hs⟩
/-- a def by its body, which knows its code object -/
theorem okGc {x qual : Str} {pa : Arguments} {bd : List Stmt} {sc : Scope} {dvs : List V} {kws : List (Str × V)} {N : List Str}
    (F : FunD K x qual pa bd sc dvs kws f fd) (S : FnScope N ps sc) (len : ∀ vs H Q E, sp vs H Q E → vs.length = ps.length)
    (body : ∀ (cdw : Value), fd.code = cdw → ∀ (A : Around) (outer : List Env) (s : Shared) (H : Hp) (vs : List V) (Q : VK) (E : XK),
      Gd (A.deeper (envOfC qual sc s.heap.objs.size f cdw)) → Room k (A.deeper (envOfC qual sc s.heap.objs.size f cdw)) → sp vs H Q E →
      ∃ t, PSs (cxOf CX0 P w K mg base N qual sc f cdw A outer s H E).nox bd t ∧ t { nx := fun _ H' => Q .non H', rt := Q } (start N vs) H) :
    FnG P w K mg base (k + 1) f fd ps sp := by
  obtain ⟨oc, od, dV, kV, doc, pm, an, cdw, ct, slo, rfl, at_, isCode, _, _⟩ := F.ex
  constructor
  · exact len
  intro A outer s H args us vs Q E hG hR e0 hb rv hs
  have hlen := len _ _ _ _ hs
  have kin : K.In s.heap := e0.mod.kin.keeps fun b o z => (e0.bs b o z).1
  have nol : s.heap.NoLimit := e0.mod.nolimit.keeps fun b o z => (e0.bs b o z).1
  have kinds : ∀ y ∈ ps.zip us, sc.names.lookup y.1 = some .local ∨ (sc.names.lookup y.1 = some .cell ∧ ((cellsFrom (s.heap.objs.size + 1) sc.names []).lookup y.1).isSome = true) := by
    rintro ⟨n, v⟩ hy
    rcases S.par n (List.of_mem_zip hy).1 with z | z
    · exact Or.inl z
    · exact Or.inr ⟨z, PySem.W.cellsFrom_some _ _ _ (.inl z)⟩
  refine codeAny_call_function (Room.depth hR) (kin _ _ at_) rfl S.co S.gen rfl (PySem.W.codeRec_of kin isCode) (hb _ _ _ _ (wpAny_newFunctionEnv_cells S.kind kinds ?_))
  intro env henv s1 x
  subst henv
  refine ⟨nol.keeps x.toInCall.keep, codeAny_func ?_⟩
  obtain ⟨t, ht, hq⟩ := body cdw rfl A outer s H vs Q E (by exact hG) (hR.deeper _) hs
  have I := inv_start (CX := CX0) (P := P) (w := w) (K := K) (mg := mg) (base := base) (E := E) S hR.hd e0 hlen rv x
  have done : ∀ {σ' : L2.St} {H' : Hp} {v : V} {u : Value} {s' : Shared}, Inv (cxOf CX0 P w K mg base N qual sc f cdw A outer s H E) [] σ' H' s' → RelV v u → Q v H' → CE outer P w H s Q u s' :=
    fun {_ H' v _ _} J r q => ⟨v, H', J.os, J.bare, J.base, J.hok, r, q⟩
  refine wpAny_mono (ht.nox.run [] s1 (start N vs) H _ I hq) ?_ (fun _ _ z => z)
  intro fl s' hfl
  cases fl with
  | ret u => obtain ⟨v, σ', H', J, r, q⟩ := hfl; exact done J r q
  | next => obtain ⟨σ', H', J, q⟩ := hfl; exact done (v := V.non) (u := Value.none) J rfl q
  | brk => obtain ⟨_, _, _, q⟩ := hfl; exact q.elim
  | cont => obtain ⟨_, _, _, q⟩ := hfl; exact q.elim
/-- a def by its body -/
theorem okG {x qual : Str} {pa : Arguments} {bd : List Stmt} {sc : Scope} {dvs : List V} {kws : List (Str × V)} {N : List Str}
    (F : FunD K x qual pa bd sc dvs kws f fd) (S : FnScope N ps sc) (len : ∀ vs H Q E, sp vs H Q E → vs.length = ps.length)
    (body : ∀ (cdw : Value) (A : Around) (outer : List Env) (s : Shared) (H : Hp) (vs : List V) (Q : VK) (E : XK),
      Gd (A.deeper (envOfC qual sc s.heap.objs.size f cdw)) → Room k (A.deeper (envOfC qual sc s.heap.objs.size f cdw)) → sp vs H Q E →
      ∃ t, PSs (cxOf CX0 P w K mg base N qual sc f cdw A outer s H E).nox bd t ∧ t { nx := fun _ H' => Q .non H', rt := Q } (start N vs) H) :
    FnG P w K mg base (k + 1) f fd ps sp :=
  okGc F S len fun cdw _ => body cdw
end
section
variable {X : Cx} {k : Nat} {f : Addr} {fd : FuncData} {ps : List Str} {sp : Sp} {x : Str} {p pos : Pos} {e : Expr} {es : List Expr} {t : TA}
theorem runG {pins : List (Addr × Obj)} {σ : L2.St} {H : Hp} {s : Shared} {Q : VK} {us : List Value} {vs : List V}
    (F : FnG X.prog X.w X.K X.mg X.base k f fd ps sp) (hG : Gd X.A) (hR : Room k X.A) (hb : Binds X.K fd ps []) (I : Inv X pins σ H s) (r : Vals vs us) (h : sp vs H Q E0) :
    wpAny (model X.prog X.w) X.A (call (.ref f) us)
      (EP X pins σ Q) X.xe s := by
  have hl : (us ++ ([] : List Value)).length = ps.length := by
    rw [List.append_nil, ← r.length]
    exact F.len _ _ _ _ h
  have hbb := hb s us I.kIn hl
  rw [List.append_nil] at hbb
  apply wpAny_call
  refine codeAny_mono (F.go X.A X.stack s H ⟨us, []⟩ us vs Q E0 hG hR I.env0 hbb r h) ?_
  intro res s' z
  cases res with
  | error er => exact False.elim z
  | ok fl => cases fl with
    | ret u => exact I.after z
    | next => exact z.elim
    | brk => exact z.elim
    | cont => exact z.elim
/-- f(e, ..) -/
theorem pe_callG (F : FnG X.prog X.w X.K X.mg X.base k f fd ps sp) (hG : Gd X.A) (hR : Room k X.A) (hg : Gl X x) (hm : X.mg x = some (.ref f)) (hk : PySem.W.keepIn X.K (.ref f) = true) (hb : Binds X.K fd ps [])
    (ha : PA X (e :: es) t)
    (hdb : (x == ("__debug__" : Str)) = false := by decide)
    (he : starEach (e :: es) X.env = (false, eval e X.env) :: starEach es X.env := by rfl) (hpl : (backTo pos (starEach es X.env)).any (·.1) = false := by rfl) :
    PE X (.Call (.Name x p) (e :: es) [] pos) (tCall sp [] E0 t) := by
  constructor
  intro pins s σ H Q I h
  apply wpAny_Call_Name_kw
  refine ld_glob I hg hm (PySem.W.callWith_K (h₀ := X.base) I.ok.mod.kin hk (thn (ha.run pos pins s σ H _ I h) ?_) he hpl) hdb
  rintro us s1 ⟨vs, H1, I1, r, q⟩
  exact ⟨I1.kIn, runG F hG hR hb I1 r (by rw [List.append_nil] at q; exact q)⟩
end
mutual
inductive Dd (K : PySem.W.Frag) (H : Hp) : V → PyData → Prop
  | non : Dd K H .non .none
  | bl (b : Bool) : Dd K H (.bl b) (.bool b)
  | int (i : Int) : Dd K H (.int i) (.int i)
  | str (x : Str) : Dd K H (.str x) (.str x)
  | lst {a : Addr} {xs : List V} {ds : List PyData} : a ≠ sysModules → SqL K H a xs → DdA K H xs ds → Dd K H (.ref a) (.list ds)
  | tup {a : Addr} {xs : List V} {ds : List PyData} : SqT K H a xs → DdA K H xs ds → Dd K H (.ref a) (.tuple ds)
  | dic {a : Addr} : H a = some (.dK []) → Dd K H (.ref a) (.dict [])
inductive DdA (K : PySem.W.Frag) (H : Hp) : List V → List PyData → Prop
  | nil : DdA K H [] []
  | cons {v : V} {vs : List V} {d : PyData} {ds : List PyData} : Dd K H v d → DdA K H vs ds → DdA K H (v :: vs) (d :: ds)
end
theorem sqT_same {K : PySem.W.Frag} {H H' : Hp} {a : Addr} {xs : List V} (e : Same H H') (h : SqT K H a xs) : SqT K H' a xs := by
  rcases h with (h | ⟨o, h⟩) | h
  · exact .inl (.inl (e _ _ h))
  · exact .inl (.inr ⟨o, e _ _ h⟩)
  · exact .inr h
mutual
theorem Dd.same {K : PySem.W.Frag} {H H' : Hp} (e : Same H H') : ∀ (d : PyData) (v : V), Dd K H v d → Dd K H' v d
  | .none, _, h => by cases h; exact .non
  | .bool _, _, h => by cases h; exact .bl _
  | .int _, _, h => by cases h; exact .int _
  | .str _, _, h => by cases h; exact .str _
  | .list ds, _, h => by cases h with | lst hne hs ha => exact .lst hne (e.seq hs) (DdA.same e ds _ ha)
  | .tuple ds, _, h => by cases h with | tup hs ha => exact .tup (sqT_same e hs) (DdA.same e ds _ ha)
  | .dict _, _, h => by cases h with | dic hd => exact .dic (e _ _ hd)
theorem DdA.same {K : PySem.W.Frag} {H H' : Hp} (e : Same H H') : ∀ (ds : List PyData) (vs : List V), DdA K H vs ds → DdA K H' vs ds
  | [], _, h => by cases h; exact .nil
  | d :: ds, _, h => by cases h with | cons h1 h2 => exact .cons (Dd.same e d _ h1) (DdA.same e ds _ h2)
end
section
variable {X : Cx} {s : Shared} {H : Hp} {σ : L2.St} {pins : List (Addr × Obj)}
theorem dK_nil {a : Addr} (I : Inv X pins σ H s) (h : H a = some (.dK [])) : ∃ (o : Obj) (n : Nat), s.heap.get? a = some o ∧ o.cls = .type "dict" ∧ o.data = .dict #[] n ∧ a ≠ sysModules := by
  obtain ⟨_, hs, vs, kv, o, es, ep, ho, hx, hd, _, hl, _⟩ := I.hok a _ h
  cases kv
  have e0 : es = #[] := by
    obtain ⟨l⟩ := es
    cases hl
    rfl
  subst e0
  exact ⟨o, ep, ho, hx.1, hd, by simpa using hs⟩
mutual
theorem Dd.reads (I : Inv X pins σ H s) : ∀ (d : PyData) (v : V) (u : Value), Dd X.K H v d → RelV v u → ∃ as, Reads s.heap u d as ∧ sysModules ∉ as
  | .none, _, _, h, r => by cases h; cases r; exact ⟨_, .none, fun z => nomatch z⟩
  | .bool b, _, _, h, r => by cases h; cases r; exact ⟨_, .bool b, fun z => nomatch z⟩
  | .int i, _, _, h, r => by cases h; obtain ⟨t, rfl⟩ := r; exact ⟨_, .int i t, fun z => nomatch z⟩
  | .str x, _, _, h, r => by cases h; obtain ⟨t, rfl⟩ := r; exact ⟨_, .str x t, fun z => nomatch z⟩
  | .list ds, _, _, h, r => by
    cases h with
    | lst hne hs ha =>
      cases r
      obtain ⟨its, rv, ⟨o, n, ho, hc, _, hd⟩, _⟩ := I.list hs
      obtain ⟨as, hr, hz⟩ := DdA.reads I ds _ its ha rv
      refine ⟨_, .list ho hc hd hr, fun z => ?_⟩
      rcases List.mem_cons.mp z with y | y
      · exact hne y.symm
      · exact hz y
  | .tuple ds, _, _, h, r => by
    cases h with
    | tup hs ha =>
      cases r
      obtain ⟨its, rv, ⟨o, ho, hc, n, hd⟩, _⟩ := I.tuple hs
      obtain ⟨as, hr, hz⟩ := DdA.reads I ds _ its ha rv
      exact ⟨_, .tuple ho hc hd hr, hz⟩
  | .dict kvs, _, _, h, r => by
    cases h with
    | dic hd0 =>
      cases r
      obtain ⟨o, n, ho, hc, hd, hne⟩ := dK_nil I hd0
      exact ⟨_, .dict (kvs := []) ho hc hd .nil .nil, fun z => by simp at z; exact hne z.symm⟩
theorem DdA.reads (I : Inv X pins σ H s) : ∀ (ds : List PyData) (vs : List V) (us : List Value), DdA X.K H vs ds → Vals vs us → ∃ as, ReadsAll s.heap us ds as ∧ sysModules ∉ as
  | [], _, _, h, r => by cases h; cases r; exact ⟨_, .nil, fun z => nomatch z⟩
  | d :: ds, _, _, h, r => by
    cases h with
    | cons h1 h2 =>
      cases r with
      | cons r1 r2 =>
        obtain ⟨as, q1, z1⟩ := Dd.reads I d _ _ h1 r1
        obtain ⟨bs, q2, z2⟩ := DdA.reads I ds _ _ h2 r2
        refine ⟨_, .cons q1 q2, fun hm => ?_⟩
        rcases List.mem_append.mp hm with y | y
        · exact z1 y
        · exact z2 y
end
end
end GX
namespace DL
open PySem PySem.Spec PyProof.Rows L2 GX StX
/-- a tuple is read there, and it has no attributes -/
def TpN (K : PySem.W.Frag) (H : Hp) (a : Addr) (xs : List V) : Prop :=
  (∃ o : Obj, H a = some (.frz o (.tup xs)) ∧ o.dict = none) ∨
    ∃ (ob : Obj) (its : Array Value) (m : Nat), K.lookup a = some ob ∧ ob.cls = .type "tuple" ∧ ob.dict = none ∧ ob.data = .seq its m ∧ its.size ≤ sizeLine ∧ Vals xs its.toList
theorem TpN.sq {K : PySem.W.Frag} {H : Hp} {a : Addr} {xs : List V} (h : TpN K H a xs) : SqT K H a xs := by
  rcases h with ⟨o, h, _⟩ | ⟨o, its, m, h1, h2, _, h4, h5, h6⟩
  · exact .inl (.inr ⟨o, h⟩)
  · exact .inr ⟨o, its, m, h1, h2, h4, h5, h6⟩
theorem TpN.same {K : PySem.W.Frag} {H H' : Hp} {a : Addr} {xs : List V} (h : TpN K H a xs) (e : Same H H') : TpN K H' a xs := by
  rcases h with ⟨o, h, d⟩ | h
  · exact .inl ⟨o, e _ _ h, d⟩
  · exact .inr h
section
variable {X : Cx} {pins : List (Addr × Obj)} {σ : L2.St} {H : Hp} {s : Shared}
/-- what is wanted of a new tuple -/
def NewT (H : Hp) (xs : List V) (Q : VK) : Prop := ∀ (p : Addr) (o : Obj), H p = none → o.dict = none → Q (.ref p) (upd H p (.frz o (.tup xs)))
theorem laidT {xs : List V} {us : List Value} {Q : VK} {t' : Nat} (I : Inv X pins σ H s) (rv : Vals xs us) (z : xs.length ≤ sizeLine) (q : NewT H xs Q) :
    EP X pins σ Q (.ref s.heap.objs.size) { s with heap := s.heap.push { cls := .type "tuple", data := .seq us.toArray }, toks := t' } := by
  have there := Heap.get?_push_size s.heap (o := { cls := .type "tuple", data := .seq us.toArray }) rfl
  refine ⟨.ref s.heap.objs.size, upd H s.heap.objs.size (.frz { cls := .type "tuple", data := .seq us.toArray } (.tup xs)), ?_, rfl, q _ _ (I.hok.fresh (Nat.le_refl _)) rfl⟩
  exact I.laid (fun b o e => Heap.get?_push_of_some _ e) (Nat.le_refl _) ⟨there, z, us, rv, ⟨_, there, rfl, 0, rfl⟩⟩
def tTupN (t : TA) : TE := fun σ H Q => t σ H fun xs H1 => xs.length ≤ sizeLine ∧ NewT H1 xs Q
theorem pe_tupN {es : List Expr} {t : TA} {x1 : Nat} {pos : Pos} (h : PA X es t) : PE X (.Tuple es x1 pos) (tTupN t) := by
  constructor
  intro pins s σ H Q I hq
  apply wpAny_Tuple_spliced
  refine thn (h.run pos pins s σ H _ I hq) ?_
  rintro us s1 ⟨xs, H1, I1, r, z, q⟩
  exact ⟨by rw [← r.length]; exact z, laidT (t' := s1.toks) I1 r z q⟩
def rCatN (K : PySem.W.Frag) : R2 := fun x y H Q => ∃ a b xs ys, x = .ref a ∧ y = .ref b ∧ SqT K H a xs ∧ SqT K H b ys ∧ xs.length + ys.length ≤ sizeLine ∧
  (xs = [] → Q (.ref b) H) ∧ (xs ≠ [] → ys = [] → Q (.ref a) H) ∧ (xs ≠ [] → ys ≠ [] → NewT H (xs ++ ys) Q)
theorem op_catN : OpR X (binaryOp .Add) (rCatN X.K) := by
  intro pins s σ H x y v u Q I rx ry h
  obtain ⟨a, b, xs, ys, e1, e2, ha, hb, hz, q0, q1, q2⟩ := h
  subst e1 e2
  obtain rfl : v = Value.ref a := rx
  obtain rfl : u = Value.ref b := ry
  obtain ⟨ia, ra, pa, _⟩ := I.tuple ha
  obtain ⟨ib, rb, pb, _⟩ := I.tuple hb
  by_cases hx : xs = []
  · subst hx
    cases ra
    exact cat_tup0 pa pb ⟨.ref b, H, I, rfl, q0 rfl⟩
  · have la := ra.length
    have lb := rb.length
    refine HT.cat_tup pa pb (fun w => hx (ra.nil_iff.mp w)) (fun w => ⟨.ref a, H, I, rfl, q1 hx (rb.nil_iff.mp w)⟩) (fun w => ?_) (by omega)
    exact laidT (t' := s.toks) I (ra.append rb) (by rw [List.length_append]; exact hz) (q2 hx fun w2 => w (rb.nil_iff.mpr w2))
def rSlN (K : PySem.W.Frag) : V → Option Int → Option Int → Hp → VK → Prop := fun x lo hi H Q => ∃ a xs, x = .ref a ∧ SqT K H a xs ∧
  ((HT.sIx xs.length 0 lo = 0 ∧ HT.sIx xs.length xs.length hi = xs.length → Q (.ref a) H) ∧ (¬ (HT.sIx xs.length 0 lo = 0 ∧ HT.sIx xs.length xs.length hi = xs.length) → NewT H (cutV xs lo hi) Q))
theorem sl_N : SlR X (rSlN X.K) := by
  intro pins s σ H x v vl vu lo hi sl Q I rx hs pl pu h
  obtain ⟨a, xs, e1, hx, q1, q2⟩ := h
  subst e1
  obtain rfl : v = Value.ref a := rx
  obtain ⟨ia, ra, ta, za⟩ := I.tuple hx
  have la : ia.toArray.size = xs.length := by rw [List.size_toArray]; exact ra.length.symm
  refine ⟨"tuple", _, PyProof.Rows.slot_tuple_getitem.lookup, ta.typeIs, ?_⟩
  by_cases hw : HT.sIx xs.length 0 lo = 0 ∧ HT.sIx xs.length xs.length hi = xs.length
  · exact getItem_tuple_whole ta hs pl pu (by rw [la]; exact hw) ⟨.ref a, H, I, rfl, q1 hw⟩
  · refine HT.getItem_tuple_cut ta hs pl pu (by rw [la]; exact hw) ?_ (by rw [la]; exact za)
    rw [la]
    have rc : Vals (cutV xs lo hi) ((ia.drop (HT.sIx xs.length 0 lo)).take (HT.sIx xs.length xs.length hi - HT.sIx xs.length 0 lo)) := (ra.drop _).take _
    exact laidT (t' := s.toks) I rc (Nat.le_trans (cutV_length xs lo hi) za) (q2 hw)
def rTupN (K : PySem.W.Frag) : List V → Hp → VK → Prop := fun vs H Q => ∃ p ys, vs = [.ref p] ∧ ((SqL K H p ys ∧ NewT H ys Q) ∨ (SqT K H p ys ∧ Q (.ref p) H))
theorem call_tupN : CallR X (.type "tuple") (rTupN X.K) := by
  intro pins s σ H xs us Q I r h
  obtain ⟨p, ys, e1, h⟩ := h
  subst e1
  obtain ⟨u, rfl, ru⟩ := r.one
  obtain rfl : u = Value.ref p := ru
  rcases h with ⟨hs, q⟩ | ⟨hs, q⟩
  · obtain ⟨ia, ra, la, za⟩ := I.list hs
    refine call_tuple_list la.isList (fun h' hk => ?_) (by rw [List.size_toArray, ← ra.length]; exact za)
    exact laidT (t' := s.toks) (I.kept (t' := s.toks) hk) ra za q
  · obtain ⟨ia, ra, ta, za⟩ := I.tuple hs
    exact call_tuple_tup ta ⟨.ref p, H, I, rfl, q⟩
def rDmN : List V → Hp → VK → Prop := fun vs H Q => ∃ i j, vs = [.int i, .int j] ∧ CDiv i j ∧ NewT H [.int (i / j), .int (i % j)] Q
theorem call_dmN : CallR X (.builtin "divmod") rDmN := by
  intro pins s σ H xs us Q I r h
  obtain ⟨i, j, e1, hc, q⟩ := h
  subst e1
  obtain ⟨u, w', rfl, ⟨t, rfl⟩, ⟨t', rfl⟩⟩ := vals2 r
  have j0 := hc.1
  have j1 := hc.2
  refine divmod_int (by omega) ?_ (.inl (PyProof.noPylong_small (by omega)))
  rw [Int.fdiv_eq_ediv_of_nonneg i (by omega), Int.fmod_eq_emod_of_nonneg i (by omega)]
  exact laidT (xs := [.int (i / j), .int (i % j)]) (us := [.int (i / j) s.toks, .int (i % j) (s.toks + 1)]) I (.cons ⟨_, rfl⟩ (.cons ⟨_, rfl⟩ .nil)) (by simp only [List.length_cons, List.length_nil]; rw [sizeLine_eq]; decide) q
def tTupRgN (te : L2.St → Hp → (Int → Int → Hp → Prop) → Prop) : TE := fun σ H Q => te σ H fun a b H1 => RgOk a b ∧ NewT H1 (rgV a b) Q
theorem pe_tupRgN {e : Expr} {te : L2.St → Hp → (Int → Int → Hp → Prop) → Prop} {p pos : Pos} (hc : X.calm = true) (hg : Gl X "tuple") (hm : X.mg "tuple" = none) (he : PRg X e te) (na : starEach [e] X.env = (false, eval e X.env) :: starEach [] X.env := by rfl) :
    PE X (.Call (.Name "tuple" p) [e] [] pos) (tTupRgN te) := by
  constructor
  intro pins s σ H Q I h
  refine Call_ (ld_blt I hg hm boot_tuple (PyProof.Rows.callWith_type1 (args_cons (thn (he pins s σ H _ I h) ?_) na) na))
  rintro x s1 ⟨r, a, b, t, u, v, H1, ex, hr, I1, ok, q⟩
  subst ex
  refine args_nil ?_
  obtain ⟨b1, b2, b3, b4, b5⟩ := ok
  refine call_tuple_range (n := (b - a).toNat) (I1.ok.hd hc) hr (small_one b1 b2 b3 b4) (rangeSize_nat a b) b5 fun h' tk acc hk hi => ?_
  have I2 : Inv X pins σ H1 { s1 with heap := h', toks := tk } := I1.kept hk
  have fin := laidT (t' := tk) (Q := Q) I2 (vals_rg hi) (by rw [rgV_length, sizeLine_eq]; omega) q
  rw [Array.toArray_toList] at fin
  exact fin
end
theorem mulN_wp {M : Nat} (l : Addr) (its : List Value) (n : Nat) (dd : Option Addr) (sl : Array (Option Value)) (k : Int) (t : Tok) (prog : Program) (w : World) (A : Around) (E : Value → Shared → Prop) (s : Shared) (Q : Value → Shared → Prop)
    (ho : s.heap.get? l = some { cls := .type "tuple", dict := dd, data := .seq its.toArray n, slots := sl }) (hn : its ≠ []) (h1 : 2 ≤ k) (h2 : k ≤ 2000) (hz : its.length ≤ 500)
    (hQ : Q (.ref s.heap.objs.size) { s with heap := s.heap.push { cls := .type "tuple", data := .seq (List.replicate k.toNat its).flatten.toArray } }) : wpAny (model prog w) A (binaryOp .Mult (.ref l) (.int k t)) Q E s := by
  have emp : its.toArray.isEmpty = false := by
    cases its with
    | nil => exact (hn rfl).elim
    | cons _ _ => rfl
  have room : k.toNat * its.length ≤ 2000 * 500 := Nat.mul_le_mul (by omega) hz
  have many : ((its.toArray.size : Nat) : Int) * k ≤ 1000000 := by
    rw [List.size_toArray]
    have := Int.mul_le_mul_of_nonneg_right (a := ((its.length : Nat) : Int)) (b := 500) (c := k) (by omega) (by omega)
    omega
  have fits : (List.replicate k.toNat its).flatten.length ≤ sizeLine := by
    rw [PyProof.Rows.lm_len_rep_flat, sizeLine_eq]; omega
  have g0 : (decide (k < -(2 ^ 63)) || decide (k ≥ 2 ^ 63)) = false := by
    rw [decide_eq_false (by omega : ¬ k < -(2 ^ 63)), decide_eq_false (by omega : ¬ k ≥ 2 ^ 63)]
    rfl
  have g1 : (its.toArray.isEmpty || k == 1) = false := by
    rw [emp, Bool.false_or, beq_eq_false_iff_ne]
    omega
  have g2 : (decide (k ≤ 0) || its.toArray.isEmpty) = false := by
    rw [emp, Bool.or_false, decide_eq_false (by omega : ¬ k ≤ 0)]
  have g4 : Builtin.Tuple.tupleTooMany (((its.toArray.size : Nat) : Int) * k) = false := by
    unfold Builtin.Tuple.tupleTooMany
    rw [sizeLine_eq, decide_eq_false]
    omega
  have body := tuple_mulW l its.toArray n dd sl k t g0 g1 g2 (by omega) g4 (by rw [size_rep, List.size_toArray]; exact fits)
  refine wpAny_binaryOp_repeat_ref (T := "tuple") (U := "int") (by decide) ⟨_, ho, rfl⟩ (fun s' => typeIs_int s' k t) noFill_tuple_mul F.fills_int_mul F.slot_int_rmul repeat_tuple F.slot_int_index.lookup ?_
  refine call_meets F.slot_int_rmul (typeIs_int s k t) F.entry_int_rmul (F.args_int_rmul_2 _ _) (int_rmul_tuple k t l its.toArray n dd sl) ⟨ho, rfl, ⟨_, ho, rfl⟩, ?_⟩
  refine call_meets F.slot_tuple_mul ⟨_, ho, rfl⟩ F.entry_tuple_mul (F.args_tuple_mul_2 _ _) body ⟨ho, ?_⟩
  rw [size_rep]
  exact hQ
def rRepN (K : PySem.W.Frag) : R2 := fun x y H Q => ∃ l k xs, x = .ref l ∧ y = .int k ∧ SqT K H l xs ∧ xs ≠ [] ∧ (2 ≤ k ∧ k ≤ 2000) ∧ xs.length ≤ 500 ∧ NewT H (List.replicate k.toNat xs).flatten Q
theorem op_repN {X : Cx} : OpR X (binaryOp .Mult) (rRepN X.K) := by
  intro pins s σ H x y v u Q I rx ry h
  obtain ⟨l, k, xs, e1, e2, hT, hne, ⟨k1, k2⟩, hz, q⟩ := h
  subst e1 e2
  obtain rfl : v = Value.ref l := rx
  obtain ⟨t, rfl⟩ := ry
  obtain ⟨its, r, ⟨⟨cls, dd, data, sl⟩, ho, hc, n, hd⟩, hs⟩ := I.tuple hT
  simp only at hc hd
  subst hc hd
  have le := r.length
  refine mulN_wp (M := 0) l its n dd sl k t _ _ _ _ s _ ho (fun z => hne (r.nil_iff.mp z)) k1 k2 (by omega) ?_
  have rr := r.rep k.toNat
  refine laidT (t' := s.toks) I rr ?_ q
  have room : k.toNat * xs.length ≤ 2000 * 500 := Nat.mul_le_mul (by omega) hz
  rw [PyProof.Rows.lm_len_rep_flat, sizeLine_eq]
  omega
end DL
namespace DL
open PySem PySem.Spec PyProof.Rows L2 GX
/-- the functions that a law makes while it runs: by a tag and the addresses of the captured cells -/
class FT where
  /-- tag, code object, captured cells -/
  nf : Str → Addr → List Addr → Option (Addr → HO)
  /-- the name that its code object has -/
  qn : Str → Str
  /-- the code tables of the defs that make functions, each with the name that a place in it has -/
  tabs : List NdefX.NTab := []
  /-- the row's own defs that are handed on as functions -/
  gl : Str → Option Addr := fun _ => none
  /-- the world, where dicts are data -/
  wd : Option World := none
  /-- the row's own classes -/
  cl : Str → Option Addr := fun _ => none
/-- no code table -/
abbrev NoT (o : HO) : Prop := ∀ ps, o ≠ .tbl ps
/-- the code tables: their objects are no part of what is known for good, but each code object that one of them tells is -/
def TbG [FT] (G H : Hp) : Prop := ∀ p ∈ FT.tabs, G p.1 = none ∧ ∃ ps : Array Value, H p.1 = some (.tbl ps) ∧ TriplesOk ps.toList ∧ ∀ (pos : Pos) (cv : Value), codeAmong pos ps.toList = some cv → ∃ c, cv = .ref c ∧ G c = some (LamX.CodeO c (p.2 pos.line pos.col))
theorem TbG.step [FT] {G H G' H' : Hp} (t : TbG G H) (s : Same G G') (n : ∀ P ps, H P = some (.tbl ps) → G P = none → G' P = none ∧ H' P = some (.tbl ps)) : TbG G' H' := fun p hp => by
  obtain ⟨g, ps, h1, h2, h3⟩ := t p hp
  obtain ⟨n1, n2⟩ := n _ _ h1 g
  refine ⟨n1, ps, n2, h2, fun pos cv hc => ?_⟩
  obtain ⟨c, e1, e2⟩ := h3 pos cv hc
  exact ⟨c, e1, s _ _ e2⟩
/-- some cells are not tracked -/
def drp (H : Hp) (cs : List Addr) : Hp := fun b => if b ∈ cs then none else H b
theorem drp_in {H : Hp} {cs : List Addr} {b : Addr} (h : b ∈ cs) : drp H cs b = none := if_pos h
theorem drp_out {H : Hp} {cs : List Addr} {b : Addr} (h : b ∉ cs) : drp H cs b = H b := if_neg h
theorem drp_some {H : Hp} {cs : List Addr} {b : Addr} {o : HO} (h : drp H cs b = some o) : b ∉ cs ∧ H b = some o := by
  by_cases c : b ∈ cs
  · rw [drp_in c] at h; cases h
  · rw [drp_out c] at h; exact ⟨c, h⟩
theorem Same.drp {H H' : Hp} (e : Same H H') (cs : List Addr) : Same (DL.drp H cs) (DL.drp H' cs) := fun b o h => by
  obtain ⟨c, h⟩ := drp_some h
  rw [drp_out c]
  exact e _ _ h
/-- a captured cell that nobody writes any more, and what it holds -/
def CelH (H : Hp) (c : Addr) (v : V) : Prop := ∃ (o : Obj) (u : Value), H c = some (.frz o (.own c)) ∧ o.data = .cell (some u) ∧ L2.RelV v u
def CelsH (H : Hp) : List Addr → List V → Prop := Paired (CelH H)
theorem CelsH.same {H H' : Hp} {cs : List Addr} {ws : List V} (h : CelsH H cs ws) (e : Same H H') : CelsH H' cs ws :=
  Paired.mapP h fun _ _ ⟨o, u, a, b, c⟩ => ⟨o, u, e _ _ a, b, c⟩
/-- a function as a datum: its tag and what it captured -/
def fnD (t : Str) (ds : List PyData) : PyData := .dict [(.str t, .tuple ds)]
mutual
/-- a datum as a key -/
def keyD : PyData → Option NestedKey
  | .none => some .none
  | .bool b => some (.num (if b = true then 1 else 0))
  | .int i => some (.num i)
  | .str x => some (.text x)
  | .tuple ds => match keyDs ds with
    | some ks => some (.tup ks)
    | none => none
  | .list _ => none
  | .dict _ => none
def keyDs : List PyData → Option (List NestedKey)
  | [] => some []
  | d :: ds => match keyD d, keyDs ds with
    | some k, some ks => some (k :: ks)
    | _, _ => none
end
/-- what stands at p is a dict with these keys (that stand there) and values -/
def DicP (ww : World) (p : Addr) (xs : List (NestedKey × Addr × V)) : Heap → Prop := fun h => (p == sysModules) = false ∧ ∃ ys : List (NestedKey × Addr × Value), Paired (fun x y => x.1 = y.1 ∧ x.2.1 = y.2.1 ∧ RelV x.2.2 y.2.2) xs ys ∧
  ∃ o es ep, h.get? p = some o ∧ o.ExactDict ∧ o.data = .dict es ep ∧ es.toList = ys.map (fun y => (⟨NestedKey.hash ww y.1, .ref y.2.1, y.2.2⟩ : DictEntry)) ∧ (ys.map (·.1)).Nodup
theorem DicP.there {ww : World} {p : Addr} {xs : List (NestedKey × Addr × V)} {h : Heap} (x : DicP ww p xs h) : ∃ o, h.get? p = some o := by
  obtain ⟨_, _, _, o, _, _, e, _⟩ := x
  exact ⟨o, e⟩
/-- a dict that nobody writes any more, as a datum: its keys and its values -/
def fdD (ks vs : List PyData) : PyData := .dict [(.bool true, .tuple ks), (.bool false, .tuple vs)]
mutual
inductive Da [FT] (K : PySem.W.Frag) : Hp → V → PyData → Prop
  | non {H : Hp} : Da K H .non .none
  | bl {H : Hp} (b : Bool) : Da K H (.bl b) (.bool b)
  | int {H : Hp} (i : Int) : Da K H (.int i) (.int i)
  | str {H : Hp} (x : Str) : Da K H (.str x) (.str x)
  | lst {H : Hp} {a : Addr} {xs : List V} {ds : List PyData} : H a = some (.lst xs) → DaA K H xs ds → Da K H (.ref a) (.list ds)
  | tup {H : Hp} {a : Addr} {xs : List V} {ds : List PyData} : TpN K H a xs → DaA K H xs ds → Da K H (.ref a) (.tuple ds)
  | dic {H : Hp} {a : Addr} : H a = some (.dK []) → Da K H (.ref a) (.dict [])
  | fn {H : Hp} {a c : Addr} {φ : Addr → HO} {t : Str} {cs : List Addr} {ws : List V} {ds : List PyData} : FT.nf t c cs = some φ → H a = some (φ a) → H c = some (LamX.CodeO c (FT.qn t)) → CelsH H cs ws → cs.Nodup → DaA K (drp H cs) ws ds → Da K H (.ref a) (.dict [(.str t, .tuple ds)])
  | glo {H : Hp} {a : Addr} {t : Str} : FT.gl t = some a → Da K H (.ref a) (.dict [(.str t, .tuple [])])
  | dct {H : Hp} {a : Addr} {o : Obj} {ww : World} {xs : List (NestedKey × Addr × V)} {ks vs : List PyData} : FT.wd = some ww → H a = some (.frz o (.ext (DicP ww a xs))) → DaA K H (xs.map fun x => V.ref x.2.1) ks → keyDs ks = some (xs.map (·.1)) → (∀ x ∈ xs, NestedKey.depth x.1 ≤ 8) → DaA K H (xs.map fun x => x.2.2) vs → Da K H (.ref a) (.dict [(.bool true, .tuple ks), (.bool false, .tuple vs)])
inductive DaA [FT] (K : PySem.W.Frag) : Hp → List V → List PyData → Prop
  | nil {H : Hp} : DaA K H [] []
  | cons {H : Hp} {v : V} {vs : List V} {d : PyData} {ds : List PyData} : Da K H v d → DaA K H vs ds → DaA K H (v :: vs) (d :: ds)
end
section
variable [FT] {K : PySem.W.Frag}
mutual
theorem Da.same : ∀ {d : PyData} {v : V} {H H' : Hp}, Da K H v d → Same H H' → Da K H' v d
  | .none, _, _, _, h, e => by cases h; exact .non
  | .bool _, _, _, _, h, e => by cases h; exact .bl _
  | .int _, _, _, _, h, e => by cases h; exact .int _
  | .str _, _, _, _, h, e => by cases h; exact .str _
  | .list ds, _, _, _, h, e => by cases h with | lst hs ha => exact .lst (e _ _ hs) (DaA.same ha e)
  | .tuple ds, _, _, _, h, e => by cases h with | tup hs ha => exact .tup (hs.same e) (DaA.same ha e)
  | .dict [], _, _, _, h, e => by cases h with | dic hd => exact .dic (e _ _ hd)
  | .dict [(.str _, .tuple ds)], _, _, _, h, e => by
    cases h with
    | fn h1 h2 hc h3 h4 h5 => exact .fn h1 (e _ _ h2) (e _ _ hc) (h3.same e) h4 (DaA.same h5 (Same.drp e _))
    | glo g => exact .glo g
  | .dict ((.none, _) :: _), _, _, _, h, e => by cases h
  | .dict [(.bool true, .tuple ks), (.bool false, .tuple vs)], _, _, _, h, e => by
    cases h with
    | dct h1 h2 h3 h4 h5 h6 => exact .dct h1 (e _ _ h2) (DaA.same h3 e) h4 h5 (DaA.same h6 e)
  | .dict ((.bool false, _) :: _), _, _, _, h, e => by cases h
  | .dict [(.bool true, _)], _, _, _, h, e => by cases h
  | .dict ((.bool true, _) :: _ :: _ :: _), _, _, _, h, e => by cases h
  | .dict [(.bool true, .none), _], _, _, _, h, e => by cases h
  | .dict [(.bool true, .bool _), _], _, _, _, h, e => by cases h
  | .dict [(.bool true, .int _), _], _, _, _, h, e => by cases h
  | .dict [(.bool true, .str _), _], _, _, _, h, e => by cases h
  | .dict [(.bool true, .list _), _], _, _, _, h, e => by cases h
  | .dict [(.bool true, .dict _), _], _, _, _, h, e => by cases h
  | .dict [(.bool true, .tuple _), (.none, _)], _, _, _, h, e => by cases h
  | .dict [(.bool true, .tuple _), (.bool true, _)], _, _, _, h, e => by cases h
  | .dict [(.bool true, .tuple _), (.int _, _)], _, _, _, h, e => by cases h
  | .dict [(.bool true, .tuple _), (.str _, _)], _, _, _, h, e => by cases h
  | .dict [(.bool true, .tuple _), (.list _, _)], _, _, _, h, e => by cases h
  | .dict [(.bool true, .tuple _), (.tuple _, _)], _, _, _, h, e => by cases h
  | .dict [(.bool true, .tuple _), (.dict _, _)], _, _, _, h, e => by cases h
  | .dict [(.bool true, .tuple _), (.bool false, .none)], _, _, _, h, e => by cases h
  | .dict [(.bool true, .tuple _), (.bool false, .bool _)], _, _, _, h, e => by cases h
  | .dict [(.bool true, .tuple _), (.bool false, .int _)], _, _, _, h, e => by cases h
  | .dict [(.bool true, .tuple _), (.bool false, .str _)], _, _, _, h, e => by cases h
  | .dict [(.bool true, .tuple _), (.bool false, .list _)], _, _, _, h, e => by cases h
  | .dict [(.bool true, .tuple _), (.bool false, .dict _)], _, _, _, h, e => by cases h
  | .dict ((.int _, _) :: _), _, _, _, h, e => by cases h
  | .dict ((.list _, _) :: _), _, _, _, h, e => by cases h
  | .dict ((.tuple _, _) :: _), _, _, _, h, e => by cases h
  | .dict ((.dict _, _) :: _), _, _, _, h, e => by cases h
  | .dict ((.str _, _) :: _ :: _), _, _, _, h, e => by cases h
  | .dict [(.str _, .none)], _, _, _, h, e => by cases h
  | .dict [(.str _, .bool _)], _, _, _, h, e => by cases h
  | .dict [(.str _, .int _)], _, _, _, h, e => by cases h
  | .dict [(.str _, .str _)], _, _, _, h, e => by cases h
  | .dict [(.str _, .list _)], _, _, _, h, e => by cases h
  | .dict [(.str _, .dict _)], _, _, _, h, e => by cases h
theorem DaA.same : ∀ {ds : List PyData} {vs : List V} {H H' : Hp}, DaA K H vs ds → Same H H' → DaA K H' vs ds
  | [], _, _, _, h, e => by cases h; exact .nil
  | d :: ds, _, _, _, h, e => by cases h with | cons h1 h2 => exact .cons (Da.same h1 e) (DaA.same h2 e)
end
variable {H H' : Hp}
theorem DaA.len : ∀ {ds : List PyData} {vs : List V}, DaA K H vs ds → vs.length = ds.length
  | [], _, h => by cases h; rfl
  | _ :: _, _, h => by cases h with | cons _ t => exact congrArg Nat.succ (DaA.len t)
theorem DaA.get : ∀ {ds : List PyData} {vs : List V} {i : Nat} {d : PyData}, DaA K H vs ds → ds[i]? = some d → ∃ v, vs[i]? = some v ∧ Da K H v d
  | [], _, _, _, h, e => by simp at e
  | _ :: _, _, 0, _, h, e => by
    cases h with
    | cons h1 _ =>
      simp at e; subst e
      exact ⟨_, rfl, h1⟩
  | _ :: _, _, i + 1, _, h, e => by
    cases h with
    | cons _ t =>
      obtain ⟨d, h1, h2⟩ := DaA.get (i := i) t (by simpa using e)
      exact ⟨d, by simpa using h1, h2⟩
theorem DaA.app : ∀ {ds : List PyData} {vs : List V} {es : List PyData} {ws : List V}, DaA K H vs ds → DaA K H ws es → DaA K H (vs ++ ws) (ds ++ es)
  | [], _, _, _, h, g => by cases h; exact g
  | _ :: _, _, _, _, h, g => by cases h with | cons h1 h2 => exact .cons h1 (DaA.app h2 g)
theorem DaA.snoc {ds : List PyData} {vs : List V} {d : PyData} {v : V} (h : DaA K H vs ds) (g : Da K H v d) : DaA K H (vs ++ [v]) (ds ++ [d]) := h.app (.cons g .nil)
theorem DaA.set : ∀ {ds : List PyData} {vs : List V} {d : PyData} {v : V} (i : Nat), DaA K H vs ds → Da K H v d → DaA K H (vs.set i v) (ds.set i d)
  | [], _, _, _, _, h, _ => by cases h; exact .nil
  | _ :: _, _, _, _, 0, h, g => by cases h with | cons _ h2 => exact .cons g h2
  | _ :: _, _, _, _, i + 1, h, g => by cases h with | cons h1 h2 => exact .cons h1 (DaA.set i h2 g)
theorem DaA.drop : ∀ {ds : List PyData} {vs : List V} (i : Nat), DaA K H vs ds → DaA K H (vs.drop i) (ds.drop i)
  | _, _, 0, h => h
  | [], _, _ + 1, h => by cases h; exact .nil
  | _ :: _, _, i + 1, h => by cases h with | cons _ h2 => exact DaA.drop i h2
theorem DaA.take : ∀ {ds : List PyData} {vs : List V} (i : Nat), DaA K H vs ds → DaA K H (vs.take i) (ds.take i)
  | _, _, 0, _ => .nil
  | [], _, _ + 1, h => by cases h; exact .nil
  | _ :: _, _, i + 1, h => by cases h with | cons h1 h2 => exact .cons h1 (DaA.take i h2)
theorem DaA.rep {d : PyData} {v : V} (h : Da K H v d) : ∀ n : Nat, DaA K H (List.replicate n v) (List.replicate n d)
  | 0 => .nil
  | n + 1 => .cons h (DaA.rep h n)
theorem DaA.rev : ∀ {ds : List PyData} {vs : List V}, DaA K H vs ds → DaA K H vs.reverse ds.reverse
  | [], _, h => by cases h; exact .nil
  | _ :: _, _, h => by
    cases h with
    | cons h1 h2 =>
      rw [List.reverse_cons, List.reverse_cons]
      exact DaA.snoc (DaA.rev h2) h1
theorem DaA.cutV {ds : List PyData} {vs : List V} (lo hi : Option Int) (h : DaA K H vs ds) :
    DaA K H (L2.cutV vs lo hi) ((ds.drop (HT.sIx ds.length 0 lo)).take (HT.sIx ds.length ds.length hi - HT.sIx ds.length 0 lo)) := by
  unfold L2.cutV
  rw [h.len]
  exact (h.drop _).take _
theorem DaA.ints : ∀ {ns : List Int} {vs : List V}, DaA K H vs (ns.map PyData.int) → vs = ns.map V.int
  | [], _, h => by cases h; rfl
  | n :: ns, _, h => by
    cases h with
    | cons h1 h2 =>
      cases h1
      rw [DaA.ints h2]
      rfl
theorem DaA.ofInts : ∀ ns : List Int, DaA K H (ns.map V.int) (ns.map PyData.int)
  | [] => .nil
  | n :: ns => .cons (.int n) (DaA.ofInts ns)
theorem DaA.bls : ∀ {bs : List Bool} {vs : List V}, DaA K H vs (bs.map PyData.bool) → vs = bs.map V.bl
  | [], _, h => by cases h; rfl
  | n :: ns, _, h => by
    cases h with
    | cons h1 h2 =>
      cases h1
      rw [DaA.bls h2]
      rfl
theorem DaA.strs : ∀ {bs : List Str} {vs : List V}, DaA K H vs (bs.map PyData.str) → vs = bs.map V.str
  | [], _, h => by cases h; rfl
  | n :: ns, _, h => by
    cases h with
    | cons h1 h2 =>
      cases h1
      rw [DaA.strs h2]
      rfl
mutual
theorem Da.dp : ∀ {d : PyData} {v : V}, Da K H v d → d.canLay0 = true → Dp K H v d
  | .none, _, h, _ => by cases h; exact .non
  | .bool _, _, h, _ => by cases h; exact .bl _
  | .int _, _, h, _ => by cases h; exact .int _
  | .str _, _, h, _ => by cases h; exact .str _
  | .list ds, _, h, c => by cases h with | lst hs ha => exact .lst (.inl (.inl hs)) (DaA.dp ha (by simpa [PyData.canLay0] using c))
  | .tuple ds, _, h, c => by cases h with | tup hs ha => exact .tup hs.sq (DaA.dp ha (by simpa [PyData.canLay0] using c))
  | .dict _, _, _, c => by simp [PyData.canLay0] at c
theorem DaA.dp : ∀ {ds : List PyData} {vs : List V}, DaA K H vs ds → PyData.canLayAll0 ds = true → DpAll K H vs ds
  | [], _, h, _ => by cases h; exact .nil
  | d :: ds, _, h, c => by
    cases h with
    | cons h1 h2 =>
      simp only [PyData.canLayAll0, Bool.and_eq_true] at c
      exact .cons (Da.dp h1 c.1) (DaA.dp h2 c.2)
end
end
variable [FT]
def DicA (K : PySem.W.Frag) (G : Hp) : List (NestedKey × Addr × V) → List (NestedKey × PyData) → Prop := Paired fun x y => x.1 = y.1 ∧ (∃ d, keyD d = some x.1 ∧ Da K G (.ref x.2.1) d) ∧ NestedKey.depth x.1 ≤ 8 ∧ Da K G x.2.2 y.2
theorem DicA.same {K : PySem.W.Frag} {G G' : Hp} {xs : List (NestedKey × Addr × V)} {kvs : List (NestedKey × PyData)} (h : DicA K G xs kvs) (s : Same G G') : DicA K G' xs kvs :=
  Paired.mapP h fun _ _ ⟨a, ⟨d, b, c⟩, e, f⟩ => ⟨a, ⟨d, b, c.same s⟩, e, f.same s⟩
end DL
namespace BX
open PySem PySem.Spec PyProof.Rows L2 GX DL
def ov : Option Str → V
  | none => .non
  | some s => .str s
structure Bx (H : Hp) (b p q : Addr) (rs : List Addr) (ss : List Int) (ls : List (List (Option Str))) : Prop where
  hb : H b = some (.lst [.ref p, .ref q])
  hp : H p = some (.lst (ss.map V.int))
  hq : H q = some (.lst (rs.map V.ref))
  hr : ∀ (k : Nat) (r : Addr) (l : List (Option Str)), rs[k]? = some r → ls[k]? = some l → H r = some (.lst (l.map ov))
  l1 : rs.length = ls.length
  l2 : ss.length = ls.length
  nd : (b :: p :: q :: rs).Nodup
theorem Bx.lists {H : Hp} {b p q : Addr} {rs : List Addr} {ss : List Int} {ls : List (List (Option Str))} (B : Bx H b p q rs ss ls) {c : Addr} (h : c ∈ b :: p :: q :: rs) : ∃ xs, H c = some (.lst xs) := by
  simp only [List.mem_cons] at h
  rcases h with rfl | rfl | rfl | h
  · exact ⟨_, B.hb⟩
  · exact ⟨_, B.hp⟩
  · exact ⟨_, B.hq⟩
  · obtain ⟨k, hk, rfl⟩ := List.getElem_of_mem h
    have hk2 : k < ls.length := by rw [← B.l1]; exact hk
    exact ⟨_, B.hr k _ _ (List.getElem?_eq_getElem hk) (List.getElem?_eq_getElem hk2)⟩
theorem Bx.as {H H' : Hp} {b p q : Addr} {rs : List Addr} {ss : List Int} {ls : List (List (Option Str))} (B : Bx H b p q rs ss ls) (e : ∀ c ∈ b :: p :: q :: rs, H' c = H c) : Bx H' b p q rs ss ls :=
  ⟨(e b (by simp)).trans B.hb, (e p (by simp)).trans B.hp, (e q (by simp)).trans B.hq, fun k r l h1 h2 => (e r (by simp [List.mem_of_getElem? h1])).trans (B.hr k r l h1 h2), B.l1, B.l2, B.nd⟩
end BX
namespace DL
open PySem PySem.Spec PyProof.Rows L2 GX
variable [FT]
/-- a slot: not known; a datum that stays; a list that this def alone may change (true: it is a parameter's); the script -/
inductive Cn where
  | l (ds : List PyData) | k (kvs : List (NestedKey × PyData)) | d (kvs : List (Key × PyData)) | f (kvs : List (PyData × PyData)) | b (p q : Addr) (rs : List Addr) (ss : List Int) (ls : List (List (Option Str))) | o (c : Str) (fs : List (Str × PyData))
instance : Coe (List PyData) Cn := ⟨Cn.l⟩
inductive Sl where
  | un | dat (d : PyData) | own (par : Bool) (c : Cn) | scr (ns : List Int)
abbrev Rho := List Sl
def ScrL (K : PySem.W.Frag) (H : Hp) (a : Addr) (ns : List Int) : Prop :=
  (∃ o, H a = some (.frz o (.lst (ns.map V.int)))) ∨
    ∃ (o : Obj) (its : Array Value) (n : Nat), K.lookup a = some o ∧ o.cls = .type "list" ∧ o.dict = none ∧ o.data = .seq its n ∧ its.size ≤ sizeLine ∧ Vals (ns.map V.int) its.toList
theorem ScrL.sq {K : PySem.W.Frag} {H : Hp} {a : Addr} {ns : List Int} (h : ScrL K H a ns) : SqL K H a (ns.map V.int) := by
  rcases h with ⟨o, h⟩ | h
  · exact .inl (.inr ⟨o, h⟩)
  · exact .inr h
/-- the addresses of a content -/
def reg (r : Addr) : Cn → List Addr
  | .l _ => [r]
  | .k _ => [r]
  | .d _ => [r]
  | .f _ => [r]
  | .o _ _ => [r]
  | .b p q rs _ _ => r :: p :: q :: rs
theorem root (r : Addr) (c : Cn) : r ∈ reg r c := by cases c <;> simp [reg]
def Ow (σ : L2.St) (ρ : Rho) (b : Addr) : Prop := ∃ (i : Nat) (c : Bool) (ds : Cn) (r : Addr), ρ[i]? = some (.own c ds) ∧ σ[i]? = some (some (.ref r)) ∧ b ∈ reg r ds
/-- a dict whose keys are ints and texts -/
def DdK (K : PySem.W.Frag) (G : Hp) : List (Key × V) → List (Key × PyData) → Prop := Paired fun x y => x.1 = y.1 ∧ Da K G x.2 y.2
theorem DdK.same {K : PySem.W.Frag} {G G' : Hp} {xs : List (Key × V)} {kvs : List (Key × PyData)} (h : DdK K G xs kvs) (s : Same G G') : DdK K G' xs kvs := Paired.mapP h fun _ _ ⟨a, b⟩ => ⟨a, b.same s⟩
/-- a dict whose keys' data are known -/
def DicF (K : PySem.W.Frag) (G : Hp) : List (NestedKey × Addr × V) → List (PyData × PyData) → Prop := Paired fun x y => keyD y.1 = some x.1 ∧ Da K G (.ref x.2.1) y.1 ∧ NestedKey.depth x.1 ≤ 8 ∧ Da K G x.2.2 y.2
theorem DicF.same {K : PySem.W.Frag} {G G' : Hp} {xs : List (NestedKey × Addr × V)} {kvs : List (PyData × PyData)} (h : DicF K G xs kvs) (s : Same G G') : DicF K G' xs kvs :=
  Paired.mapP h fun _ _ ⟨a, b, e, f⟩ => ⟨a, b.same s, e, f.same s⟩
/-- an object's attributes -/
def FldA (K : PySem.W.Frag) (G : Hp) : List (Str × V) → List (Str × PyData) → Prop := Paired fun x y => x.1 = y.1 ∧ Da K G x.2 y.2
theorem FldA.same {K : PySem.W.Frag} {G G' : Hp} {xs : List (Str × V)} {fs : List (Str × PyData)} (h : FldA K G xs fs) (s : Same G G') : FldA K G' xs fs := Paired.mapP h fun _ _ ⟨a, b⟩ => ⟨a, b.same s⟩
def Cr (ww : World) (K : PySem.W.Frag) (G H : Hp) (r : Addr) : Cn → Prop
  | .l ds => ∃ xs, H r = some (.lst xs) ∧ DaA K G xs ds
  | .k kvs => ∃ xs, H r = some (.ext (DicP ww r xs)) ∧ DicA K G xs kvs
  | .f kvs => ∃ xs, H r = some (.ext (DicP ww r xs)) ∧ DicF K G xs kvs
  | .o c fs => ∃ C dx xs, FT.cl c = some C ∧ H r = some (.ins C dx xs) ∧ FldA K G xs fs
  | .d kvs => ∃ xs, H r = some (.dK xs) ∧ DdK K G xs kvs
  | .b p q rs ss ls => BX.Bx H r p q rs ss ls
section
variable {ww : World} {K : PySem.W.Frag} {G G' H H' : Hp} {p : Addr} {c : Cn}
theorem Cr.ne (h : Cr ww K G H p c) {a : Addr} (ha : a ∈ reg p c) : H a ≠ none := by
  cases c with
  | l ds => obtain ⟨xs, e, _⟩ := h; simp only [reg, List.mem_singleton] at ha; rw [ha, e]; simp
  | k kvs => obtain ⟨xs, e, _⟩ := h; simp only [reg, List.mem_singleton] at ha; rw [ha, e]; simp
  | d kvs => obtain ⟨xs, e, _⟩ := h; simp only [reg, List.mem_singleton] at ha; rw [ha, e]; simp
  | f kvs => obtain ⟨xs, e, _⟩ := h; simp only [reg, List.mem_singleton] at ha; rw [ha, e]; simp
  | o c fs => obtain ⟨C, dx, xs, _, e, _⟩ := h; simp only [reg, List.mem_singleton] at ha; rw [ha, e]; simp
  | b p' q rs ss ls =>
    obtain ⟨xs, e⟩ := BX.Bx.lists h ha
    rw [e]; simp
theorem Cr.nf (h : Cr ww K G H p c) {a : Addr} (ha : a ∈ reg p c) (o : Obj) (u : HO) : H a ≠ some (.frz o u) := by
  cases c with
  | l ds => obtain ⟨xs, e, _⟩ := h; simp only [reg, List.mem_singleton] at ha; rw [ha, e]; simp
  | k kvs => obtain ⟨xs, e, _⟩ := h; simp only [reg, List.mem_singleton] at ha; rw [ha, e]; simp
  | d kvs => obtain ⟨xs, e, _⟩ := h; simp only [reg, List.mem_singleton] at ha; rw [ha, e]; simp
  | f kvs => obtain ⟨xs, e, _⟩ := h; simp only [reg, List.mem_singleton] at ha; rw [ha, e]; simp
  | o c fs => obtain ⟨C, dx, xs, _, e, _⟩ := h; simp only [reg, List.mem_singleton] at ha; rw [ha, e]; simp
  | b p' q rs ss ls =>
    obtain ⟨xs, e⟩ := BX.Bx.lists h ha
    rw [e]; simp
theorem Cr.noT (h : Cr ww K G H p c) {a : Addr} (ha : a ∈ reg p c) {o : HO} (e : H a = some o) : NoT o := by
  have z : ∀ ps, H a ≠ some (.tbl ps) := fun ps => by
    cases c with
    | l ds => obtain ⟨xs, e, _⟩ := h; simp only [reg, List.mem_singleton] at ha; rw [ha, e]; simp
    | k kvs => obtain ⟨xs, e, _⟩ := h; simp only [reg, List.mem_singleton] at ha; rw [ha, e]; simp
    | d kvs => obtain ⟨xs, e, _⟩ := h; simp only [reg, List.mem_singleton] at ha; rw [ha, e]; simp
    | o c fs => obtain ⟨C, dx, xs, _, e, _⟩ := h; simp only [reg, List.mem_singleton] at ha; rw [ha, e]; simp
    | f kvs => obtain ⟨xs, e, _⟩ := h; simp only [reg, List.mem_singleton] at ha; rw [ha, e]; simp
    | b p' q rs ss ls =>
      obtain ⟨xs, e⟩ := BX.Bx.lists h ha
      rw [e]; simp
  exact fun ps q => z ps (q ▸ e)
theorem Cr.step (h : Cr ww K G H p c) (s : Same G G') (e : ∀ a ∈ reg p c, H' a = H a) : Cr ww K G' H' p c := by
  cases c with
  | l ds => obtain ⟨xs, e1, a⟩ := h; exact ⟨xs, (e p (root p _)).trans e1, a.same s⟩
  | k kvs => obtain ⟨xs, e1, a⟩ := h; exact ⟨xs, (e p (root p _)).trans e1, a.same s⟩
  | d kvs => obtain ⟨xs, e1, a⟩ := h; exact ⟨xs, (e p (root p _)).trans e1, a.same s⟩
  | f kvs => obtain ⟨xs, e1, a⟩ := h; exact ⟨xs, (e p (root p _)).trans e1, a.same s⟩
  | o c fs => obtain ⟨C, dx, xs, e0, e1, a⟩ := h; exact ⟨C, dx, xs, e0, (e p (root p _)).trans e1, a.same s⟩
  | b p' q rs ss ls => exact BX.Bx.as h e
end
structure Rl (ww : World) (K : PySem.W.Frag) (G : Hp) (σ : L2.St) (ρ : Rho) (H : Hp) : Prop where
  len : σ.length = ρ.length
  sub : Same G H
  dat : ∀ {i : Nat} {d : PyData}, ρ[i]? = some (.dat d) → ∃ v, σ[i]? = some (some v) ∧ Da K G v d
  own : ∀ {i : Nat} {b : Bool} {c : Cn}, ρ[i]? = some (.own b c) → ∃ p, σ[i]? = some (some (.ref p)) ∧ (∀ a ∈ reg p c, G a = none) ∧ Cr ww K G H p c
  dis : ∀ {i j : Nat} {b c : Bool} {ds es : Cn} {p q a : Addr}, ρ[i]? = some (.own b ds) → ρ[j]? = some (.own c es) → σ[i]? = some (some (.ref p)) → σ[j]? = some (some (.ref q)) → a ∈ reg p ds → a ∈ reg q es → i = j
  scr : ∀ {i : Nat} {ns : List Int}, ρ[i]? = some (.scr ns) → ∃ p, σ[i]? = some (some (.ref p)) ∧ ScrL K H p ns
  tb : TbG G H
structure Sx (G : Hp) (σ : L2.St) (ρ : Rho) (H : Hp) (G' : Hp) (σ' : L2.St) (ρ' : Rho) (H' : Hp) : Prop where
  gr : Same G G'
  new : ∀ b, G' b ≠ none → G b ≠ none ∨ H b = none ∨ Ow σ ρ b
  fr : ∀ b o, H b = some o → NoT o → ¬ Ow σ ρ b → H' b = some o
  ow : ∀ b, Ow σ' ρ' b → Ow σ ρ b ∨ H b = none
  al : ∀ b, H b ≠ none → H' b ≠ none
  par : ∀ (i : Nat) (ds : Cn), ρ'[i]? = some (.own true ds) → (∃ es, ρ[i]? = some (.own true es) ∧ ∀ r, reg r ds = reg r es) ∧ σ'[i]? = σ[i]?
/-- only new things -/
structure Xt [FT] (G H G' H' : Hp) : Prop where
  hh : ∀ b o, H b = some o → NoT o → H' b = some o
  al : ∀ b, H b ≠ none → H' b ≠ none
  tt : TbG G H → TbG G' H'
  gh : Same G' H'
  gg : Same G G'
  nw : ∀ b, G' b ≠ none → G b ≠ none ∨ H b = none
section
variable {ww : World} {K : PySem.W.Frag} {G G' G2 H H' H2 : Hp} {σ σ' σ2 : L2.St} {ρ ρ' ρ2 : Rho}
theorem Sx.refl (G : Hp) (σ : L2.St) (ρ : Rho) (H : Hp) : Sx G σ ρ H G σ ρ H := ⟨Same.refl _, fun _ h => .inl h, fun _ _ e _ _ => e, fun _ h => .inl h, fun _ h => h, fun _ _ h => ⟨⟨_, h, fun _ => rfl⟩, rfl⟩⟩
theorem Sx.trans (a : Sx G σ ρ H G' σ' ρ' H') (b : Sx G' σ' ρ' H' G2 σ2 ρ2 H2) : Sx G σ ρ H G2 σ2 ρ2 H2 := by
  have back : ∀ c, H' c = none → H c = none ∨ Ow σ ρ c := fun c h => by
    cases e : H c with
    | none => exact .inl rfl
    | some o =>
      by_cases q : Ow σ ρ c
      · exact .inr q
      · exact (a.al c (by rw [e]; simp) h).elim
  refine ⟨a.gr.trans b.gr, fun c h => ?_, fun c o e t n => ?_, fun c h => ?_, fun c h => b.al c (a.al c h), fun i ds h => ?_⟩
  · rcases b.new c h with z | z | z
    · exact a.new c z
    · exact .inr (back c z)
    · exact .inr ((a.ow c z).symm)
  · refine b.fr c o (a.fr c o e t n) t fun z => ?_
    rcases a.ow c z with y | y
    · exact n y
    · rw [e] at y; cases y
  · rcases b.ow c h with z | z
    · exact a.ow c z
    · exact (back c z).symm
  · obtain ⟨⟨es, h1, q1⟩, e1⟩ := b.par i ds h
    obtain ⟨⟨fs, h2, q2⟩, e2⟩ := a.par i es h1
    exact ⟨⟨fs, h2, fun r => (q1 r).trans (q2 r)⟩, e1.trans e2⟩
theorem Xt.refl (R : Same G H) : Xt G H G H := ⟨fun _ _ e _ => e, fun _ h => h, id, R, Same.refl _, fun _ h => .inl h⟩
theorem Xt.free (x : Xt G H G' H') {b : Addr} (h : H' b = none) : H b = none := by
  cases e : H b with
  | none => rfl
  | some o => exact (x.al b (by rw [e]; simp) h).elim
theorem Xt.trans (a : Xt G H G' H') (b : Xt G' H' G2 H2) : Xt G H G2 H2 := ⟨fun c o e t => b.hh c o (a.hh c o e t) t, fun c h => b.al c (a.al c h), fun t => b.tt (a.tt t), b.gh, a.gg.trans b.gg, fun c h => by
  rcases b.nw c h with z | z
  · exact a.nw c z
  · exact .inr (a.free z)⟩
theorem Rl.inj (R : Rl ww K G σ ρ H) {i j : Nat} {b c : Bool} {ds es : Cn} {p : Addr} (h1 : ρ[i]? = some (.own b ds)) (h2 : ρ[j]? = some (.own c es)) (h3 : σ[i]? = some (some (.ref p))) (h4 : σ[j]? = some (some (.ref p))) : i = j := R.dis h1 h2 h3 h4 (root p ds) (root p es)
theorem Rl.ownL (R : Rl ww K G σ ρ H) {i : Nat} {b : Bool} {ds : List PyData} (h : ρ[i]? = some (.own b (.l ds))) : ∃ p xs, σ[i]? = some (some (.ref p)) ∧ H p = some (.lst xs) ∧ G p = none ∧ DaA K G xs ds := by
  obtain ⟨p, e, g, xs, a, b⟩ := R.own h
  exact ⟨p, xs, e, a, g p (root p _), b⟩
theorem Rl.ext (R : Rl ww K G σ ρ H) (x : Xt G H G' H') : Rl ww K G' σ ρ H' where
  len := R.len
  sub := x.gh
  dat := fun h => let ⟨v, e, d⟩ := R.dat h; ⟨v, e, d.same x.gg⟩
  own := fun h => by
    obtain ⟨p, e, eg, d⟩ := R.own h
    refine ⟨p, e, fun a ha => ?_, d.step x.gg fun a ha => ?_⟩
    · cases q : G' a with
      | none => rfl
      | some o =>
        rcases x.nw a (by rw [q]; simp) with z | z
        · exact (z (eg a ha)).elim
        · exact (d.ne ha z).elim
    · cases q : H a with
      | none => exact (d.ne ha q).elim
      | some o => exact x.hh _ _ q (d.noT ha q)
  dis := R.dis
  scr := fun h => by
    obtain ⟨p, e, s⟩ := R.scr h
    refine ⟨p, e, ?_⟩
    rcases s with ⟨o, s⟩ | s
    · exact .inl ⟨o, x.hh _ _ s (fun _ z => nomatch z)⟩
    · exact .inr s
  tb := x.tt R.tb
theorem Sx.ext (x : Xt G H G' H') : Sx G σ ρ H G' σ ρ H' := ⟨x.gg, fun b h => (x.nw b h).elim .inl (fun z => .inr (.inl z)), fun b o e t _ => x.hh b o e t, fun _ h => .inl h, fun b h => x.al b h, fun _ _ h => ⟨⟨_, h, fun _ => rfl⟩, rfl⟩⟩
/-- a new thing at p -/
theorem Xt.new {p : Addr} {o : HO} (sub : Same G H) (n : H p = none) : Xt G H (upd G p o) (upd H p o) := by
  have up : ∀ {A : Hp}, A p = none → Same A (upd A p o) := fun {A} na b u e => by
    by_cases h : b = p
    · rw [h, na] at e; cases e
    · rw [upd_ne h]; exact e
  refine ⟨fun b u e _ => up n b u e, fun b h z => h (Same.free (up n) z), fun t => t.step (up (Same.free sub n)) fun P ps h1 h2 => ?_, fun b u e => ?_, up (Same.free sub n), fun b h => ?_⟩
  · have ne : P ≠ p := fun z => by rw [z, n] at h1; cases h1
    rw [upd_ne ne, upd_ne ne]
    exact ⟨h2, h1⟩
  · by_cases hb : b = p
    · rw [hb, upd_same] at e ⊢; exact e
    · rw [upd_ne hb] at e ⊢; exact sub b u e
  · by_cases hb : b = p
    · rw [hb]; exact .inr n
    · rw [upd_ne hb] at h; exact .inl h
/-- a new thing at p that is not looked at -/
theorem Xt.more {p : Addr} {o : HO} (sub : Same G H) (n : H p = none) : Xt G H G (upd H p o) := by
  have up : Same H (upd H p o) := fun b u e => by
    by_cases h : b = p
    · rw [h, n] at e; cases e
    · rw [upd_ne h]; exact e
  exact ⟨fun b u e _ => up b u e, fun b h z => h (Same.free up z), fun t => t.step (Same.refl _) fun P ps h1 h2 => ⟨h2, up _ _ h1⟩, sub.trans up, Same.refl _, fun b h => .inl h⟩
end
end DL
namespace DL
open PySem PySem.Spec PyProof.Rows L2 GX
variable [DL.FT]
abbrev EF := Rho → Option (PyData × Rho)
abbrev LF := Rho → Option (List PyData × Rho)
abbrev TF := Rho → Option (Bool × Rho)
/-- a datum comes -/
def rE (ww : World) (K : PySem.W.Frag) (f : EF) : TE := fun σ H Q => ∃ G ρ ρ' d, Rl ww K G σ ρ H ∧ f ρ = some (d, ρ') ∧ ∀ v G' H', Rl ww K G' σ ρ' H' → Sx G σ ρ H G' σ ρ' H' → Da K G' v d → Q v H'
/-- several -/
def rL (ww : World) (K : PySem.W.Frag) (f : LF) : TA := fun σ H Q => ∃ G ρ ρ' ds, Rl ww K G σ ρ H ∧ f ρ = some (ds, ρ') ∧ ∀ vs G' H', Rl ww K G' σ ρ' H' → Sx G σ ρ H G' σ ρ' H' → DaA K G' vs ds → Q vs H'
/-- a new list -/
def rF (ww : World) (K : PySem.W.Frag) (f : LF) : TE := fun σ H Q => ∃ G ρ ρ' ds, Rl ww K G σ ρ H ∧ f ρ = some (ds, ρ') ∧
  ∀ p xs G' H', Rl ww K G' σ ρ' H' → Sx G σ ρ H G' σ ρ' H' → H' p = some (.lst xs) → G' p = none → ¬ Ow σ ρ' p → H p = none → DaA K G' xs ds → Q (.ref p) H'
def rT (ww : World) (K : PySem.W.Frag) (f : TF) : TT := fun σ H Q => ∃ G ρ ρ' b, Rl ww K G σ ρ H ∧ f ρ = some (b, ρ') ∧ ∀ G' H', Rl ww K G' σ ρ' H' → Sx G σ ρ H G' σ ρ' H' → Q b H'
def DE (X : Cx) (e : Expr) (f : EF) : Prop := PE X e (rE X.w X.K f)
def DLs (X : Cx) (es : List Expr) (f : LF) : Prop := PA X es (rL X.w X.K f)
def DT (X : Cx) (e : Expr) (f : TF) : Prop := PT X e (rT X.w X.K f)
def DW (X : Cx) (e : Expr) (f : TF) : Prop := PW X e (rT X.w X.K f)
theorem pe_imp {X : Cx} {e : Expr} {t t' : TE} (h : PE X e t) (i : ∀ σ H Q, t' σ H Q → t σ H Q) : PE X e t' := ⟨fun pins s σ H Q I w => h.run pins s σ H Q I (i _ _ _ w)⟩
theorem pt_imp {X : Cx} {e : Expr} {t t' : TT} (h : PT X e t) (i : ∀ σ H Q, t' σ H Q → t σ H Q) : PT X e t' := ⟨fun pins s σ H Q I w => h.run pins s σ H Q I (i _ _ _ w)⟩
theorem pw_imp {X : Cx} {e : Expr} {t t' : TT} (h : PW X e t) (i : ∀ σ H Q, t' σ H Q → t σ H Q) : PW X e t' := ⟨fun wh pins s σ H Q I w => h.run wh pins s σ H Q I (i _ _ _ w)⟩
theorem pa_imp {X : Cx} {es : List Expr} {t t' : TA} (h : PA X es t) (i : ∀ σ H Q, t' σ H Q → t σ H Q) : PA X es t' := ⟨fun pos pins s σ H Q I w => h.run pos pins s σ H Q I (i _ _ _ w)⟩
theorem ps_imp {X : Cx} {st : Stmt} {t t' : TS} (h : PS X st t) (i : ∀ D σ H, t' D σ H → t D σ H) : PS X st t' := ⟨fun pins s σ H D I w => h.run pins s σ H D I (i _ _ _ w)⟩
theorem pss_imp {X : Cx} {st : List Stmt} {t t' : TS} (h : PSs X st t) (i : ∀ D σ H, t' D σ H → t D σ H) : PSs X st t' := ⟨fun pins s σ H D I w => h.run pins s σ H D I (i _ _ _ w)⟩
theorem OpR.imp {X : Cx} {f : Value → Value → Sem Value} {r r' : R2} (h : OpR X f r) (i : ∀ x y H Q, r' x y H Q → r x y H Q) : OpR X f r' := fun pins s σ H x y v u Q I rx ry w => h pins s σ H x y v u Q I rx ry (i _ _ _ _ w)
theorem IxR.imp {X : Cx} {r r' : R2} (h : IxR X r) (i : ∀ x y H Q, r' x y H Q → r x y H Q) : IxR X r' := fun value slice pins s σ H x y v u Q I rx ry w hs => h value slice pins s σ H x y v u Q I rx ry (i _ _ _ _ w) hs
section
variable {ww : World} {K : PySem.W.Frag} {G G' H H' : Hp} {σ σ' : L2.St} {ρ ρ' : Rho}
theorem Rl.at (R : Rl ww K G σ ρ H) {b : Addr} (o : Ow σ ρ b) : G b = none ∧ H b ≠ none ∧ ∀ o u, H b ≠ some (.frz o u) := by
  obtain ⟨i, c, ds, r, h1, h2, h3⟩ := o
  obtain ⟨p, e, g, h⟩ := R.own h1
  rw [h2] at e
  cases e
  exact ⟨g b h3, h.ne h3, h.nf h3⟩
theorem not_un {s : Sl} {i : Nat} {n : Nat} : (List.replicate n Sl.un)[i]? = some s → s = .un := fun h => (List.mem_replicate.mp (List.mem_of_getElem? h)).2
theorem set_get {α : Type} {l : List α} {i j : Nat} {a b : α} (h : (l.set i a)[j]? = some b) : (j = i ∧ b = a ∧ i < l.length) ∨ (j ≠ i ∧ l[j]? = some b) := by
  by_cases e : i = j
  · subst e
    have hl : i < l.length := by
      have := (List.getElem?_eq_some_iff.mp h).1
      simpa using this
    rw [List.getElem?_set_self hl] at h
    exact .inl ⟨rfl, (Option.some.inj h).symm, hl⟩
  · rw [List.getElem?_set_ne e] at h
    exact .inr ⟨fun z => e z.symm, h⟩
/-- a slot is forgotten -/
theorem Rl.drop (R : Rl ww K G σ ρ H) (i : Nat) (s : Sl) (hs : s = .un) : Rl ww K G σ (ρ.set i s) H := by
  subst hs
  refine ⟨by rw [List.length_set]; exact R.len, R.sub, fun {j d} h => ?_, fun {j b ds} h => ?_, fun {j k b c ds es p q a} h1 h2 h3 h4 h5 h6 => ?_, fun {j ns} h => ?_, R.tb⟩
  · rcases set_get h with ⟨_, z, _⟩ | ⟨_, h⟩
    · cases z
    · exact R.dat h
  · rcases set_get h with ⟨_, z, _⟩ | ⟨_, h⟩
    · cases z
    · exact R.own h
  · rcases set_get h1 with ⟨_, z, _⟩ | ⟨_, h1⟩
    · cases z
    · rcases set_get h2 with ⟨_, z, _⟩ | ⟨_, h2⟩
      · cases z
      · exact R.dis h1 h2 h3 h4 h5 h6
  · rcases set_get h with ⟨_, z, _⟩ | ⟨_, h⟩
    · cases z
    · exact R.scr h
/-- a datum is stored -/
theorem Rl.put (R : Rl ww K G σ ρ H) {i : Nat} {v : V} {d : PyData} (h : Da K G v d) : Rl ww K G (σ.set i (some v)) (ρ.set i (.dat d)) H := by
  have go : ∀ {j : Nat} {s : Sl}, (ρ.set i (.dat d))[j]? = some s → (j = i ∧ s = .dat d ∧ (σ.set i (some v))[j]? = some (some v)) ∨ (j ≠ i ∧ ρ[j]? = some s ∧ (σ.set i (some v))[j]? = σ[j]?) := fun {j s} e => by
    rcases set_get e with ⟨z1, z2, z3⟩ | ⟨z, e⟩
    · refine .inl ⟨z1, z2, ?_⟩
      rw [z1, List.getElem?_set_self (by rw [R.len]; exact z3)]
    · exact .inr ⟨z, e, List.getElem?_set_ne (Ne.symm z)⟩
  refine ⟨by rw [List.length_set, List.length_set]; exact R.len, R.sub, fun {j e} q => ?_, fun {j b ds} q => ?_, fun {j k b c ds es p q a} h1 h2 h3 h4 h5 h6 => ?_, fun {j ns} q => ?_, R.tb⟩
  · rcases go q with ⟨z1, z2, z3⟩ | ⟨z, q, z3⟩
    · cases z2
      exact ⟨v, z3, h⟩
    · obtain ⟨w, e, hw⟩ := R.dat q
      exact ⟨w, z3.trans e, hw⟩
  · rcases go q with ⟨z1, z2, z3⟩ | ⟨z, q, z3⟩
    · cases z2
    · obtain ⟨p, e, r⟩ := R.own q
      exact ⟨p, z3.trans e, r⟩
  · rcases go h1 with ⟨_, z2, _⟩ | ⟨_, h1, e1⟩
    · cases z2
    · rcases go h2 with ⟨_, z2, _⟩ | ⟨_, h2, e2⟩
      · cases z2
      · exact R.dis h1 h2 (e1 ▸ h3) (e2 ▸ h4) h5 h6
  · rcases go q with ⟨z1, z2, z3⟩ | ⟨z, q, z3⟩
    · cases z2
    · obtain ⟨p, e, r⟩ := R.scr q
      exact ⟨p, z3.trans e, r⟩
theorem Sx.put {i : Nat} {v : V} {d : PyData} (R : Rl ww K G σ ρ H) : Sx G σ ρ H G (σ.set i (some v)) (ρ.set i (.dat d)) H := by
  refine ⟨Same.refl _, fun _ h => .inl h, fun _ _ e _ _ => e, fun b ⟨j, c, ds, r, h1, h2, h3⟩ => ?_, fun _ h => h, fun j ds h => ?_⟩
  · rcases set_get h1 with ⟨_, z, _⟩ | ⟨z, h1⟩
    · cases z
    · rw [List.getElem?_set_ne (Ne.symm z)] at h2
      exact .inl ⟨j, c, ds, r, h1, h2, h3⟩
  · rcases set_get h with ⟨_, z, _⟩ | ⟨z, h⟩
    · cases z
    · exact ⟨⟨_, h, fun _ => rfl⟩, List.getElem?_set_ne (Ne.symm z)⟩
/-- a new list is stored, to be changed here -/
theorem Rl.holdC (R : Rl ww K G σ ρ H) {i : Nat} {p : Addr} {ds : Cn} (gp : ∀ a ∈ reg p ds, G a = none) (no : ∀ a ∈ reg p ds, ¬ Ow σ ρ a) (hd : Cr ww K G H p ds) : Rl ww K G (σ.set i (some (.ref p))) (ρ.set i (.own false ds)) H := by
  have go : ∀ {j : Nat} {s : Sl}, (ρ.set i (.own false ds))[j]? = some s → (j = i ∧ s = .own false ds ∧ (σ.set i (some (.ref p)))[j]? = some (some (.ref p))) ∨ (j ≠ i ∧ ρ[j]? = some s ∧ (σ.set i (some (.ref p)))[j]? = σ[j]?) := fun {j s} e => by
    rcases set_get e with ⟨z1, z2, z3⟩ | ⟨z, e⟩
    · refine .inl ⟨z1, z2, ?_⟩
      rw [z1, List.getElem?_set_self (by rw [R.len]; exact z3)]
    · exact .inr ⟨z, e, List.getElem?_set_ne (Ne.symm z)⟩
  refine ⟨by rw [List.length_set, List.length_set]; exact R.len, R.sub, fun {j e} q => ?_, fun {j b ds} q => ?_, fun {j k b c ds1 es p1 q1 a} h1 h2 h3 h4 h5 h6 => ?_, fun {j ns} q => ?_, R.tb⟩
  · rcases go q with ⟨z1, z2, z3⟩ | ⟨z, q, z3⟩
    · cases z2
    · obtain ⟨w, e, hw⟩ := R.dat q
      exact ⟨w, z3.trans e, hw⟩
  · rcases go q with ⟨z1, z2, z3⟩ | ⟨z, q, z3⟩
    · cases z2
      exact ⟨p, z3, gp, hd⟩
    · obtain ⟨p, e, r⟩ := R.own q
      exact ⟨p, z3.trans e, r⟩
  · rcases go h1 with ⟨z1, z2, e1⟩ | ⟨n1, h1, e1⟩
    · rcases go h2 with ⟨y1, _, _⟩ | ⟨n2, h2, e2⟩
      · rw [z1, y1]
      · cases z2
        rw [e1] at h3
        cases h3
        exact (no a h5 ⟨k, _, _, _, h2, e2 ▸ h4, h6⟩).elim
    · rcases go h2 with ⟨y1, y2, e2⟩ | ⟨n2, h2, e2⟩
      · cases y2
        rw [e2] at h4
        cases h4
        exact (no a h6 ⟨j, _, _, _, h1, e1 ▸ h3, h5⟩).elim
      · exact R.dis h1 h2 (e1 ▸ h3) (e2 ▸ h4) h5 h6
  · rcases go q with ⟨z1, z2, z3⟩ | ⟨z, q, z3⟩
    · cases z2
    · obtain ⟨p, e, r⟩ := R.scr q
      exact ⟨p, z3.trans e, r⟩
theorem Rl.hold (R : Rl ww K G σ ρ H) {i : Nat} {p : Addr} {xs : List V} {ds : List PyData} (hp : H p = some (.lst xs)) (gp : G p = none) (no : ¬ Ow σ ρ p) (hd : DaA K G xs ds) : Rl ww K G (σ.set i (some (.ref p))) (ρ.set i (.own false ds)) H :=
  R.holdC (ds := .l ds) (fun a ha => by simp only [reg, List.mem_singleton] at ha; rw [ha]; exact gp) (fun a ha => by simp only [reg, List.mem_singleton] at ha; rw [ha]; exact no) ⟨xs, hp, hd⟩
theorem Sx.holdC {i : Nat} {p : Addr} {ds : Cn} {G0 H0 : Hp} {ρ0 : Rho} (s : Sx G0 σ ρ0 H0 G σ ρ H) (n : ∀ a ∈ reg p ds, H0 a = none) : Sx G0 σ ρ0 H0 G (σ.set i (some (.ref p))) (ρ.set i (.own false ds)) H := by
  refine ⟨s.gr, s.new, s.fr, fun b ⟨j, c, es, r, h1, h2, h3⟩ => ?_, s.al, fun j es h => ?_⟩
  · rcases set_get h1 with ⟨z1, z, z3⟩ | ⟨z, h1⟩
    · subst z1
      by_cases hl : j < σ.length
      · rw [List.getElem?_set_self hl] at h2
        cases h2
        cases z
        exact .inr (n b h3)
      · rw [List.getElem?_eq_none (by rw [List.length_set]; omega)] at h2
        cases h2
    · rw [List.getElem?_set_ne (Ne.symm z)] at h2
      exact s.ow b ⟨j, c, es, r, h1, h2, h3⟩
  · rcases set_get h with ⟨_, z, _⟩ | ⟨z, h⟩
    · cases z
    · rw [List.getElem?_set_ne (Ne.symm z)]
      exact s.par j es h
theorem Sx.hold {i : Nat} {p : Addr} {ds : List PyData} {G0 H0 : Hp} {ρ0 : Rho} (s : Sx G0 σ ρ0 H0 G σ ρ H) (n : H0 p = none) : Sx G0 σ ρ0 H0 G (σ.set i (some (.ref p))) (ρ.set i (.own false ds)) H :=
  s.holdC (ds := .l ds) fun a ha => by simp only [reg, List.mem_singleton] at ha; rw [ha]; exact n
/-- a list that was changed here stays from now on -/
theorem Rl.freeze (R : Rl ww K G σ ρ H) {i : Nat} {b : Bool} {ds : List PyData} (h : ρ[i]? = some (.own b (.l ds))) :
    ∃ p G', σ[i]? = some (some (.ref p)) ∧ Rl ww K G' σ (ρ.set i (.dat (.list ds))) H ∧ Sx G σ ρ H G' σ (ρ.set i (.dat (.list ds))) H ∧ Da K G' (.ref p) (.list ds) := by
  obtain ⟨p, xs, e, hp, gp, hd⟩ := R.ownL h
  have sm : Same G (upd G p (.lst xs)) := fun c o q => by
    by_cases z : c = p
    · rw [z, gp] at q; cases q
    · rw [upd_ne z]; exact q
  have hd' : Da K (upd G p (.lst xs)) (.ref p) (.list ds) := .lst upd_same (hd.same sm)
  refine ⟨p, upd G p (.lst xs), e, ?_, ?_, hd'⟩
  · refine ⟨by rw [List.length_set]; exact R.len, fun c o q => ?_, fun {j d} q => ?_, fun {j c es} q => ?_, fun {j k c c' es fs p1 q1 a} h1 h2 h3 h4 h5 h6 => ?_, fun {j ns} q => ?_, R.tb.step sm fun P ps h1 h2 => ⟨by rw [upd_ne (fun z => by rw [z, hp] at h1; cases h1)]; exact h2, h1⟩⟩
    · by_cases z : c = p
      · rw [z, upd_same] at q
        rw [z, hp]; exact q
      · rw [upd_ne z] at q
        exact R.sub c o q
    · rcases set_get q with ⟨z1, z2, _⟩ | ⟨_, q⟩
      · cases z2
        rw [z1]
        exact ⟨_, e, hd'⟩
      · obtain ⟨w, e', hw⟩ := R.dat q
        exact ⟨w, e', hw.same sm⟩
    · rcases set_get q with ⟨_, z, _⟩ | ⟨n, q⟩
      · cases z
      · obtain ⟨p', e', g', d'⟩ := R.own q
        have np : ∀ a ∈ reg p' es, a ≠ p := fun a ha z => n (R.dis q h e' e ha (by rw [z]; exact root p _))
        exact ⟨p', e', fun a ha => by rw [upd_ne (np a ha)]; exact g' a ha, d'.step sm fun _ _ => rfl⟩
    · rcases set_get h1 with ⟨_, z, _⟩ | ⟨_, h1⟩
      · cases z
      · rcases set_get h2 with ⟨_, z, _⟩ | ⟨_, h2⟩
        · cases z
        · exact R.dis h1 h2 h3 h4 h5 h6
    · rcases set_get q with ⟨_, z, _⟩ | ⟨_, q⟩
      · cases z
      · exact R.scr q
  · refine ⟨sm, fun c q => ?_, fun _ _ q _ _ => q, fun c ⟨j, c', es, r, h1, h2, h3⟩ => ?_, fun _ q => q, fun j es q => ?_⟩
    · by_cases z : c = p
      · exact .inr (.inr ⟨i, b, .l ds, p, h, e, by rw [z]; exact root p _⟩)
      · rw [upd_ne z] at q
        exact .inl q
    · rcases set_get h1 with ⟨_, z, _⟩ | ⟨_, h1⟩
      · cases z
      · exact .inl ⟨j, c', es, r, h1, h2, h3⟩
    · rcases set_get q with ⟨_, z, _⟩ | ⟨_, q⟩
      · cases z
      · exact ⟨⟨_, q, fun _ => rfl⟩, rfl⟩
/-- the list in a slot is changed -/
theorem Rl.mutateC (R : Rl ww K G σ ρ H) {i : Nat} {b : Bool} {ds es : Cn} {p : Addr} {o' : HO} (h : ρ[i]? = some (.own b ds)) (e : σ[i]? = some (some (.ref p))) (eg : ∀ r, reg r es = reg r ds) (hy : Cr ww K G (upd H p o') p es) :
    Rl ww K G σ (ρ.set i (.own b es)) (upd H p o') ∧ Sx G σ ρ H G σ (ρ.set i (.own b es)) (upd H p o') := by
  obtain ⟨p', e', gp, hd⟩ := R.own h
  rw [e] at e'
  cases e'
  have hi : i < ρ.length := (List.getElem?_eq_some_iff.mp h).1
  have sub : Same G (upd H p o') := fun c o q => by
    have z : c ≠ p := fun z => by rw [z, gp p (root p _)] at q; cases q
    rw [upd_ne z]
    exact R.sub c o q
  have back : ∀ {j : Nat} {c : Bool} {fs : Cn}, (ρ.set i (.own b es))[j]? = some (.own c fs) → ∃ gs, ρ[j]? = some (.own c gs) ∧ ∀ r, reg r fs = reg r gs := fun {j c fs} q => by
    rcases set_get q with ⟨z1, z2, _⟩ | ⟨_, q⟩
    · cases z2
      rw [z1]
      exact ⟨_, h, eg⟩
    · exact ⟨_, q, fun _ => rfl⟩
  refine ⟨⟨by rw [List.length_set]; exact R.len, sub, fun {j d} q => ?_, fun {j c fs} q => ?_, fun {j k c c' fs gs p1 q1 a} h1 h2 h3 h4 h5 h6 => ?_, fun {j ns} q => ?_, R.tb.step (Same.refl _) fun P ps h1 h2 => ⟨h2, (upd_ne (fun z : P = p => hd.noT (root p _) (show H p = some (HO.tbl ps) by rw [← z]; exact h1) ps rfl)).trans h1⟩⟩, ⟨Same.refl _, fun _ q => .inl q, fun c o q _ n => ?_, fun c ⟨j, c', fs, r, h1, h2, h3⟩ => ?_, fun c q => ?_, fun j fs q => ?_⟩⟩
  · rcases set_get q with ⟨_, z, _⟩ | ⟨_, q⟩
    · cases z
    · exact R.dat q
  · rcases set_get q with ⟨z1, z2, _⟩ | ⟨n, q⟩
    · cases z2
      rw [z1]
      exact ⟨p, e, fun a ha => gp a (eg p ▸ ha), hy⟩
    · obtain ⟨p', e', g', d'⟩ := R.own q
      have np : ∀ a ∈ reg p' fs, a ≠ p := fun a ha z => n (R.dis q h e' e ha (by rw [z]; exact root p _))
      exact ⟨p', e', g', d'.step (Same.refl _) fun a ha => upd_ne (np a ha)⟩
  · obtain ⟨_, h1, r1⟩ := back h1
    obtain ⟨_, h2, r2⟩ := back h2
    exact R.dis h1 h2 h3 h4 (r1 p1 ▸ h5) (r2 q1 ▸ h6)
  · rcases set_get q with ⟨_, z, _⟩ | ⟨_, q⟩
    · cases z
    · obtain ⟨p', e', s⟩ := R.scr q
      refine ⟨p', e', ?_⟩
      rcases s with ⟨o, s⟩ | s
      · have np : p' ≠ p := fun z => by rw [z] at s; exact hd.nf (root p _) _ _ s
        exact .inl ⟨o, by rw [upd_ne np]; exact s⟩
      · exact .inr s
  · have np : c ≠ p := fun z => n ⟨i, b, ds, p, h, e, by rw [z]; exact root p _⟩
    rw [upd_ne np]
    exact q
  · obtain ⟨gs, h1, r1⟩ := back h1
    exact .inl ⟨j, c', gs, r, h1, h2, r1 r ▸ h3⟩
  · by_cases z : c = p
    · rw [z, upd_same]; simp
    · rw [upd_ne z]; exact q
  · obtain ⟨gs, q, hr⟩ := back q
    exact ⟨⟨gs, q, hr⟩, rfl⟩
theorem Rl.mutate (R : Rl ww K G σ ρ H) {i : Nat} {b : Bool} {ds es : List PyData} {p : Addr} {ys : List V} (h : ρ[i]? = some (.own b (.l ds))) (e : σ[i]? = some (some (.ref p))) (hy : DaA K G ys es) :
    Rl ww K G σ (ρ.set i (.own b es)) (upd H p (.lst ys)) ∧ Sx G σ ρ H G σ (ρ.set i (.own b es)) (upd H p (.lst ys)) :=
  R.mutateC h e (fun _ => rfl) ⟨ys, upd_same, hy⟩
end
section
variable {X : Cx}
def fVar (i : Nat) : EF := fun ρ => match ρ[i]? with
  | some (.dat d) => some (d, ρ)
  | some (.own _ (.l ds)) => some (.list ds, ρ.set i (.dat (.list ds)))
  | _ => none
theorem de_var {i : Nat} {x : Str} {pos : Pos} (hN : X.N[i]? = some x) (hv : Vis X.env.scope x) (hd : (x == ("__debug__" : Str)) = false := by decide) (hcd : (x == ("__classdict__" : Str)) = false := by decide) : DE X (.Name x pos) (fVar i) := by
  refine pe_imp (pe_var hN hv hd hcd) ?_
  rintro σ H Q ⟨G, ρ, ρ', d, R, hf, k⟩
  unfold fVar at hf
  split at hf
  · rename_i d' h
    cases hf
    obtain ⟨v, e, hd⟩ := R.dat h
    exact ⟨v, e, k v G H R (Sx.refl _ _ _ _) hd⟩
  · rename_i b ds h
    cases hf
    obtain ⟨p, G', e, R', s, hd⟩ := R.freeze h
    exact ⟨_, e, k _ G' H R' s hd⟩
  · cases hf
def fC (d : PyData) : EF := fun ρ => some (d, ρ)
theorem de_c {e : Expr} {v : V} {d : PyData} (h : PE X e (tC v)) (hd : ∀ K H, Da K H v d) : DE X e (fC d) := by
  refine pe_imp h ?_
  rintro σ H Q ⟨G, ρ, ρ', d', R, hf, k⟩
  cases hf
  exact k v G H R (Sx.refl _ _ _ _) (hd _ _)
theorem de_int {i j pos} : DE X (.Constant (.int i) j pos) (fC (.int i)) := de_c pe_int fun _ _ => .int i
theorem de_bl {b j pos} : DE X (.Constant (.bool b) j pos) (fC (.bool b)) := de_c pe_bl fun _ _ => .bl b
theorem de_non {j pos} : DE X (.Constant .none j pos) (fC .none) := de_c pe_non fun _ _ => .non
theorem de_str {x j pos} : DE X (.Constant (.str x) j pos) (fC (.str x)) := de_c pe_str fun _ _ => .str x
theorem two {ww : World} {K : PySem.W.Frag} {f1 f2 : EF} {σ : L2.St} {H : Hp} {R2 : V → V → Hp → Prop} {G : Hp} {ρ ρ1 ρ2 : Rho} {d1 d2 : PyData} (R : Rl ww K G σ ρ H) (h1 : f1 ρ = some (d1, ρ1)) (h2 : f2 ρ1 = some (d2, ρ2))
    (k : ∀ v1 v2 G' H', Rl ww K G' σ ρ2 H' → Sx G σ ρ H G' σ ρ2 H' → Da K G' v1 d1 → Da K G' v2 d2 → R2 v1 v2 H') : rE ww K f1 σ H fun v1 H1 => rE ww K f2 σ H1 fun v2 H2 => R2 v1 v2 H2 :=
  ⟨G, ρ, ρ1, d1, R, h1, fun v1 G1 H1 R1 s1 q1 => ⟨G1, ρ1, ρ2, d2, R1, h2, fun v2 G2 H2 R2 s2 q2 => k v1 v2 G2 H2 R2 (s1.trans s2) (q1.same s2.gr) q2⟩⟩
def fTst (f : EF) : TF := fun ρ => match f ρ with
  | some (.bool b, ρ') => some (b, ρ')
  | _ => none
theorem fTst_of {f : EF} {ρ ρ' : Rho} {b : Bool} (h : fTst f ρ = some (b, ρ')) : f ρ = some (.bool b, ρ') := by
  unfold fTst at h
  split at h
  · rename_i b' ρ2 e
    cases h
    exact e
  · cases h
theorem dt_of {ww : World} {K : PySem.W.Frag} {f : EF} : ∀ σ H (Q : Bool → Hp → Prop), rT ww K (fTst f) σ H Q → rE ww K f σ H fun x H1 => ∃ c, x = .bl c ∧ Q c H1 := by
  rintro σ H Q ⟨G, ρ, ρ', b, R, hf, k⟩
  refine ⟨G, ρ, ρ', .bool b, R, fTst_of hf, fun v G' H' R' s q => ?_⟩
  cases q
  exact ⟨b, rfl, k G' H' R' s⟩
theorem dt_val {e : Expr} {f : EF} (h : DE X e f) (he : ∀ whole, isTrue e X.env whole = (do let v ← whole; standAt e.pos; holding [v] (truthy v)) := by intro _; rfl) : DT X e (fTst f) :=
  pt_imp (pt_val h he) dt_of
def fNot (f : TF) : TF := fun ρ => match f ρ with
  | some (b, ρ') => some (!b, ρ')
  | none => none
def fAnd (f g : TF) : TF := fun ρ => match f ρ with
  | some (true, ρ') => g ρ'
  | some (false, ρ') => some (false, ρ')
  | none => none
def fOr (f g : TF) : TF := fun ρ => match f ρ with
  | some (false, ρ') => g ρ'
  | some (true, ρ') => some (true, ρ')
  | none => none
theorem dt_not {a : Expr} {f : TF} {pos : Pos} (h : DT X a f) : DT X (.UnaryOp .Not a pos) (fNot f) := by
  refine pt_imp (pt_not h) ?_
  rintro σ H Q ⟨G, ρ, ρ', b, R, hf, k⟩
  unfold fNot at hf
  split at hf
  · rename_i c ρ2 e
    cases hf
    exact ⟨G, ρ, _, c, R, e, fun G' H' R' s => k G' H' R' s⟩
  · cases hf
theorem rT_and {ww : World} {K : PySem.W.Frag} {f g : TF} : ∀ σ H Q, rT ww K (fAnd f g) σ H Q → tAnd (rT ww K f) (rT ww K g) σ H Q := by
  rintro σ H Q ⟨G, ρ, ρ', b, R, hf, k⟩
  unfold fAnd at hf
  split at hf
  · rename_i ρ2 e
    exact ⟨G, ρ, ρ2, true, R, e, fun G1 H1 R1 s1 => by dsimp only; rw [if_pos rfl]; exact ⟨G1, ρ2, ρ', b, R1, hf, fun G' H' R' s => k G' H' R' (s1.trans s)⟩⟩
  · rename_i ρ2 e
    cases hf
    exact ⟨G, ρ, _, false, R, e, fun G1 H1 R1 s1 => by dsimp only; rw [if_neg Bool.false_ne_true]; exact k G1 H1 R1 s1⟩
  · cases hf
theorem rT_or {ww : World} {K : PySem.W.Frag} {f g : TF} : ∀ σ H Q, rT ww K (fOr f g) σ H Q → tOr (rT ww K f) (rT ww K g) σ H Q := by
  rintro σ H Q ⟨G, ρ, ρ', b, R, hf, k⟩
  unfold fOr at hf
  split at hf
  · rename_i ρ2 e
    exact ⟨G, ρ, ρ2, false, R, e, fun G1 H1 R1 s1 => by dsimp only; rw [if_neg Bool.false_ne_true]; exact ⟨G1, ρ2, ρ', b, R1, hf, fun G' H' R' s => k G' H' R' (s1.trans s)⟩⟩
  · rename_i ρ2 e
    cases hf
    exact ⟨G, ρ, _, true, R, e, fun G1 H1 R1 s1 => by dsimp only; rw [if_pos rfl]; exact k G1 H1 R1 s1⟩
  · cases hf
theorem dw_and1 {a : Expr} {f : TF} {pos : Pos} (h : DT X a f) : DW X (.BoolOp .And [a] pos) f := pw_and1 h
theorem dw_or1 {a : Expr} {f : TF} {pos : Pos} (h : DT X a f) : DW X (.BoolOp .Or [a] pos) f := pw_or1 h
theorem dw_and {a b : Expr} {rest : List Expr} {f g : TF} {pos : Pos} (ha : DT X a f) (hb : DW X (.BoolOp .And (b :: rest) pos) g) : DW X (.BoolOp .And (a :: b :: rest) pos) (fAnd f g) := pw_imp (pw_and ha hb) rT_and
theorem dw_or {a b : Expr} {rest : List Expr} {f g : TF} {pos : Pos} (ha : DT X a f) (hb : DW X (.BoolOp .Or (b :: rest) pos) g) : DW X (.BoolOp .Or (a :: b :: rest) pos) (fOr f g) := pw_imp (pw_or ha hb) rT_or
theorem dt_w {e : Expr} {f : TF} (h : DW X e f) : DT X e f := PW.pt h
def fAndV (f g : EF) : EF := fun ρ => match f ρ with
  | some (.bool true, ρ') => g ρ'
  | some (.bool false, ρ') => some (.bool false, ρ')
  | _ => none
def fOrV (f g : EF) : EF := fun ρ => match f ρ with
  | some (.bool false, ρ') => g ρ'
  | some (.bool true, ρ') => some (.bool true, ρ')
  | _ => none
def fNotV (f : EF) : EF := fun ρ => match f ρ with
  | some (.bool b, ρ') => some (.bool (!b), ρ')
  | _ => none
def fIf (c : TF) (f g : EF) : EF := fun ρ => match c ρ with
  | some (true, ρ') => f ρ'
  | some (false, ρ') => g ρ'
  | none => none
theorem de_one {a : Expr} {op : BoolOp} {f : EF} {pos : Pos} (h : DE X a f) : DE X (.BoolOp op [a] pos) f := pe_one h
theorem de_and {a b : Expr} {rest : List Expr} {f g : EF} {pos : Pos} (ha : DE X a f) (hb : DE X (.BoolOp .And (b :: rest) pos) g) : DE X (.BoolOp .And (a :: b :: rest) pos) (fAndV f g) := by
  refine pe_imp (pe_and ha hb) ?_
  rintro σ H Q ⟨G, ρ, ρ', d, R, hf, k⟩
  unfold fAndV at hf
  split at hf
  · rename_i ρ2 e
    refine ⟨G, ρ, ρ2, .bool true, R, e, fun v G1 H1 R1 s1 q => ?_⟩
    cases q
    refine ⟨true, rfl, ?_⟩
    rw [if_pos rfl]
    exact ⟨G1, ρ2, ρ', d, R1, hf, fun v G' H' R' s q => k v G' H' R' (s1.trans s) q⟩
  · rename_i ρ2 e
    cases hf
    refine ⟨G, ρ, _, .bool false, R, e, fun v G1 H1 R1 s1 q => ?_⟩
    cases q
    refine ⟨false, rfl, ?_⟩
    rw [if_neg Bool.false_ne_true]
    exact k _ G1 H1 R1 s1 (.bl _)
  · cases hf
theorem de_not {a : Expr} {f : EF} {pos : Pos} (h : DE X a f) : DE X (.UnaryOp .Not a pos) (fNotV f) := by
  refine pe_imp (pe_not h) ?_
  rintro σ H Q ⟨G, ρ, ρ', d, R, hf, k⟩
  unfold fNotV at hf
  split at hf
  · rename_i c ρ2 e
    cases hf
    refine ⟨G, ρ, _, .bool c, R, e, fun v G1 H1 R1 s1 q => ?_⟩
    cases q
    exact ⟨c, rfl, k _ G1 H1 R1 s1 (.bl _)⟩
  · cases hf
theorem de_if {c a b : Expr} {t : TF} {f g : EF} {pos : Pos} (hc : DT X c t) (ha : DE X a f) (hb : DE X b g) : DE X (.IfExp c a b pos) (fIf t f g) := by
  refine pe_imp (pe_ifExp hc ha hb) ?_
  rintro σ H Q ⟨G, ρ, ρ', d, R, hf, k⟩
  unfold fIf at hf
  split at hf
  · rename_i ρ2 e
    exact ⟨G, ρ, ρ2, true, R, e, fun G1 H1 R1 s1 => by dsimp only; rw [if_pos rfl]; exact ⟨G1, ρ2, ρ', d, R1, hf, fun v G' H' R' s q => k v G' H' R' (s1.trans s) q⟩⟩
  · rename_i ρ2 e
    exact ⟨G, ρ, ρ2, false, R, e, fun G1 H1 R1 s1 => by dsimp only; rw [if_neg Bool.false_ne_true]; exact ⟨G1, ρ2, ρ', d, R1, hf, fun v G' H' R' s q => k v G' H' R' (s1.trans s) q⟩⟩
  · cases hf
end
end DL
namespace DL
open PySem PySem.Spec PyProof.Rows L2 GX StX
variable [DL.FT]
def kGet (kvs : List (NestedKey × PyData)) (k : NestedKey) : Option PyData := (kvs.find? fun kv => decide (kv.1 = k)).map (·.2)
def kPut (kvs : List (NestedKey × PyData)) (k : NestedKey) (d : PyData) : List (NestedKey × PyData) := if (kGet kvs k).isSome = true then kvs.map (fun kv => if kv.1 = k then (kv.1, d) else kv) else kvs ++ [(k, d)]
abbrev KX : Type := List (NestedKey × Addr × V)
abbrev KQ : KX → List (NestedKey × Addr × Value) → Prop := Paired fun x y => x.1 = y.1 ∧ x.2.1 = y.2.1 ∧ RelV x.2.2 y.2.2
mutual
theorem nis {K : PySem.W.Frag} {G : Hp} {h : Heap} (tp : ∀ a xs, TpN K G a xs → ∃ its : List Value, Vals xs its ∧ IsTup h a its.toArray) : ∀ (d : PyData) {v : V} {k : NestedKey} {u : Value}, Da K G v d → keyD d = some k → RelV v u → NestedIs h k u
  | .none, _, _, _, hd, hk, r => by cases hd; cases hk; cases r; exact .none
  | .bool b, _, _, _, hd, hk, r => by cases hd; cases hk; cases r; exact .bool rfl
  | .int i, _, _, _, hd, hk, r => by cases hd; cases hk; obtain ⟨t, rfl⟩ := r; exact .int _ _
  | .str x, _, _, _, hd, hk, r => by cases hd; cases hk; obtain ⟨t, rfl⟩ := r; exact .text _ _
  | .tuple ds, _, k, u, hd, hk, r => by
    cases hd with
    | @tup _ a xs _ hs ha =>
      unfold keyD at hk
      split at hk
      · rename_i ks e
        cases hk
        obtain rfl : u = Value.ref a := r
        obtain ⟨its, rv, o, ho, hc, n, hdat⟩ := tp a xs hs
        exact .tup ho hc hdat (by simpa using nisA tp ds ha e rv)
      · cases hk
  | .list _, _, _, _, hd, hk, r => by cases hk
  | .dict _, _, _, _, hd, hk, r => by cases hk
theorem nisA {K : PySem.W.Frag} {G : Hp} {h : Heap} (tp : ∀ a xs, TpN K G a xs → ∃ its : List Value, Vals xs its ∧ IsTup h a its.toArray) : ∀ (ds : List PyData) {vs : List V} {ks : List NestedKey} {us : List Value}, DaA K G vs ds → keyDs ds = some ks → Vals vs us → NestedAll h ks us
  | [], _, _, _, hd, hk, r => by cases hd; cases hk; cases r; exact .nil
  | d :: ds, _, _, _, hd, hk, r => by
    cases hd with
    | cons h1 h2 =>
      unfold keyDs at hk
      split at hk
      · rename_i k ks e1 e2
        cases hk
        cases r with
        | cons r1 r2 => exact .cons (nis tp d h1 e1 r1) (nisA tp ds h2 e2 r2)
      · cases hk
end
/-- a key that stands -/
def KeyAt (K : PySem.W.Frag) (G : Hp) (a : Addr) (k : NestedKey) : Prop := (∃ d, keyD d = some k ∧ Da K G (.ref a) d) ∧ NestedKey.depth k ≤ 8
section
variable {X : Cx} {pins : List (Addr × Obj)} {σ : L2.St} {G H : Hp} {s : Shared} {a p : Addr} {k : NestedKey} {xs : KX} {kvs : List (NestedKey × PyData)} {A : Around} {E : Value → Shared → Prop}
theorem keyAt_is (I : Inv X pins σ H s) (sm : Same G H) (h : KeyAt X.K G a k) : (nestedKind X.prog X.w).is s.heap k a := by
  obtain ⟨⟨d, e, hd⟩, dp⟩ := h
  refine ⟨nis (h := s.heap) (fun b ys ht => ?_) d hd e rfl, dp⟩
  obtain ⟨its, r, t, _⟩ := I.tuple (ht.same sm).sq
  exact ⟨its, r, t⟩
/-- a dict stands there, under change or for good -/
def IsDP (ww : World) (H : Hp) (p : Addr) (xs : KX) : Prop := H p = some (.ext (DicP ww p xs)) ∨ ∃ o, H p = some (.frz o (.ext (DicP ww p xs)))
theorem isDP_at (I : Inv X pins σ H s) (h : IsDP X.w H p xs) : DicP X.w p xs s.heap := by
  rcases h with h | ⟨o, h⟩
  · obtain ⟨x, _, _⟩ := I.hok p _ h
    exact x
  · obtain ⟨_, x, _, _⟩ := I.hok p _ h
    exact x
theorem dic_at (I : Inv X pins σ H s) (sm : Same G H) (hp : IsDP X.w H p xs) (hx : DicA X.K G xs kvs) :
    (p == sysModules) = false ∧ ∃ ys, KQ xs ys ∧ s.heap.DictOfH (nestedKind X.prog X.w) p ys := by
  obtain ⟨hd, ys, r, o, es, ep, e, c, dt, l, nd⟩ := isDP_at I hp
  refine ⟨hd, ys, r, o, es, ep, e, c, dt, l, ?_, nd⟩
  have all : ∀ {l : KX} {m : List (NestedKey × Addr × Value)} {kvs : List (NestedKey × PyData)}, KQ l m → DicA X.K G l kvs → ∀ x ∈ m, (nestedKind X.prog X.w).is s.heap x.1 x.2.1 := by
    intro l m kvs q
    induction q generalizing kvs with
    | nil => intro _ x hx; exact nomatch hx
    | @cons x y xs' ys' hq t ih =>
      intro hz z hm
      cases hz with
      | cons h1 h2 =>
        rcases List.mem_cons.mp hm with e | hm
        · subst e
          rw [← hq.1, ← hq.2.1]
          exact keyAt_is I sm ⟨h1.2.1, h1.2.2.1⟩
        · exact ih h2 z hm
  exact all r hx
theorem kGet_at : ∀ {xs : KX} {kvs : List (NestedKey × PyData)} {ys : List (NestedKey × Addr × Value)}, KQ xs ys → DicA X.K G xs kvs →
    (kGet kvs k = none ∧ atKey ys k = none) ∨ ∃ d v c u, kGet kvs k = some d ∧ atKey ys k = some (c, u) ∧ RelV v u ∧ Da X.K G v d := by
  intro xs kvs ys q
  induction q generalizing kvs with
  | nil => intro h; cases h; exact .inl ⟨rfl, rfl⟩
  | @cons x y xs' ys' hq t ih =>
    intro hz
    cases hz with
    | @cons _ kv _ kvs' h1 h2 =>
      by_cases e : kv.1 = k
      · have ey : y.1 = k := hq.1.symm.trans (h1.1.trans e)
        refine .inr ⟨kv.2, x.2.2, y.2.1, y.2.2, ?_, ?_, hq.2.2, h1.2.2.2⟩
        · simp [kGet, List.find?_cons, e]
        · simp [atKey, List.find?_cons, ey]
      · have ey : ¬ y.1 = k := fun z => e (h1.1.symm.trans (hq.1.trans z))
        have e1 : kGet (kv :: kvs') k = kGet kvs' k := by simp [kGet, List.find?_cons, e]
        have e2 : atKey (y :: ys') k = atKey ys' k := by simp [atKey, List.find?_cons, ey]
        rw [e1, e2]
        exact ih h2
theorem kGet_isSome {ys : List (NestedKey × Addr × Value)} (q : KQ xs ys) (hx : DicA X.K G xs kvs) : (kGet kvs k).isSome = (atKey ys k).isSome := by
  rcases kGet_at (k := k) q hx with ⟨e1, e2⟩ | ⟨d, v, c, u, e1, e2, _⟩
  · rw [e1, e2]; rfl
  · rw [e1, e2]; rfl
def rInK (ww : World) (K : PySem.W.Frag) (neg : Bool) : R2 := fun x y H Q => ∃ G a p k xs kvs, x = .ref a ∧ y = .ref p ∧ Same G H ∧ KeyAt K G a k ∧ IsDP ww H p xs ∧ DicA K G xs kvs ∧ Q (.bl (neg ^^ (kGet kvs k).isSome)) H
theorem op_inK (hu : X.A.units + 64 < cLine) : OpR X (compareOp .In) (rInK X.w X.K false) := by
  intro pins s σ H x y v u Q I rx ry h
  obtain ⟨G, a, p, k, xs, kvs, rfl, rfl, sm, hk, hp, hx, q⟩ := h
  cases rx; cases ry
  obtain ⟨hd, ys, r, dd⟩ := dic_at I sm hp hx
  refine wpAny_in_heap (by show X.A.units + 1 + 8 < cLine; omega) (keyAt_is I sm hk) hd dd ?_
  rw [Bool.false_xor, kGet_isSome r hx] at q
  exact ⟨.bl _, H, I.tok _, rfl, q⟩
theorem op_notInK (hu : X.A.units + 64 < cLine) : OpR X (compareOp .NotIn) (rInK X.w X.K true) := by
  intro pins s σ H x y v u Q I rx ry h
  obtain ⟨G, a, p, k, xs, kvs, rfl, rfl, sm, hk, hp, hx, q⟩ := h
  cases rx; cases ry
  obtain ⟨hd, ys, r, dd⟩ := dic_at I sm hp hx
  refine wpAny_notIn_heap (by show X.A.units + 1 + 8 < cLine; omega) (keyAt_is I sm hk) hd dd ?_
  rw [Bool.true_xor, kGet_isSome r hx] at q
  exact ⟨.bl _, H, I.tok _, rfl, q⟩
def rLenK (ww : World) (K : PySem.W.Frag) : List V → Hp → VK → Prop := fun vs H Q => ∃ G p xs kvs, vs = [.ref p] ∧ Same G H ∧ IsDP ww H p xs ∧ DicA K G xs kvs ∧ kvs.length ≤ 1000000 ∧ Q (.int kvs.length) H
theorem paired_length {α β : Type} {F : α → β → Prop} : ∀ {as : List α} {bs : List β}, Paired F as bs → as.length = bs.length
  | _, _, .nil => rfl
  | _, _, .cons _ t => congrArg Nat.succ (paired_length t)
theorem call_lenK : CallR X (.builtin "len") (rLenK X.w X.K) := by
  intro pins s σ H vs us Q I r h
  obtain ⟨G, p, xs, kvs, rfl, sm, hp, hx, hz, q⟩ := h
  obtain ⟨u, rfl, ru⟩ := r.one
  obtain rfl : u = Value.ref p := ru
  obtain ⟨hd, ys, r, dd⟩ := dic_at I sm hp hx
  have l1 := paired_length r
  have l2 := paired_length hx
  refine PyProof.Rows.call_len_slot (n := ys.length) dd.typeIs PySem.F.slot_dict_len (fun Q' hq => len_keyed hd ⟨ys, dd, rfl⟩ (by rw [pairsH_length]; exact hq)) (by omega) (by omega) ?_
  rw [← l1, l2]
  exact ⟨.int kvs.length, H, I.tok _, ⟨_, rfl⟩, q⟩
end
end DL
namespace DL
open PySem PySem.Spec PyProof.Rows L2 GX
variable [DL.FT]
mutual
theorem keyD_data : ∀ k : NestedKey, keyD (NestedKey.data k) = some k
  | .none => rfl
  | .num _ => rfl
  | .text _ => rfl
  | .tup ks => by
    unfold NestedKey.data keyD
    rw [keyDs_data ks]
theorem keyDs_data : ∀ ks : List NestedKey, keyDs (NestedKey.datas ks) = some ks
  | [] => rfl
  | k :: ks => by
    unfold NestedKey.datas keyDs
    rw [keyD_data k, keyDs_data ks]
end
/-- a dict under change, as a datum -/
def dicD (kvs : List (NestedKey × PyData)) : PyData := .dict ((.none, .none) :: kvs.map fun kv => (NestedKey.data kv.1, kv.2))
def undict : List (PyData × PyData) → List (NestedKey × PyData)
  | [] => []
  | (d, v) :: r => match keyD d with
    | some k => (k, v) :: undict r
    | none => undict r
theorem undict_map : ∀ kvs : List (NestedKey × PyData), undict (kvs.map fun kv => (NestedKey.data kv.1, kv.2)) = kvs
  | [] => rfl
  | kv :: kvs => by
    rw [List.map_cons]
    unfold undict
    rw [keyD_data]
    dsimp only
    rw [undict_map kvs]
/-- the same of a dict whose keys' data are known -/
def dfD (kvs : List (PyData × PyData)) : PyData := .dict ((.none, .bool true) :: kvs)
theorem undict_f {K : PySem.W.Frag} {G : Hp} [FT] : ∀ {kvs : List (PyData × PyData)} {xs : List (NestedKey × Addr × V)}, DicF K G xs kvs → DicA K G xs (undict kvs)
  | [], _, h => by cases h; exact .nil
  | (d, v) :: kvs, _, h => by
    cases h with
    | cons h1 h2 =>
      obtain ⟨a, b, c, e⟩ := h1
      unfold undict
      dsimp only at a
      rw [a]
      exact .cons ⟨rfl, ⟨_, a, b⟩, c, e⟩ (undict_f h2)
/-- an operand: a datum, or what a slot holds -/
inductive Ag where
  | d (x : PyData) | v (i : Nat)
def look (ρ : Rho) : Ag → Option PyData
  | .d x => some x
  | .v i => match ρ[i]? with
    | some (.dat d) => some d
    | some (.own _ (.l ds)) => some (.list ds)
    | some (.own _ (.k kvs)) => some (dicD kvs)
    | some (.own _ (.f kvs)) => some (dfD kvs)
    | _ => none
def AgR (K : PySem.W.Frag) (G : Hp) (σ : L2.St) : Ag → V → Prop
  | .d x, v => Da K G v x
  | .v i, v => σ[i]? = some (some v)
theorem AgR.same {K : PySem.W.Frag} {G G' : Hp} {σ : L2.St} {a : Ag} {v : V} (h : AgR K G σ a v) (s : Same G G') : AgR K G' σ a v := by
  cases a with
  | d x => exact Da.same h s
  | v i => exact h
/-- what is read: a datum, or a list that is under change -/
def Bo (ww : World) (K : PySem.W.Frag) (G H : Hp) (v : V) (d : PyData) : Prop := Da K G v d ∨ (∃ p xs ds, v = .ref p ∧ d = .list ds ∧ H p = some (.lst xs) ∧ DaA K G xs ds) ∨
  ∃ p xs ps q, v = .ref p ∧ d = .dict ((.none, q) :: ps) ∧ H p = some (.ext (DicP ww p xs)) ∧ DicA K G xs (undict ps)
abbrev GF := Rho → Option (Ag × Rho)
def rG (ww : World) (K : PySem.W.Frag) (f : GF) : TE := fun σ H Q => ∃ G ρ ρ' a, Rl ww K G σ ρ H ∧ f ρ = some (a, ρ') ∧ ∀ v G' H', Rl ww K G' σ ρ' H' → Sx G σ ρ H G' σ ρ' H' → AgR K G' σ a v → Q v H'
def DG (X : Cx) (e : Expr) (f : GF) : Prop := PE X e (rG X.w X.K f)
section
variable {ww : World} {K : PySem.W.Frag} {G H : Hp} {σ : L2.St} {ρ : Rho} {v : V} {d : PyData}
theorem look_bo {a : Ag} (R : Rl ww K G σ ρ H) (h : AgR K G σ a v) (l : look ρ a = some d) : Bo ww K G H v d := by
  cases a with
  | d x =>
    cases l
    exact .inl h
  | v i =>
    unfold look at l
    dsimp only at l
    split at l
    · rename_i d' e
      cases l
      obtain ⟨w, e', hw⟩ := R.dat e
      have h' : σ[i]? = some (some v) := h
      rw [h'] at e'
      cases e'
      exact .inl hw
    · rename_i b ds e
      cases l
      obtain ⟨p, xs, e', hp, _, hd⟩ := R.ownL e
      have h' : σ[i]? = some (some v) := h
      rw [h'] at e'
      cases e'
      exact .inr (.inl ⟨p, xs, ds, rfl, rfl, hp, hd⟩)
    · rename_i b kvs e
      cases l
      obtain ⟨p, e', _, xs, hp, hd⟩ := R.own e
      have h' : σ[i]? = some (some v) := h
      rw [h'] at e'
      cases e'
      exact .inr (.inr ⟨p, xs, _, _, rfl, rfl, hp, by rw [undict_map]; exact hd⟩)
    · rename_i b kvs e
      cases l
      obtain ⟨p, e', _, xs, hp, hd⟩ := R.own e
      have h' : σ[i]? = some (some v) := h
      rw [h'] at e'
      cases e'
      exact .inr (.inr ⟨p, xs, _, _, rfl, rfl, hp, undict_f hd⟩)
    · cases l
theorem bo_int {i : Int} (h : Bo ww K G H v (.int i)) : v = .int i := by
  rcases h with h | ⟨_, _, _, _, e, _⟩ | ⟨_, _, _, _, _, e, _⟩
  · cases h; rfl
  · cases e
  · cases e
theorem bo_bool {i : Bool} (h : Bo ww K G H v (.bool i)) : v = .bl i := by
  rcases h with h | ⟨_, _, _, _, e, _⟩ | ⟨_, _, _, _, _, e, _⟩
  · cases h; rfl
  · cases e
  · cases e
theorem bo_str {i : Str} (h : Bo ww K G H v (.str i)) : v = .str i := by
  rcases h with h | ⟨_, _, _, _, e, _⟩ | ⟨_, _, _, _, _, e, _⟩
  · cases h; rfl
  · cases e
  · cases e
theorem bo_non (h : Bo ww K G H v .none) : v = .non := by
  rcases h with h | ⟨_, _, _, _, e, _⟩ | ⟨_, _, _, _, _, e, _⟩
  · cases h; rfl
  · cases e
  · cases e
theorem bo_tup {ds : List PyData} (h : Bo ww K G H v (.tuple ds)) : ∃ a xs, v = .ref a ∧ TpN K G a xs ∧ DaA K G xs ds := by
  rcases h with h | ⟨_, _, _, _, e, _⟩ | ⟨_, _, _, _, _, e, _⟩
  · cases h with | tup hs ha => exact ⟨_, _, rfl, hs, ha⟩
  · cases e
  · cases e
theorem bo_list {ds : List PyData} (h : Bo ww K G H v (.list ds)) (s : Same G H) : ∃ a xs, v = .ref a ∧ H a = some (.lst xs) ∧ DaA K G xs ds := by
  rcases h with h | ⟨p, xs, es, rfl, e, hp, hd⟩ | ⟨_, _, _, _, _, e, _⟩
  · cases h with | lst hs ha => exact ⟨_, _, rfl, s _ _ hs, ha⟩
  · cases e
    exact ⟨_, _, rfl, hp, hd⟩
  · cases e
theorem bo_dp (h : Bo ww K G H v d) (s : Same G H) (c : d.canLay0 = true) : Dp K H v d := by
  rcases h with h | ⟨p, xs, es, rfl, e, hp, hd⟩ | ⟨_, _, _, _, _, e, _⟩
  · exact Da.dp (h.same s) c
  · subst e
    exact .lst (.inl (.inl hp)) (DaA.dp (hd.same s) (by simpa [PyData.canLay0] using c))
  · subst e
    simp [PyData.canLay0] at c
theorem bo_dic {ps : List (PyData × PyData)} {q : PyData} (h : Bo ww K G H v (.dict ((.none, q) :: ps))) : ∃ p xs, v = .ref p ∧ H p = some (.ext (DicP ww p xs)) ∧ DicA K G xs (undict ps) := by
  rcases h with h | ⟨_, _, _, _, e, _⟩ | ⟨p, xs, ps', q', rfl, e, hp, hx⟩
  · cases h
  · cases e
  · cases e
    exact ⟨p, xs, rfl, hp, hx⟩
theorem bo_key {ds : List PyData} {k : NestedKey} (h : Bo ww K G H v (.tuple ds)) (e : keyD (.tuple ds) = some k) (dp : NestedKey.depth k ≤ 8) : ∃ a, v = .ref a ∧ KeyAt K G a k := by
  obtain ⟨a, xs, rfl, ht, ha⟩ := bo_tup h
  exact ⟨a, rfl, ⟨⟨_, e, .tup ht ha⟩, dp⟩⟩
theorem newT {p : Addr} {o : Obj} {xs : List V} {ds : List PyData} (n : G p = none) (od : o.dict = none) (h : DaA K G xs ds) : Da K (upd G p (.frz o (.tup xs))) (.ref p) (.tuple ds) := by
  have sm : Same G (upd G p (.frz o (.tup xs))) := fun c o q => by
    by_cases z : c = p
    · rw [z, n] at q; cases q
    · rw [upd_ne z]; exact q
  exact .tup (.inl ⟨o, upd_same, od⟩) (h.same sm)
theorem newL {p : Addr} {xs : List V} {ds : List PyData} (n : G p = none) (h : DaA K G xs ds) : Da K (upd G p (.lst xs)) (.ref p) (.list ds) := by
  have sm : Same G (upd G p (.lst xs)) := fun c o q => by
    by_cases z : c = p
    · rw [z, n] at q; cases q
    · rw [upd_ne z]; exact q
  exact .lst upd_same (h.same sm)
end
section
variable {X : Cx}
def gVar (i : Nat) : GF := fun ρ => match look ρ (.v i) with
  | some _ => some (.v i, ρ)
  | none => none
theorem dg_var {i : Nat} {x : Str} {pos : Pos} (hN : X.N[i]? = some x) (hv : Vis X.env.scope x) (hd : (x == ("__debug__" : Str)) = false := by decide) (hcd : (x == ("__classdict__" : Str)) = false := by decide) : DG X (.Name x pos) (gVar i) := by
  refine pe_imp (pe_var hN hv hd hcd) ?_
  rintro σ H Q ⟨G, ρ, ρ', a, R, hf, k⟩
  unfold gVar at hf
  split at hf
  · rename_i d l
    cases hf
    unfold look at l
    dsimp only at l
    split at l
    · rename_i d' e
      obtain ⟨v, e', hd⟩ := R.dat e
      exact ⟨v, e', k v G H R (Sx.refl _ _ _ _) e'⟩
    · rename_i b ds e
      obtain ⟨p, xs, e', _⟩ := R.ownL e
      exact ⟨_, e', k _ G H R (Sx.refl _ _ _ _) e'⟩
    · rename_i b ds e
      obtain ⟨p, e', _⟩ := R.own e
      exact ⟨_, e', k _ G H R (Sx.refl _ _ _ _) e'⟩
    · rename_i b ds e
      obtain ⟨p, e', _⟩ := R.own e
      exact ⟨_, e', k _ G H R (Sx.refl _ _ _ _) e'⟩
    · cases l
  · cases hf
def gVal (f : EF) : GF := fun ρ => match f ρ with
  | some (d, ρ') => some (.d d, ρ')
  | none => none
theorem dg_val {e : Expr} {f : EF} (h : DE X e f) : DG X e (gVal f) := by
  refine pe_imp h ?_
  rintro σ H Q ⟨G, ρ, ρ', a, R, hf, k⟩
  unfold gVal at hf
  split at hf
  · rename_i d ρ2 e
    cases hf
    exact ⟨G, ρ, _, d, R, e, fun v G' H' R' s q => k v G' H' R' s q⟩
  · cases hf
abbrev Op2 := PyData → PyData → Option PyData
def rOp (ww : World) (K : PySem.W.Frag) (op : Op2) : R2 := fun x y H Q => ∃ G d e r, Same G H ∧ Bo ww K G H x d ∧ Bo ww K G H y e ∧ op d e = some r ∧ ∀ v G' H', Xt G H G' H' → Da K G' v r → Q v H'
def fOp (op : Op2) (f g : GF) : EF := fun ρ => match f ρ with
  | none => none
  | some (a, ρ1) => match g ρ1 with
    | none => none
    | some (b, ρ2) => match look ρ2 a, look ρ2 b with
      | some d, some e => match op d e with
        | none => none
        | some r => some (r, ρ2)
      | _, _ => none
theorem fOp_of {op : Op2} {f g : GF} {ρ ρ2 : Rho} {r : PyData} (h : fOp op f g ρ = some (r, ρ2)) : ∃ a ρ1 b d e, f ρ = some (a, ρ1) ∧ g ρ1 = some (b, ρ2) ∧ look ρ2 a = some d ∧ look ρ2 b = some e ∧ op d e = some r := by
  unfold fOp at h
  split at h
  · cases h
  · rename_i a ρ1 h1
    split at h
    · cases h
    · rename_i b ρ2' h2
      split at h
      · rename_i d e h3 h4
        split at h
        · cases h
        · rename_i r' h5
          cases h
          exact ⟨a, ρ1, b, d, e, h1, h2, h3, h4, h5⟩
      · cases h
theorem tOp_of {ww : World} {K : PySem.W.Frag} {op : Op2} {f g : GF} {r : R2} (hr : ∀ x y H Q, rOp ww K op x y H Q → r x y H Q) : ∀ σ H Q, rE ww K (fOp op f g) σ H Q → tOp r (rG ww K f) (rG ww K g) σ H Q := by
  rintro σ H Q ⟨G, ρ, ρ', d, R, hf, k⟩
  obtain ⟨a, ρ1, b, da, db, h1, h2, h3, h4, h5⟩ := fOp_of hf
  exact ⟨G, ρ, ρ1, a, R, h1, fun v1 G1 H1 R1 s1 q1 => ⟨G1, ρ1, ρ', b, R1, h2, fun v2 G2 H2 R2 s2 q2 => hr _ _ _ _ ⟨G2, da, db, d, R2.sub, look_bo R2 (q1.same s2.gr) h3, look_bo R2 q2 h4, h5,
    fun v G3 H3 x q => k v G3 H3 (R2.ext x) ((s1.trans s2).trans (.ext x)) q⟩⟩⟩
theorem de_op {a b : Expr} {op : Operator} {g : Op2} {f1 f2 : GF} {pos : Pos} (ho : OpR X (binaryOp op) (rOp X.w X.K g)) (ha : DG X a f1) (hb : DG X b f2) : DE X (.BinOp a op b pos) (fOp g f1 f2) :=
  pe_imp (pe_op ho ha hb) (tOp_of fun _ _ _ _ h => h)
theorem de_cmp {a b : Expr} {op : CmpOp} {g : Op2} {f1 f2 : GF} {pos : Pos} (ho : OpR X (compareOp op) (rOp X.w X.K g)) (ha : DG X a f1) (hb : DG X b f2) (hm : behindInMarks op b = false) : DE X (.Compare a [op] [b] pos) (fOp g f1 f2) :=
  pe_imp (pe_cmpR ho ha hb hm) (tOp_of fun _ _ _ _ h => h)
theorem dt_cmp {a b : Expr} {op : CmpOp} {g : Op2} {f1 f2 : GF} {pos : Pos} (ho : OpR X (compareOp op) (rOp X.w X.K g)) (ha : DG X a f1) (hb : DG X b f2) (hm : behindInMarks op b = false) : DT X (.Compare a [op] [b] pos) (fTst (fOp g f1 f2)) := by
  refine pt_imp (pt_cmpR ho ha hb hm) ?_
  intro σ H Q h
  exact tOp_of (fun _ _ _ _ h => h) _ _ _ (dt_of _ _ _ h)
theorem de_ix {a b : Expr} {g : Op2} {f1 f2 : GF} {pos : Pos} (ho : IxR X (rOp X.w X.K g)) (ha : DG X a f1) (hb : DG X b f2) (hs : PlainIx b := by exact fun _ _ => rfl) : DE X (.Subscript a b pos) (fOp g f1 f2) :=
  pe_imp (pe_ix ho ha hb hs) (tOp_of fun _ _ _ _ h => h)
def fits (n : Nat) : Bool := decide (n ≤ 1000000)
theorem fits_le {n : Nat} (h : fits n = true) : n ≤ sizeLine := by
  have := of_decide_eq_true h
  rw [sizeLine_eq]; omega
def addD : Op2
  | .int i, .int j => some (.int (i + j))
  | .tuple a, .tuple b => if fits (a.length + b.length) = true then some (.tuple (a ++ b)) else none
  | .list a, .list b => if fits (a.length + b.length) = true then some (.list (a ++ b)) else none
  | .str a, .str b => if fits (a.length + b.length) = true then some (.str (a ++ b)) else none
  | _, _ => none
theorem op_addD : OpR X (binaryOp .Add) (rOp X.w X.K addD) := by
  refine OpR.imp (op_add.or (op_catN.or (op_cat.or op_add_str))) ?_
  rintro x y H Q ⟨G, d, e, r, sub, hd, he, h, k⟩
  unfold addD at h
  split at h
  · cases h
    rw [bo_int hd, bo_int he]
    exact .inl ⟨_, _, rfl, rfl, k _ G H (Xt.refl sub) (.int _)⟩
  · split at h
    · rename_i hz
      cases h
      obtain ⟨p, xs, rfl, hp, ha⟩ := bo_tup hd
      obtain ⟨q, ys, rfl, hq, hb⟩ := bo_tup he
      refine .inr (.inl ⟨p, q, xs, ys, rfl, rfl, (hp.same sub).sq, (hq.same sub).sq, ?_, fun e => ?_, fun _ e => ?_, fun _ _ t o n od => ?_⟩)
      · rw [ha.len, hb.len]; exact fits_le hz
      · subst e
        cases ha
        exact k _ G H (Xt.refl sub) (.tup hq hb)
      · subst e
        cases hb
        rw [List.append_nil] at k
        exact k _ G H (Xt.refl sub) (.tup hp ha)
      · exact k _ _ _ (Xt.new sub n) (newT (Same.free sub n) od (ha.app hb))
    · cases h
  · split at h
    · rename_i hz
      cases h
      obtain ⟨p, xs, rfl, hp, ha⟩ := bo_list hd sub
      obtain ⟨q, ys, rfl, hq, hb⟩ := bo_list he sub
      refine .inr (.inr (.inl ⟨p, q, xs, ys, rfl, rfl, hp, hq, ?_, fun t n => ?_⟩))
      · rw [ha.len, hb.len]; exact fits_le hz
      · exact k _ _ _ (Xt.new sub n) (newL (Same.free sub n) (ha.app hb))
    · cases h
  · split at h
    · rename_i hz
      cases h
      rw [bo_str hd, bo_str he]
      exact .inr (.inr (.inr ⟨_, _, rfl, rfl, fits_le hz, k _ G H (Xt.refl sub) (.str _)⟩))
    · cases h
  · cases h
def subD : Op2
  | .int i, .int j => some (.int (i - j))
  | _, _ => none
theorem op_subD : OpR X (binaryOp .Sub) (rOp X.w X.K subD) := by
  refine OpR.imp op_sub ?_
  rintro x y H Q ⟨G, d, e, r, sub, hd, he, h, k⟩
  unfold subD at h
  split at h
  · cases h
    rw [bo_int hd, bo_int he]
    exact ⟨_, _, rfl, rfl, k _ G H (Xt.refl sub) (.int _)⟩
  · cases h
def smallI (i : Int) : Bool := decide (-(2 ^ 64) < i) && decide (i < 2 ^ 64)
theorem smallI_of {i : Int} (h : smallI i = true) : -(2 ^ 64) < i ∧ i < 2 ^ 64 := by
  unfold smallI at h
  rw [Bool.and_eq_true] at h
  exact ⟨of_decide_eq_true h.1, of_decide_eq_true h.2⟩
def timesL (ds : List PyData) (k : Nat) : List PyData := (List.replicate k ds).flatten
theorem DaA.times {K : PySem.W.Frag} {H : Hp} {ds : List PyData} {xs : List V} (h : DaA K H xs ds) : ∀ k : Nat, DaA K H (List.replicate k xs).flatten (timesL ds k)
  | 0 => .nil
  | k + 1 => by
    show DaA K H (List.replicate (k + 1) xs).flatten (List.replicate (k + 1) ds).flatten
    rw [List.replicate_succ, List.replicate_succ, List.flatten_cons, List.flatten_cons]
    exact h.app (DaA.times h k)
theorem same_w (l : Addr) (xs : Array Value) (k : Nat) (du : Option Addr) (so : Array (Option Value)) (x : Int) (u : Tok) (c0 : (decide (x < -(2 ^ 63)) || decide (x ≥ 2 ^ 63)) = false) (c1 : (xs.isEmpty || x == 1) = true) :
    Meets (Builtin.«tuple.__mul__» ⟨[.ref l, .int x u], []⟩) (fun _ R s => s.heap.get? l = some { cls := .type "tuple", dict := du, data := .seq xs k, slots := so } ∧ R (.ok (.ret (.ref l))) s) := by
  refine .of_wp fun prog w A R s h => ?_
  obtain ⟨hp, g, d, tk, os⟩ := s
  obtain ⟨hl, h⟩ := h
  have f1 := AutoSeq1.idx_int
  wp_walk using wpAny_loadPart' hl
  repeat (first
      | (refine wpAny_ite_false (decide_eq_false (by rw [c0]; exact Bool.false_ne_true)) ?_; wp_walk using wpAny_loadPart' hl)
      | (refine wpAny_ite_true (decide_eq_true c1) ?_; wp_walk using wpAny_loadPart' hl))
  all_goals first
    | exact ⟨_, rfl, h⟩
    | skip
theorem zero_w (l : Addr) (xs : Array Value) (k : Nat) (du : Option Addr) (so : Array (Option Value)) (u : Tok) (c1 : (xs.isEmpty || (0 : Int) == 1) = false) :
    Meets (Builtin.«tuple.__mul__» ⟨[.ref l, .int 0 u], []⟩) (fun _ R s => s.heap.get? l = some { cls := .type "tuple", dict := du, data := .seq xs k, slots := so } ∧ R (.ok (.ret (Value.ref s.heap.objs.size))) { s with heap := s.heap.push { cls := Value.type "tuple", data := Data.seq #[] }, toks := s.toks }) := by
  refine .of_wp fun prog w A R s h => ?_
  obtain ⟨hp, g, d, tk, os⟩ := s
  obtain ⟨hl, h⟩ := h
  have f1 := AutoSeq1.idx_int
  have c2 : (decide ((0 : Int) ≤ 0) || xs.isEmpty) = true := by simp
  wp_walk using wpAny_loadPart' hl
  repeat (first
      | (refine wpAny_ite_false (decide_eq_false (by rw [c1]; exact Bool.false_ne_true)) ?_; wp_walk using wpAny_loadPart' hl)
      | (refine wpAny_ite_true (decide_eq_true c2) ?_; wp_walk using wpAny_loadPart' hl))
  all_goals first
    | exact ⟨_, rfl, h⟩
    | skip
def rRepS (K : PySem.W.Frag) : R2 := fun x y H Q => ∃ l k xs, x = .ref l ∧ y = .int k ∧ SqT K H l xs ∧ (0 ≤ k ∧ k ≤ 2000) ∧ (xs = [] ∨ k = 1) ∧ Q (.ref l) H
theorem op_repS : OpR X (binaryOp .Mult) (rRepS X.K) := by
  intro pins s σ H x y v u Q I rx ry h
  obtain ⟨l, k, xs, rfl, rfl, hT, ⟨k0, k1⟩, e, q⟩ := h
  cases rx
  obtain ⟨t, rfl⟩ := ry
  obtain ⟨its, r, ⟨⟨cls, du, data, so⟩, ho, hc, n, hd⟩, hs⟩ := I.tuple hT
  simp only at hc hd
  subst hc hd
  have g0 : (decide (k < -(2 ^ 63)) || decide (k ≥ 2 ^ 63)) = false := by
    rw [decide_eq_false (by omega : ¬ k < -(2 ^ 63)), decide_eq_false (by omega : ¬ k ≥ 2 ^ 63)]
    rfl
  have g1 : (its.toArray.isEmpty || k == 1) = true := by
    rcases e with e | e
    · have z : its = [] := r.nil_iff.mpr e
      rw [z]; rfl
    · subst e; simp
  refine wpAny_binaryOp_repeat_ref (T := "tuple") (U := "int") (by decide) ⟨_, ho, rfl⟩ (fun s' => typeIs_int s' k t)
    noFill_tuple_mul F.fills_int_mul F.slot_int_rmul repeat_tuple F.slot_int_index.lookup ?_
  refine call_meets F.slot_int_rmul (typeIs_int s k t) F.entry_int_rmul (F.args_int_rmul_2 _ _)
    (int_rmul_tuple k t l its.toArray n du so) ⟨ho, rfl, ⟨_, ho, rfl⟩, ?_⟩
  refine call_meets F.slot_tuple_mul ⟨_, ho, rfl⟩ F.entry_tuple_mul (F.args_tuple_mul_2 _ _)
    (same_w l its.toArray n du so k t g0 g1) ⟨ho, ?_⟩
  exact ⟨.ref l, H, I, rfl, q⟩
def rRepZ (K : PySem.W.Frag) : R2 := fun x y H Q => ∃ l xs, x = .ref l ∧ y = .int 0 ∧ SqT K H l xs ∧ xs ≠ [] ∧ NewT H [] Q
theorem op_repZ : OpR X (binaryOp .Mult) (rRepZ X.K) := by
  intro pins s σ H x y v u Q I rx ry h
  obtain ⟨l, xs, rfl, rfl, hT, hne, q⟩ := h
  cases rx
  obtain ⟨t, rfl⟩ := ry
  obtain ⟨its, r, ⟨⟨cls, du, data, so⟩, ho, hc, n, hd⟩, hs⟩ := I.tuple hT
  simp only at hc hd
  subst hc hd
  have g1 : (its.toArray.isEmpty || (0 : Int) == 1) = false := by
    cases its with
    | nil => exact (hne (r.nil_iff.mp rfl)).elim
    | cons _ _ => rfl
  refine wpAny_binaryOp_repeat_ref (T := "tuple") (U := "int") (by decide) ⟨_, ho, rfl⟩ (fun s' => typeIs_int s' 0 t)
    noFill_tuple_mul F.fills_int_mul F.slot_int_rmul repeat_tuple F.slot_int_index.lookup ?_
  refine call_meets F.slot_int_rmul (typeIs_int s 0 t) F.entry_int_rmul (F.args_int_rmul_2 _ _)
    (int_rmul_tuple 0 t l its.toArray n du so) ⟨ho, rfl, ⟨_, ho, rfl⟩, ?_⟩
  refine call_meets F.slot_tuple_mul ⟨_, ho, rfl⟩ F.entry_tuple_mul (F.args_tuple_mul_2 _ _)
    (zero_w l its.toArray n du so t g1) ⟨ho, ?_⟩
  exact laidT (xs := []) (us := []) I .nil (by rw [sizeLine_eq]; simp) q
def mulD : Op2
  | .int i, .int j => if (smallI i || smallI j) = true then some (.int (i * j)) else none
  | .tuple ds, .int k => if 0 ≤ k ∧ k ≤ 2000 ∧ ds.length ≤ 500 then some (.tuple (timesL ds k.toNat)) else none
  | .list ds, .int k => if 0 ≤ k ∧ k ≤ 2000 ∧ ds.length ≤ 500 then some (.list (timesL ds k.toNat)) else none
  | _, _ => none
theorem times_one (ds : List PyData) : timesL ds 1 = ds := by simp [timesL]
theorem times_nil : ∀ k : Nat, timesL [] k = []
  | 0 => rfl
  | k + 1 => by simp [timesL]
theorem rep_le {n : Nat} {k : Int} (h0 : 0 ≤ k) (h1 : k ≤ 2000) (h2 : n ≤ 500) : n * k.toNat ≤ sizeLine := by
  rw [sizeLine_eq]
  have h3 : k.toNat ≤ 2000 := by omega
  exact Nat.le_trans (Nat.mul_le_mul h2 h3) (by decide)
theorem op_mulD : OpR X (binaryOp .Mult) (rOp X.w X.K mulD) := by
  refine OpR.imp (op_mul.or ((op_repS.or op_repZ).or (op_repN.or op_rep))) ?_
  rintro x y H Q ⟨G, d, e, r, sub, hd, he, h, k⟩
  unfold mulD at h
  split at h
  · split at h
    · rename_i hz
      cases h
      rw [bo_int hd, bo_int he]
      rw [Bool.or_eq_true] at hz
      exact .inl ⟨_, _, rfl, rfl, hz.elim (fun z => .inl (smallI_of z)) (fun z => .inr (smallI_of z)), k _ G H (Xt.refl sub) (.int _)⟩
    · cases h
  · rename_i ds n
    obtain ⟨p, xs, rfl, hp, ha⟩ := bo_tup hd
    rw [bo_int he]
    split at h
    · rename_i hz
      cases h
      obtain ⟨z1, z2, z3⟩ := hz
      by_cases e1 : xs = [] ∨ n = 1
      · have e2 : timesL ds n.toNat = ds := by
          rcases e1 with e1 | e1
          · subst e1
            cases ha
            exact times_nil _
          · subst e1; exact times_one ds
        rw [e2] at k
        exact .inr (.inl (.inl ⟨p, n, xs, rfl, rfl, (hp.same sub).sq, ⟨z1, z2⟩, e1, k _ G H (Xt.refl sub) (.tup hp ha)⟩))
      · by_cases e3 : n = 0
        · subst e3
          exact .inr (.inl (.inr ⟨p, xs, rfl, rfl, (hp.same sub).sq, fun z => e1 (.inl z), fun t o nt od => k _ _ _ (Xt.new sub nt) (newT (Same.free sub nt) od .nil)⟩))
        · exact .inr (.inr (.inl ⟨p, n, xs, rfl, rfl, (hp.same sub).sq, fun z => e1 (.inl z), ⟨by omega, z2⟩, by rw [ha.len]; exact z3, fun t o nt od => k _ _ _ (Xt.new sub nt) (newT (Same.free sub nt) od (ha.times _))⟩))
    · cases h
  · rename_i ds n
    obtain ⟨p, xs, rfl, hp, ha⟩ := bo_list hd sub
    rw [bo_int he]
    split at h
    · rename_i hz
      cases h
      obtain ⟨z1, z2, z3⟩ := hz
      refine .inr (.inr (.inr ⟨p, n, xs, rfl, rfl, hp, by omega, by omega, rep_le z1 z2 (by rw [ha.len]; exact z3), fun t nt => ?_⟩))
      exact k _ _ _ (Xt.new sub nt) (newL (Same.free sub nt) (ha.times _))
    · cases h
  · cases h
def modD : Op2
  | .int i, .int j => if 0 < j then some (.int (i % j)) else none
  | _, _ => none
theorem op_modD : OpR X (binaryOp .Mod) (rOp X.w X.K modD) := by
  refine OpR.imp op_mod ?_
  rintro x y H Q ⟨G, d, e, r, sub, hd, he, h, k⟩
  unfold modD at h
  split at h
  · split at h
    · rename_i hz
      cases h
      rw [bo_int hd, bo_int he]
      exact ⟨_, _, rfl, rfl, hz, k _ G H (Xt.refl sub) (.int _)⟩
    · cases h
  · cases h
def divD : Op2
  | .int i, .int j => if 0 < j ∧ j < 1073741824 then some (.int (i / j)) else none
  | _, _ => none
theorem op_divD : OpR X (binaryOp .FloorDiv) (rOp X.w X.K divD) := by
  refine OpR.imp op_fdiv ?_
  rintro x y H Q ⟨G, d, e, r, sub, hd, he, h, k⟩
  unfold divD at h
  split at h
  · split at h
    · rename_i hz
      cases h
      rw [bo_int hd, bo_int he]
      exact ⟨_, _, rfl, rfl, hz, k _ G H (Xt.refl sub) (.int _)⟩
    · cases h
  · cases h
def powD : Op2
  | .int i, .int j => if 0 ≤ j ∧ j ≤ 1000000 ∧ i.natAbs < 2 ^ 64 then some (.int (i ^ j.toNat)) else none
  | _, _ => none
theorem op_powD : OpR X (binaryOp .Pow) (rOp X.w X.K powD) := by
  refine OpR.imp op_pow ?_
  rintro x y H Q ⟨G, d, e, r, sub, hd, he, h, k⟩
  unfold powD at h
  split at h
  · split at h
    · rename_i hz
      cases h
      rw [bo_int hd, bo_int he]
      exact ⟨_, _, rfl, rfl, hz, k _ G H (Xt.refl sub) (.int _)⟩
    · cases h
  · cases h
def ltD : Op2
  | .int i, .int j => some (.bool (decide (i < j)))
  | _, _ => none
def leD : Op2
  | .int i, .int j => some (.bool (decide (i ≤ j)))
  | _, _ => none
def gtD : Op2
  | .int i, .int j => some (.bool (decide (j < i)))
  | _, _ => none
def geD : Op2
  | .int i, .int j => some (.bool (decide (j ≤ i)))
  | _, _ => none
theorem op_ltD : OpR X (compareOp .Lt) (rOp X.w X.K ltD) := by
  refine OpR.imp op_lt ?_
  rintro x y H Q ⟨G, d, e, r, sub, hd, he, h, k⟩
  unfold ltD at h
  split at h
  · cases h
    rw [bo_int hd, bo_int he]
    exact ⟨_, _, rfl, rfl, k _ G H (Xt.refl sub) (.bl _)⟩
  · cases h
theorem op_leD : OpR X (compareOp .LtE) (rOp X.w X.K leD) := by
  refine OpR.imp op_le ?_
  rintro x y H Q ⟨G, d, e, r, sub, hd, he, h, k⟩
  unfold leD at h
  split at h
  · cases h
    rw [bo_int hd, bo_int he]
    exact ⟨_, _, rfl, rfl, k _ G H (Xt.refl sub) (.bl _)⟩
  · cases h
theorem op_gtD : OpR X (compareOp .Gt) (rOp X.w X.K gtD) := by
  refine OpR.imp op_gt ?_
  rintro x y H Q ⟨G, d, e, r, sub, hd, he, h, k⟩
  unfold gtD at h
  split at h
  · cases h
    rw [bo_int hd, bo_int he]
    exact ⟨_, _, rfl, rfl, k _ G H (Xt.refl sub) (.bl _)⟩
  · cases h
theorem op_geD : OpR X (compareOp .GtE) (rOp X.w X.K geD) := by
  refine OpR.imp op_ge ?_
  rintro x y H Q ⟨G, d, e, r, sub, hd, he, h, k⟩
  unfold geD at h
  split at h
  · cases h
    rw [bo_int hd, bo_int he]
    exact ⟨_, _, rfl, rfl, k _ G H (Xt.refl sub) (.bl _)⟩
  · cases h
/-- == : texts as they are; else data -/
def eqD : Op2
  | .str x, .str y => some (.bool (decide (x = y)))
  | d, e => if (SeqAt.shaped d && SeqAt.shaped e) = true then some (.bool (PyData.eqv d e)) else none
def neD : Op2
  | .str x, .str y => some (.bool (!decide (x = y)))
  | d, e => if (SeqAt.shaped d && SeqAt.shaped e) = true then some (.bool (!PyData.eqv d e)) else none
theorem lay_of {d : PyData} (h : SeqAt.shaped d = true) : d.canLay0 = true := by
  unfold SeqAt.shaped at h
  rw [Bool.and_eq_true] at h
  exact h.1
theorem op_eqDD (hu : X.A.units + 64 < cLine) : OpR X (compareOp .Eq) (rOp X.w X.K eqD) := by
  refine OpR.imp (op_eq.or (op_eqD hu)) ?_
  rintro x y H Q ⟨G, d, e, r, sub, hd, he, h, k⟩
  unfold eqD at h
  split at h
  · cases h
    rw [bo_str hd, bo_str he]
    refine .inl ⟨rfl, ?_⟩
    have z := k _ G H (Xt.refl sub) (.bl _)
    rename_i a b
    have ee : decide (V.str a = V.str b) = decide (a = b) := by
      by_cases q : a = b
      · subst q; simp
      · rw [decide_eq_false q]; exact decide_eq_false fun w => q (V.str.inj w)
    rw [ee]
    exact z
  · split at h
    · rename_i hz
      cases h
      rw [Bool.and_eq_true] at hz
      exact .inr ⟨_, _, bo_dp hd sub (lay_of hz.1), bo_dp he sub (lay_of hz.2), hz.1, hz.2, k _ G H (Xt.refl sub) (.bl _)⟩
    · cases h
theorem op_neDD (hu : X.A.units + 64 < cLine) : OpR X (compareOp .NotEq) (rOp X.w X.K neD) := by
  refine OpR.imp (op_ne.or (op_neD hu)) ?_
  rintro x y H Q ⟨G, d, e, r, sub, hd, he, h, k⟩
  unfold neD at h
  split at h
  · cases h
    rw [bo_str hd, bo_str he]
    refine .inl ⟨rfl, ?_⟩
    have z := k _ G H (Xt.refl sub) (.bl _)
    rename_i a b
    have ee : decide (V.str a = V.str b) = decide (a = b) := by
      by_cases q : a = b
      · subst q; simp
      · rw [decide_eq_false q]; exact decide_eq_false fun w => q (V.str.inj w)
    rw [ee]
    exact z
  · split at h
    · rename_i hz
      cases h
      rw [Bool.and_eq_true] at hz
      exact .inr ⟨_, _, bo_dp hd sub (lay_of hz.1), bo_dp he sub (lay_of hz.2), hz.1, hz.2, k _ G H (Xt.refl sub) (.bl _)⟩
    · cases h
def isNon : PyData → Bool
  | .none => true | _ => false
def isNoneD : Op2
  | d, .none => some (.bool (isNon d))
  | _, _ => none
def isNotD : Op2
  | d, .none => some (.bool (!isNon d))
  | _, _ => none
theorem da_non {ww : World} {K : PySem.W.Frag} {G H : Hp} {v : V} {d : PyData} (h : Bo ww K G H v d) : decide (v = V.non) = isNon d := by
  rcases h with h | ⟨p, xs, ds, rfl, rfl, _⟩
  · cases h <;> simp [isNon]
  · simp [isNon]
  · rename_i h
    obtain ⟨p, xs, ps, q, rfl, rfl, _⟩ := h
    simp [isNon]
theorem op_isD : OpR X (compareOp .Is) (rOp X.w X.K isNoneD) := by
  refine OpR.imp op_isN ?_
  rintro x y H Q ⟨G, d, e, r, sub, hd, he, h, k⟩
  unfold isNoneD at h
  split at h
  · cases h
    refine ⟨bo_non he, ?_⟩
    rw [da_non hd]
    exact k _ G H (Xt.refl sub) (.bl _)
  · cases h
theorem op_isNotD : OpR X (compareOp .IsNot) (rOp X.w X.K isNotD) := by
  refine OpR.imp op_notN ?_
  rintro x y H Q ⟨G, d, e, r, sub, hd, he, h, k⟩
  unfold isNotD at h
  split at h
  · cases h
    refine ⟨bo_non he, ?_⟩
    rw [da_non hd]
    exact k _ G H (Xt.refl sub) (.bl _)
  · cases h
def flatD : PyData → Bool
  | .none => true | .bool _ => true | .int _ => true | .str _ => true | _ => false
theorem flat_of {K : PySem.W.Frag} {G : Hp} {v : V} {d : PyData} (h : Da K G v d) (f : flatD d = true) : flatV v = true := by
  cases h <;> first | rfl | cases f
theorem flats_of {K : PySem.W.Frag} {G : Hp} : ∀ {ds : List PyData} {vs : List V}, DaA K G vs ds → ds.all flatD = true → vs.all flatV = true
  | [], _, h, _ => by cases h; rfl
  | d :: ds, _, h, f => by
    cases h with
    | cons h1 h2 =>
      rw [List.all_cons, Bool.and_eq_true] at f ⊢
      exact ⟨flat_of h1 f.1, flats_of h2 f.2⟩
theorem eqV_of {K : PySem.W.Frag} {G : Hp} {v u : V} {d e : PyData} (h : Da K G v d) (g : Da K G u e) (f : flatD d = true) (f' : flatD e = true) : eqV v u = PyData.eqv d e := by
  cases h with
  | non => cases g <;> first | rfl | cases f' | simp [eqV, PyData.eqv]
  | bl b => cases g <;> first | rfl | cases f' | simp [eqV, PyData.eqv]
  | int b => cases g <;> first | rfl | cases f' | simp [eqV, PyData.eqv]
  | str b => cases g <;> first | rfl | cases f' | simp [eqV, PyData.eqv]
  | lst => cases f
  | tup => cases f
  | dic => cases f
  | fn => cases f
  | glo => cases f
  | dct => cases f
theorem inV_of {K : PySem.W.Frag} {G : Hp} {v : V} {d : PyData} (h : Da K G v d) (f : flatD d = true) : ∀ {ds : List PyData} {vs : List V}, DaA K G vs ds → ds.all flatD = true → inV v vs = ds.any fun z => PyData.eqv z d
  | [], _, h, _ => by cases h; rfl
  | e :: ds, _, h', f' => by
    cases h' with
    | cons h1 h2 =>
      rw [List.all_cons, Bool.and_eq_true] at f'
      show (eqV _ v || inV v _) = (PyData.eqv e d || ds.any fun z => PyData.eqv z d)
      rw [eqV_of h1 h f'.1 f, inV_of h f h2 f'.2]
def memD (d : PyData) (ds : List PyData) : Bool := ds.any fun z => PyData.eqv z d
def inD : Op2
  | d, .list ds => if (flatD d && ds.all flatD) = true then some (.bool (memD d ds)) else if (SeqAt.shaped d && SeqAt.shaped (.list ds)) = true then some (.bool (memD d ds)) else none
  | d, .tuple ds => if (flatD d && ds.all flatD) = true then some (.bool (memD d ds)) else none
  | .str x, .str y => some (.bool (!(Builtin.Str.occurrences y x 0 y.length 1).isEmpty))
  | .tuple ks, .dict ((.none, _) :: ps) => match keyD (.tuple ks) with
    | some k => if decide (NestedKey.depth k ≤ 8) = true then some (.bool (kGet (undict ps) k).isSome) else none
    | none => none
  | _, _ => none
def notInD : Op2
  | d, .list ds => if (flatD d && ds.all flatD) = true then some (.bool (!memD d ds)) else if (SeqAt.shaped d && SeqAt.shaped (.list ds)) = true then some (.bool (!memD d ds)) else none
  | d, .tuple ds => if (flatD d && ds.all flatD) = true then some (.bool (!memD d ds)) else none
  | .str x, .str y => some (.bool (!(!(Builtin.Str.occurrences y x 0 y.length 1).isEmpty)))
  | .tuple ks, .dict ((.none, _) :: ps) => match keyD (.tuple ks) with
    | some k => if decide (NestedKey.depth k ≤ 8) = true then some (.bool (!(kGet (undict ps) k).isSome)) else none
    | none => none
  | _, _ => none
theorem bo_flat {ww : World} {K : PySem.W.Frag} {G H : Hp} {v : V} {d : PyData} (h : Bo ww K G H v d) (f : flatD d = true) : Da K G v d := by
  rcases h with h | ⟨p, xs, ds, rfl, rfl, _⟩ | ⟨p, xs, ps, q, rfl, rfl, _⟩
  · exact h
  · cases f
  · cases f
theorem op_inDD (hu : X.A.units + 65 < cLine) : OpR X (compareOp .In) (rOp X.w X.K inD) := by
  refine OpR.imp (op_in_seq.or ((op_inD hu).or (op_in_str.or (op_inK (by omega))))) ?_
  rintro x y H Q ⟨G, d, e, r, sub, hd, he, h, k⟩
  unfold inD at h
  split at h
  · rename_i ds
    split at h
    · rename_i hz
      cases h
      rw [Bool.and_eq_true] at hz
      obtain ⟨p, xs, rfl, hp, ha⟩ := bo_list he sub
      have dd := bo_flat hd hz.1
      refine .inl ⟨p, xs, rfl, .inl (.inl (.inl hp)), flat_of dd hz.1, flats_of ha hz.2, ?_⟩
      have z := k _ G H (Xt.refl sub) (.bl _)
      show Q (.bl (inV x xs)) H
      rw [inV_of dd hz.1 ha hz.2]
      exact z
    · split at h
      · rename_i hz
        cases h
        rw [Bool.and_eq_true] at hz
        exact .inr (.inl ⟨_, _, bo_dp hd sub (lay_of hz.1), bo_dp he sub (lay_of hz.2), hz.1, hz.2, k _ G H (Xt.refl sub) (.bl _)⟩)
      · cases h
  · rename_i ds
    split at h
    · rename_i hz
      cases h
      rw [Bool.and_eq_true] at hz
      obtain ⟨p, xs, rfl, hp, ha⟩ := bo_tup he
      have dd := bo_flat hd hz.1
      refine .inl ⟨p, xs, rfl, .inr ((hp.same sub).sq), flat_of dd hz.1, flats_of ha hz.2, ?_⟩
      have z := k _ G H (Xt.refl sub) (.bl _)
      show Q (.bl (inV x xs)) H
      rw [inV_of dd hz.1 ha hz.2]
      exact z
    · cases h
  · cases h
    rw [bo_str hd, bo_str he]
    exact .inr (.inr (.inl ⟨_, _, rfl, rfl, k _ G H (Xt.refl sub) (.bl _)⟩))
  · split at h
    · rename_i k' ek
      split at h
      · rename_i hz
        cases h
        obtain ⟨a, rfl, ka⟩ := bo_key hd ek (of_decide_eq_true hz)
        obtain ⟨p, xs, rfl, hp, hx⟩ := bo_dic he
        refine .inr (.inr (.inr ⟨G, a, p, k', xs, _, rfl, rfl, sub, ka, .inl hp, hx, ?_⟩))
        rw [Bool.false_xor]
        exact k _ G H (Xt.refl sub) (.bl _)
      · cases h
    · cases h
  · cases h
theorem op_notInDD (hu : X.A.units + 65 < cLine) : OpR X (compareOp .NotIn) (rOp X.w X.K notInD) := by
  refine OpR.imp (op_notIn_seq.or ((op_notInD hu).or (op_notIn_str.or (op_notInK (by omega))))) ?_
  rintro x y H Q ⟨G, d, e, r, sub, hd, he, h, k⟩
  unfold notInD at h
  split at h
  · rename_i ds
    split at h
    · rename_i hz
      cases h
      rw [Bool.and_eq_true] at hz
      obtain ⟨p, xs, rfl, hp, ha⟩ := bo_list he sub
      have dd := bo_flat hd hz.1
      refine .inl ⟨p, xs, rfl, .inl (.inl (.inl hp)), flat_of dd hz.1, flats_of ha hz.2, ?_⟩
      have z := k _ G H (Xt.refl sub) (.bl _)
      show Q (.bl (!inV x xs)) H
      rw [inV_of dd hz.1 ha hz.2]
      exact z
    · split at h
      · rename_i hz
        cases h
        rw [Bool.and_eq_true] at hz
        exact .inr (.inl ⟨_, _, bo_dp hd sub (lay_of hz.1), bo_dp he sub (lay_of hz.2), hz.1, hz.2, k _ G H (Xt.refl sub) (.bl _)⟩)
      · cases h
  · rename_i ds
    split at h
    · rename_i hz
      cases h
      rw [Bool.and_eq_true] at hz
      obtain ⟨p, xs, rfl, hp, ha⟩ := bo_tup he
      have dd := bo_flat hd hz.1
      refine .inl ⟨p, xs, rfl, .inr ((hp.same sub).sq), flat_of dd hz.1, flats_of ha hz.2, ?_⟩
      have z := k _ G H (Xt.refl sub) (.bl _)
      show Q (.bl (!inV x xs)) H
      rw [inV_of dd hz.1 ha hz.2]
      exact z
    · cases h
  · cases h
    rw [bo_str hd, bo_str he]
    exact .inr (.inr (.inl ⟨_, _, rfl, rfl, k _ G H (Xt.refl sub) (.bl _)⟩))
  · split at h
    · rename_i k' ek
      split at h
      · rename_i hz
        cases h
        obtain ⟨a, rfl, ka⟩ := bo_key hd ek (of_decide_eq_true hz)
        obtain ⟨p, xs, rfl, hp, hx⟩ := bo_dic he
        refine .inr (.inr (.inr ⟨G, a, p, k', xs, _, rfl, rfl, sub, ka, .inl hp, hx, ?_⟩))
        rw [Bool.true_xor]
        exact k _ G H (Xt.refl sub) (.bl _)
      · cases h
    · cases h
  · cases h
def ixD : Op2
  | .list ds, .int i => atI ds i
  | .tuple ds, .int i => atI ds i
  | .str z, .int i => if fits z.length = true then (atI z.cps.toList i).map fun c => .str ⟨#[c]⟩ else none
  | _, _ => none
theorem atI_len {α β : Type} {xs : List α} {ds : List β} {i : Int} {d : β} (e : xs.length = ds.length) (h : atI ds i = some d) : ∃ j : Nat, ds[j]? = some d ∧ ∀ v, xs[j]? = some v → atI xs i = some v := by
  unfold atI at h ⊢
  rw [e]
  cases q : ixN ds.length i with
  | none => rw [q] at h; cases h
  | some j => rw [q] at h; exact ⟨j, h, fun v hv => hv⟩
theorem ix_D : IxR X (rOp X.w X.K ixD) := by
  refine IxR.imp ix_seq ?_
  rintro x y H Q ⟨G, d, e, r, sub, hd, he, h, k⟩
  unfold ixD at h
  split at h
  · obtain ⟨p, xs, rfl, hp, ha⟩ := bo_list hd sub
    rw [bo_int he]
    obtain ⟨j, e1, e2⟩ := atI_len ha.len h
    obtain ⟨v, ev, hv⟩ := ha.get e1
    exact .inl ⟨p, xs, _, v, rfl, rfl, .inl (.inl hp), e2 v ev, k v G H (Xt.refl sub) hv⟩
  · obtain ⟨p, xs, rfl, hp, ha⟩ := bo_tup hd
    rw [bo_int he]
    obtain ⟨j, e1, e2⟩ := atI_len ha.len h
    obtain ⟨v, ev, hv⟩ := ha.get e1
    exact .inr (.inl ⟨p, xs, _, v, rfl, rfl, (hp.same sub).sq, e2 v ev, k v G H (Xt.refl sub) hv⟩)
  · split at h
    · rename_i hz
      rw [bo_str hd, bo_int he]
      cases q : atI (_ : Str).cps.toList _ with
      | none => rw [q] at h; cases h
      | some c =>
        rw [q] at h
        cases h
        exact .inr (.inr ⟨_, _, c, rfl, rfl, fits_le hz, q, k _ G H (Xt.refl sub) (.str _)⟩)
    · cases h
  · cases h
end
end DL
namespace DL
open PySem PySem.Spec PyProof.Rows L2 GX StX
variable [DL.FT]
section
variable {X : Cx}
def lNil : LF := fun ρ => some ([], ρ)
def lCons (f : EF) (g : LF) : LF := fun ρ => match f ρ with
  | none => none
  | some (d, ρ1) => match g ρ1 with
    | none => none
    | some (ds, ρ2) => some (d :: ds, ρ2)
def lStar (f : EF) (g : LF) : LF := fun ρ => match f ρ with
  | some (.tuple es, ρ1) => match g ρ1 with
    | none => none
    | some (ds, ρ2) => some (es ++ ds, ρ2)
  | some (.list es, ρ1) => match g ρ1 with
    | none => none
    | some (ds, ρ2) => some (es ++ ds, ρ2)
  | _ => none
theorem dls_nil : DLs X [] lNil := by
  refine pa_imp pa_nil ?_
  rintro σ H Q ⟨G, ρ, ρ', ds, R, hf, k⟩
  cases hf
  exact k [] G H R (Sx.refl _ _ _ _) .nil
theorem dls_cons {e : Expr} {es : List Expr} {f : EF} {g : LF} (h : DE X e f) (hs : DLs X es g) (st : starEach (e :: es) X.env = (false, eval e X.env) :: starEach es X.env := by rfl) : DLs X (e :: es) (lCons f g) := by
  refine pa_imp (pa_cons h hs st) ?_
  rintro σ H Q ⟨G, ρ, ρ', ds, R, hf, k⟩
  unfold lCons at hf
  split at hf
  · cases hf
  · rename_i d ρ1 h1
    split at hf
    · cases hf
    · rename_i es' ρ2 h2
      cases hf
      exact ⟨G, ρ, ρ1, d, R, h1, fun v G1 H1 R1 s1 q1 => ⟨G1, ρ1, _, es', R1, h2, fun vs G2 H2 R2 s2 q2 => k _ G2 H2 R2 (s1.trans s2) (.cons (q1.same s2.gr) q2)⟩⟩
theorem dls_star {e : Expr} {es : List Expr} {f : EF} {g : LF} {p : Pos} (h : DE X e f) (hs : DLs X es g) (st : starEach (.Starred e p :: es) X.env = (true, eval e X.env) :: starEach es X.env := by rfl) : DLs X (.Starred e p :: es) (lStar f g) := by
  refine pa_imp (pa_star h hs st) ?_
  rintro σ H Q ⟨G, ρ, ρ', ds, R, hf, k⟩
  unfold lStar at hf
  split at hf
  · rename_i es' ρ1 h1
    split at hf
    · cases hf
    · rename_i ds' ρ2 h2
      cases hf
      refine ⟨G, ρ, ρ1, _, R, h1, fun v G1 H1 R1 s1 q1 => ?_⟩
      cases q1 with
      | tup hs ha => exact ⟨_, _, rfl, .inl (hs.same R1.sub).sq, ⟨G1, ρ1, _, ds', R1, h2, fun vs G2 H2 R2 s2 q2 => k _ G2 H2 R2 (s1.trans s2) ((ha.same s2.gr).app q2)⟩⟩
  · rename_i es' ρ1 h1
    split at hf
    · cases hf
    · rename_i ds' ρ2 h2
      cases hf
      refine ⟨G, ρ, ρ1, _, R, h1, fun v G1 H1 R1 s1 q1 => ?_⟩
      cases q1 with
      | lst hs ha => exact ⟨_, _, rfl, .inr (.inl (.inl (R1.sub _ _ hs))), ⟨G1, ρ1, _, ds', R1, h2, fun vs G2 H2 R2 s2 q2 => k _ G2 H2 R2 (s1.trans s2) ((ha.same s2.gr).app q2)⟩⟩
  · cases hf
def fTup (g : LF) : EF := fun ρ => match g ρ with
  | some (ds, ρ') => if fits ds.length = true then some (.tuple ds, ρ') else none
  | none => none
theorem de_tup {es : List Expr} {g : LF} {k : Nat} {pos : Pos} (h : DLs X es g) : DE X (.Tuple es k pos) (fTup g) := by
  refine pe_imp (pe_tupN h) ?_
  rintro σ H Q ⟨G, ρ, ρ', d, R, hf, k⟩
  unfold fTup at hf
  split at hf
  · rename_i ds ρ1 h1
    split at hf
    · rename_i hz
      cases hf
      exact ⟨G, ρ, _, _, R, h1, fun vs G1 H1 R1 s1 q1 => ⟨by rw [q1.len]; exact fits_le hz, fun p o n od => k _ _ _ (R1.ext (Xt.new R1.sub n)) (s1.trans (.ext (Xt.new R1.sub n))) (newT (Same.free R1.sub n) od q1)⟩⟩
    · cases hf
  · cases hf
def lLst (g : LF) : LF := fun ρ => match g ρ with
  | some (ds, ρ') => if fits ds.length = true then some (ds, ρ') else none
  | none => none
theorem noOw {ww : World} {K : PySem.W.Frag} {G H : Hp} {σ : L2.St} {ρ : Rho} {p : Addr} (R : Rl ww K G σ ρ H) (n : H p = none) : ¬ Ow σ ρ p := fun o => by
  obtain ⟨_, e, _⟩ := R.at o
  exact e n
theorem backN {G H G' H' : Hp} {σ σ' : L2.St} {ρ ρ' : Rho} (s : Sx G σ ρ H G' σ' ρ' H') {p : Addr} (n : H' p = none) : H p = none := by
  cases e : H p with
  | none => rfl
  | some o => exact (s.al p (by rw [e]; simp) n).elim
def DN (X : Cx) (e : Expr) (f : LF) : Prop := PE X e (rF X.w X.K f)
def fLst (f : LF) : EF := fun ρ => (f ρ).map fun r => (.list r.1, r.2)
theorem Rl.keepL {ww : World} {K : PySem.W.Frag} {G H : Hp} {σ : L2.St} {ρ : Rho} {p : Addr} {xs : List V} (R : Rl ww K G σ ρ H) (hp : H p = some (.lst xs)) (gp : G p = none) (no : ¬ Ow σ ρ p) : Rl ww K (upd G p (.lst xs)) σ ρ H := by
  have sm : Same G (upd G p (.lst xs)) := fun c o q => by
    by_cases z : c = p
    · rw [z, gp] at q; cases q
    · rw [upd_ne z]; exact q
  refine ⟨R.len, fun c o q => ?_, fun h => ?_, fun {i b ds} h => ?_, R.dis, R.scr, R.tb.step sm fun P ps h1 h2 => ⟨by rw [upd_ne (fun z => by rw [z, hp] at h1; cases h1)]; exact h2, h1⟩⟩
  · by_cases z : c = p
    · rw [z, upd_same] at q
      rw [z, hp]; exact q
    · rw [upd_ne z] at q
      exact R.sub c o q
  · obtain ⟨v, e, d⟩ := R.dat h
    exact ⟨v, e, d.same sm⟩
  · obtain ⟨q, e, eg, d⟩ := R.own h
    have np : ∀ a ∈ reg q ds, a ≠ p := fun a ha z => no ⟨i, b, ds, q, h, e, z ▸ ha⟩
    exact ⟨q, e, fun a ha => by rw [upd_ne (np a ha)]; exact eg a ha, d.step sm fun _ _ => rfl⟩
theorem Sx.keepL {G G' H H' : Hp} {σ σ' : L2.St} {ρ ρ' : Rho} {p : Addr} {o : HO} (s : Sx G σ ρ H G' σ' ρ' H') (n : H p = none) (gp : G' p = none) : Sx G σ ρ H (upd G' p o) σ' ρ' H' := by
  refine ⟨fun c u q => ?_, fun c q => ?_, s.fr, s.ow, s.al, s.par⟩
  · have z := s.gr c u q
    have np : c ≠ p := fun y => by rw [y, gp] at z; cases z
    rw [upd_ne np]
    exact z
  · by_cases z : c = p
    · rw [z]; exact .inr (.inl n)
    · rw [upd_ne z] at q
      exact s.new c q
theorem de_new {e : Expr} {f : LF} (h : DN X e f) : DE X e (fLst f) := by
  refine pe_imp h ?_
  rintro σ H Q ⟨G, ρ, ρ', d, R, hf, k⟩
  unfold fLst at hf
  cases e1 : f ρ with
  | none => rw [e1] at hf; cases hf
  | some r =>
    rw [e1] at hf
    cases hf
    refine ⟨G, ρ, r.2, r.1, R, e1, fun p xs G1 H1 R1 s1 hp gp no n q1 => ?_⟩
    exact k _ _ _ (R1.keepL hp gp no) (s1.keepL n gp) (newL gp q1)
theorem dn_lst {es : List Expr} {g : LF} {pos : Pos} (h : DLs X es g) : DN X (.List es pos) (lLst g) := by
  refine pe_imp (pe_lst h) ?_
  rintro σ H Q ⟨G, ρ, ρ', d, R, hf, k⟩
  unfold lLst at hf
  split at hf
  · rename_i ds ρ1 h1
    split at hf
    · rename_i hz
      cases hf
      refine ⟨G, ρ, _, _, R, h1, fun vs G1 H1 R1 s1 q1 => ⟨by rw [q1.len]; exact fits_le hz, fun p n => ?_⟩⟩
      have x := Xt.more (p := p) (o := .lst vs) R1.sub n
      exact k p vs G1 _ (R1.ext x) (s1.trans (.ext x)) upd_same (Same.free R1.sub n) (noOw R1 n) (backN s1 n) q1
    · cases hf
  · cases hf
abbrev AF := Rho → Option (List Ag × Rho)
def rAs (ww : World) (K : PySem.W.Frag) (f : AF) : TA := fun σ H Q => ∃ G ρ ρ' as, Rl ww K G σ ρ H ∧ f ρ = some (as, ρ') ∧ ∀ vs G' H', Rl ww K G' σ ρ' H' → Sx G σ ρ H G' σ ρ' H' → Paired (AgR K G' σ) as vs → Q vs H'
def DAs (X : Cx) (es : List Expr) (f : AF) : Prop := PA X es (rAs X.w X.K f)
def aNil : AF := fun ρ => some ([], ρ)
def aCons (f : GF) (g : AF) : AF := fun ρ => match f ρ with
  | none => none
  | some (a, ρ1) => match g ρ1 with
    | none => none
    | some (as, ρ2) => some (a :: as, ρ2)
theorem das_nil : DAs X [] aNil := by
  refine pa_imp pa_nil ?_
  rintro σ H Q ⟨G, ρ, ρ', ds, R, hf, k⟩
  cases hf
  exact k [] G H R (Sx.refl _ _ _ _) .nil
theorem das_cons {e : Expr} {es : List Expr} {f : GF} {g : AF} (h : DG X e f) (hs : DAs X es g) (st : starEach (e :: es) X.env = (false, eval e X.env) :: starEach es X.env := by rfl) : DAs X (e :: es) (aCons f g) := by
  refine pa_imp (pa_cons h hs st) ?_
  rintro σ H Q ⟨G, ρ, ρ', ds, R, hf, k⟩
  unfold aCons at hf
  split at hf
  · cases hf
  · rename_i d ρ1 h1
    split at hf
    · cases hf
    · rename_i es' ρ2 h2
      cases hf
      exact ⟨G, ρ, ρ1, d, R, h1, fun v G1 H1 R1 s1 q1 => ⟨G1, ρ1, _, es', R1, h2, fun vs G2 H2 R2 s2 q2 => k _ G2 H2 R2 (s1.trans s2) (.cons (q1.same s2.gr) q2)⟩⟩
def looks (ρ : Rho) : List Ag → Option (List PyData)
  | [] => some []
  | a :: as => match look ρ a, looks ρ as with
    | some d, some ds => some (d :: ds)
    | _, _ => none
theorem looks_bo {ww : World} {K : PySem.W.Frag} {G H : Hp} {σ : L2.St} {ρ : Rho} (R : Rl ww K G σ ρ H) : ∀ {as : List Ag} {vs : List V} {ds : List PyData}, Paired (AgR K G σ) as vs → looks ρ as = some ds → Paired (Bo ww K G H) vs ds
  | [], _, _, h, l => by cases h; cases l; exact .nil
  | a :: as, _, _, h, l => by
    cases h with
    | cons h1 h2 =>
      unfold looks at l
      split at l
      · rename_i d ds e1 e2
        cases l
        exact .cons (look_bo R h1 e1) (looks_bo R h2 e2)
      · cases l
abbrev OpN := List PyData → Option PyData
def rCl (ww : World) (K : PySem.W.Frag) (op : OpN) : List V → Hp → VK → Prop := fun vs H Q => ∃ G ds r, Same G H ∧ Paired (Bo ww K G H) vs ds ∧ op ds = some r ∧ ∀ v G' H', Xt G H G' H' → Da K G' v r → Q v H'
def fCl (op : OpN) (f : AF) : EF := fun ρ => match f ρ with
  | none => none
  | some (as, ρ1) => match looks ρ1 as with
    | none => none
    | some ds => match op ds with
      | none => none
      | some r => some (r, ρ1)
theorem tCB_of {ww : World} {K : PySem.W.Frag} {op : OpN} {f : AF} : ∀ σ H Q, rE ww K (fCl op f) σ H Q → tCB (rCl ww K op) (rAs ww K f) σ H Q := by
  rintro σ H Q ⟨G, ρ, ρ', d, R, hf, k⟩
  unfold fCl at hf
  split at hf
  · cases hf
  · rename_i as ρ1 h1
    split at hf
    · cases hf
    · rename_i ds h2
      split at hf
      · cases hf
      · rename_i r h3
        cases hf
        exact ⟨G, ρ, _, as, R, h1, fun vs G1 H1 R1 s1 q1 => ⟨G1, ds, _, R1.sub, looks_bo R1 q1 h2, h3, fun v G2 H2 x q => k v G2 H2 (R1.ext x) (s1.trans (.ext x)) q⟩⟩
theorem de_callB {e : Expr} {es : List Expr} {x : Str} {id : String} {op : OpN} {f : AF} {p pos : Pos} (hc : CallR X (.builtin id) (rCl X.w X.K op)) (hg : Gl X x) (hm : X.mg x = none) (hv : bootBuiltins x = some (.builtin id)) (ha : DAs X (e :: es) f) (hn : x ≠ "__name__" := by decide)
    (hdb : (x == ("__debug__" : Str)) = false := by decide) (he : starEach (e :: es) X.env = (false, eval e X.env) :: starEach es X.env := by rfl) (hpl : (backTo pos (starEach es X.env)).any (·.1) = false := by rfl) : DE X (.Call (.Name x p) (e :: es) [] pos) (fCl op f) :=
  pe_imp (pe_callB hc hg hm hv ha hn hdb he hpl) tCB_of
theorem de_callTy {e : Expr} {es : List Expr} {x : Str} {T : String} {op : OpN} {f : AF} {p pos : Pos} (hc : CallR X (.type T) (rCl X.w X.K op)) (hg : Gl X x) (hm : X.mg x = none) (hv : bootBuiltins x = some (.type T)) (ha : DAs X (e :: es) f) (hn : x ≠ "__name__" := by decide)
    (hdb : (x == ("__debug__" : Str)) = false := by decide) (he : starEach (e :: es) X.env = (false, eval e X.env) :: starEach es X.env := by rfl) (hpl : (backTo pos (starEach es X.env)).any (·.1) = false := by rfl) : DE X (.Call (.Name x p) (e :: es) [] pos) (fCl op f) :=
  pe_imp (pe_callTy hc hg hm hv ha hn hdb he hpl) tCB_of
theorem CallR.imp {f : Value} {r r' : List V → Hp → VK → Prop} (h : CallR X f r) (i : ∀ xs H Q, r' xs H Q → r xs H Q) : CallR X f r' := fun pins s σ H xs us Q I rx w => h pins s σ H xs us Q I rx (i _ _ _ w)
theorem pair1 {α β : Type} {F : α → β → Prop} {as : List α} {b : β} (h : Paired F as [b]) : ∃ a, as = [a] ∧ F a b := by
  cases h with
  | cons h1 h2 => cases h2; exact ⟨_, rfl, h1⟩
theorem pair2 {α β : Type} {F : α → β → Prop} {as : List α} {b c : β} (h : Paired F as [b, c]) : ∃ a a', as = [a, a'] ∧ F a b ∧ F a' c := by
  cases h with
  | cons h1 h2 =>
    obtain ⟨a', e, h3⟩ := pair1 h2
    subst e
    exact ⟨_, _, rfl, h1, h3⟩
def lenD : OpN
  | [.list ds] => some (.int ds.length)
  | [.tuple ds] => some (.int ds.length)
  | [.str z] => if fits z.length = true then some (.int z.length) else none
  | [.dict ((.none, _) :: ps)] => if fits (undict ps).length = true then some (.int (undict ps).length) else none
  | _ => none
theorem cl_len : CallR X (.builtin "len") (rCl X.w X.K lenD) := by
  refine CallR.imp (L2.CallR.or (L2.CallR.or call_len_seq call_len_str) call_lenK) ?_
  rintro xs H Q ⟨G, ds, r, sub, hd, h, k⟩
  unfold lenD at h
  split at h
  · cases h
    obtain ⟨v, rfl, hv⟩ := pair1 hd
    obtain ⟨p, ys, rfl, hp, ha⟩ := bo_list hv sub
    refine .inl (.inl ⟨p, ys, rfl, .inl (.inl (.inl hp)), ?_⟩)
    rw [ha.len]
    exact k _ G H (Xt.refl sub) (.int _)
  · cases h
    obtain ⟨v, rfl, hv⟩ := pair1 hd
    obtain ⟨p, ys, rfl, hp, ha⟩ := bo_tup hv
    refine .inl (.inl ⟨p, ys, rfl, .inr ((hp.same sub).sq), ?_⟩)
    rw [ha.len]
    exact k _ G H (Xt.refl sub) (.int _)
  · split at h
    · rename_i hz
      cases h
      obtain ⟨v, rfl, hv⟩ := pair1 hd
      rw [bo_str hv]
      exact .inl (.inr ⟨_, rfl, fits_le hz, k _ G H (Xt.refl sub) (.int _)⟩)
    · cases h
  · split at h
    · rename_i hz
      cases h
      obtain ⟨v, rfl, hv⟩ := pair1 hd
      obtain ⟨p, ys, rfl, hp, hx⟩ := bo_dic hv
      exact .inr ⟨G, p, ys, _, rfl, sub, .inl hp, hx, of_decide_eq_true hz, k _ G H (Xt.refl sub) (.int _)⟩
    · cases h
  · cases h
def intD : OpN
  | [.int i] => some (.int i)
  | [.bool b] => some (.int (if b then 1 else 0))
  | _ => none
theorem cl_int : CallR X (.type "int") (rCl X.w X.K intD) := by
  refine CallR.imp call_int1 ?_
  rintro xs H Q ⟨G, ds, r, sub, hd, h, k⟩
  unfold intD at h
  split at h
  · cases h
    obtain ⟨v, rfl, hv⟩ := pair1 hd
    rw [bo_int hv]
    exact .inl ⟨_, rfl, k _ G H (Xt.refl sub) (.int _)⟩
  · cases h
    obtain ⟨v, rfl, hv⟩ := pair1 hd
    rw [bo_bool hv]
    exact .inr ⟨_, rfl, k _ G H (Xt.refl sub) (.int _)⟩
  · cases h
def absD : OpN
  | [.int i] => some (.int (if i < 0 then -i else i))
  | _ => none
theorem cl_abs : CallR X (.builtin "abs") (rCl X.w X.K absD) := by
  refine CallR.imp call_abs ?_
  rintro xs H Q ⟨G, ds, r, sub, hd, h, k⟩
  unfold absD at h
  split at h
  · cases h
    obtain ⟨v, rfl, hv⟩ := pair1 hd
    rw [bo_int hv]
    exact ⟨_, rfl, k _ G H (Xt.refl sub) (.int _)⟩
  · cases h
def divmodD : OpN
  | [.int i, .int j] => if 0 < j ∧ j < 1073741824 then some (.tuple [.int (i / j), .int (i % j)]) else none
  | _ => none
theorem cl_divmod : CallR X (.builtin "divmod") (rCl X.w X.K divmodD) := by
  refine CallR.imp call_dmN ?_
  rintro xs H Q ⟨G, ds, r, sub, hd, h, k⟩
  unfold divmodD at h
  split at h
  · split at h
    · rename_i hz
      cases h
      obtain ⟨v, u, rfl, hv, hu⟩ := pair2 hd
      rw [bo_int hv, bo_int hu]
      exact ⟨_, _, rfl, hz, fun p o n od => k _ _ _ (Xt.new sub n) (newT (Same.free sub n) od (.cons (.int _) (.cons (.int _) .nil)))⟩
    · cases h
  · cases h
def tupleD : OpN
  | [.list ds] => some (.tuple ds)
  | [.tuple ds] => some (.tuple ds)
  | _ => none
theorem cl_tuple : CallR X (.type "tuple") (rCl X.w X.K tupleD) := by
  refine CallR.imp call_tupN ?_
  rintro xs H Q ⟨G, ds, r, sub, hd, h, k⟩
  unfold tupleD at h
  split at h
  · cases h
    obtain ⟨v, rfl, hv⟩ := pair1 hd
    obtain ⟨p, ys, rfl, hp, ha⟩ := bo_list hv sub
    exact ⟨p, ys, rfl, .inl ⟨.inl (.inl hp), fun l o n od => k _ _ _ (Xt.new sub n) (newT (Same.free sub n) od ha)⟩⟩
  · cases h
    obtain ⟨v, rfl, hv⟩ := pair1 hd
    obtain ⟨p, ys, rfl, hp, ha⟩ := bo_tup hv
    exact ⟨p, ys, rfl, .inr ⟨(hp.same sub).sq, k _ G H (Xt.refl sub) (.tup hp ha)⟩⟩
  · cases h
def intsOf : List PyData → Option (List Int)
  | [] => some []
  | .int i :: ds => match intsOf ds with
    | some is => some (i :: is)
    | none => none
  | _ :: _ => none
theorem intsOf_eq : ∀ {ds : List PyData} {ns : List Int}, intsOf ds = some ns → ds = ns.map PyData.int
  | [], _, h => by cases h; rfl
  | d :: ds, ns, h => by
    unfold intsOf at h
    split at h
    · rename_i heq
      cases heq
    · rename_i i ds' heq
      cases heq
      split at h
      · rename_i is e
        cases h
        rw [intsOf_eq e]
        rfl
      · cases h
    · cases h
def boolsOf : List PyData → Option (List Bool)
  | [] => some []
  | .bool i :: ds => match boolsOf ds with
    | some is => some (i :: is)
    | none => none
  | _ :: _ => none
theorem boolsOf_eq : ∀ {ds : List PyData} {ns : List Bool}, boolsOf ds = some ns → ds = ns.map PyData.bool
  | [], _, h => by cases h; rfl
  | d :: ds, ns, h => by
    unfold boolsOf at h
    split at h
    · rename_i heq
      cases heq
    · rename_i i ds' heq
      cases heq
      split at h
      · rename_i is e
        cases h
        rw [boolsOf_eq e]
        rfl
      · cases h
    · cases h
def sumD : OpN
  | [.list ds] => match intsOf ds with
    | some ns => some (.int ns.sum)
    | none => none
  | _ => none
theorem cl_sum (hc : X.calm = true) : CallR X (.builtin "sum") (rCl X.w X.K sumD) := by
  refine CallR.imp (cr_sum hc) ?_
  rintro xs H Q ⟨G, ds, r, sub, hd, h, k⟩
  unfold sumD at h
  split at h
  · split at h
    · rename_i ds' ns e
      cases h
      obtain ⟨v, rfl, hv⟩ := pair1 hd
      obtain ⟨p, ys, rfl, hp, ha⟩ := bo_list hv sub
      rw [intsOf_eq e] at ha
      rw [ha.ints] at hp
      exact ⟨p, ns, rfl, .inl (.inl hp), k _ G H (Xt.refl sub) (.int _)⟩
    · cases h
  · cases h
def allD : OpN
  | [.list ds] => match boolsOf ds with
    | some ns => some (.bool (ns.all id))
    | none => none
  | _ => none
theorem cl_all (hc : X.calm = true) : CallR X (.builtin "all") (rCl X.w X.K allD) := by
  refine CallR.imp (cr_all hc) ?_
  rintro xs H Q ⟨G, ds, r, sub, hd, h, k⟩
  unfold allD at h
  split at h
  · split at h
    · rename_i ds' ns e
      cases h
      obtain ⟨v, rfl, hv⟩ := pair1 hd
      obtain ⟨p, ys, rfl, hp, ha⟩ := bo_list hv sub
      rw [boolsOf_eq e] at ha
      rw [ha.bls] at hp
      exact ⟨p, ns, rfl, .inl (.inl hp), k _ G H (Xt.refl sub) (.bl _)⟩
    · cases h
  · cases h
def min2D : OpN
  | [.int i, .int j] => some (.int (if j < i then j else i))
  | _ => none
theorem cl_min2 (hc : X.calm = true) : CallR X (.builtin "min") (rCl X.w X.K min2D) := by
  refine CallR.imp (call_min2 hc) ?_
  rintro xs H Q ⟨G, ds, r, sub, hd, h, k⟩
  unfold min2D at h
  split at h
  · cases h
    obtain ⟨v, u, rfl, hv, hu⟩ := pair2 hd
    rw [bo_int hv, bo_int hu]
    exact ⟨_, _, rfl, k _ G H (Xt.refl sub) (.int _)⟩
  · cases h
def OF := Rho → Option (Option Int × Rho)
def rO (ww : World) (K : PySem.W.Frag) (f : OF) : TO := fun σ H Q => ∃ G ρ ρ' o, Rl ww K G σ ρ H ∧ f ρ = some (o, ρ') ∧ ∀ G' H', Rl ww K G' σ ρ' H' → Sx G σ ρ H G' σ ρ' H' → Q o H'
def DO (X : Cx) (e : Option Expr) (f : OF) : Prop := PO X e (rO X.w X.K f)
theorem po_imp {e : Option Expr} {t t' : TO} (h : PO X e t) (i : ∀ σ H Q, t' σ H Q → t σ H Q) : PO X e t' := ⟨fun pins s σ H Q I w => h.run pins s σ H Q I (i _ _ _ w)⟩
def oNone : OF := fun ρ => some (none, ρ)
def oSome (f : EF) : OF := fun ρ => match f ρ with
  | some (.int i, ρ') => some (some i, ρ')
  | _ => none
theorem do_none : DO X none oNone := by
  refine po_imp po_none ?_
  rintro σ H Q ⟨G, ρ, ρ', o, R, hf, k⟩
  cases hf
  exact k G H R (Sx.refl _ _ _ _)
theorem do_some {e : Expr} {f : EF} (h : DE X e f) : DO X (some e) (oSome f) := by
  refine po_imp (po_some h) ?_
  rintro σ H Q ⟨G, ρ, ρ', o, R, hf, k⟩
  unfold oSome at hf
  split at hf
  · rename_i i ρ1 h1
    cases hf
    refine ⟨G, ρ, _, .int i, R, h1, fun v G1 H1 R1 s1 q1 => ?_⟩
    cases q1
    exact ⟨i, rfl, k G1 H1 R1 s1⟩
  · cases hf
def cutL (ds : List PyData) (lo hi : Option Int) : List PyData := (ds.drop (HT.sIx ds.length 0 lo)).take (HT.sIx ds.length ds.length hi - HT.sIx ds.length 0 lo)
def sliceD (d : PyData) (lo hi : Option Int) : Option PyData := match d with
  | .list ds => some (.list (cutL ds lo hi))
  | .tuple ds => some (.tuple (cutL ds lo hi))
  | _ => none
def fSl (f : GF) (l h : OF) : EF := fun ρ => match f ρ with
  | none => none
  | some (a, ρ1) => match l ρ1 with
    | none => none
    | some (lo, ρ2) => match h ρ2 with
      | none => none
      | some (hi, ρ3) => match look ρ3 a with
        | none => none
        | some d => match sliceD d lo hi with
          | none => none
          | some r => some (r, ρ3)
theorem SlR.imp {r r' : V → Option Int → Option Int → Hp → VK → Prop} (h : SlR X r) (i : ∀ x lo hi H Q, r' x lo hi H Q → r x lo hi H Q) : SlR X r' := fun pins s σ H x v vl vu lo hi sl Q I rx hs pl pu w => h pins s σ H x v vl vu lo hi sl Q I rx hs pl pu (i _ _ _ _ _ w)
theorem cut_whole {α : Type} {ds : List α} {lo hi : Option Int} (h : HT.sIx ds.length 0 lo = 0 ∧ HT.sIx ds.length ds.length hi = ds.length) : (ds.drop (HT.sIx ds.length 0 lo)).take (HT.sIx ds.length ds.length hi - HT.sIx ds.length 0 lo) = ds := by
  rw [h.1, h.2, Nat.sub_zero, List.drop_zero, List.take_length]
theorem de_slice {e : Expr} {lo hi : Option Expr} {f : GF} {l h : OF} {p2 pos : Pos} (he : DG X e f) (hl : DO X lo l) (hh : DO X hi h) : DE X (.Subscript e (.Slice lo hi none p2) pos) (fSl f l h) := by
  refine pe_imp (pe_slice (L2.SlR.or sl_list sl_N) he hl hh) ?_
  rintro σ H Q ⟨G, ρ, ρ', d, R, hf, k⟩
  unfold fSl at hf
  split at hf
  · cases hf
  · rename_i a ρ1 h1
    split at hf
    · cases hf
    · rename_i lo' ρ2 h2
      split at hf
      · cases hf
      · rename_i hi' ρ3 h3
        split at hf
        · cases hf
        · rename_i da h4
          split at hf
          · cases hf
          · rename_i r h5
            cases hf
            refine ⟨G, ρ, ρ1, a, R, h1, fun v G1 H1 R1 s1 q1 => ⟨G1, ρ1, ρ2, lo', R1, h2, fun G2 H2 R2 s2 => ⟨G2, ρ2, _, hi', R2, h3, fun G3 H3 R3 s3 => ?_⟩⟩⟩
            have bo := look_bo R3 ((q1.same s2.gr).same s3.gr) h4
            have st := (s1.trans s2).trans s3
            unfold sliceD at h5
            split at h5
            · cases h5
              obtain ⟨p, xs, rfl, hp, ha⟩ := bo_list bo R3.sub
              exact .inl ⟨p, xs, rfl, .inl (.inl hp), fun t n => k _ _ _ (R3.ext (Xt.new R3.sub n)) (st.trans (.ext (Xt.new R3.sub n))) (newL (Same.free R3.sub n) (ha.cutV _ _))⟩
            · cases h5
              rename_i ds
              obtain ⟨p, xs, rfl, hp, ha⟩ := bo_tup bo
              refine .inr ⟨p, xs, rfl, (hp.same R3.sub).sq, fun z => ?_, fun _ t o n od => k _ _ _ (R3.ext (Xt.new R3.sub n)) (st.trans (.ext (Xt.new R3.sub n))) (newT (Same.free R3.sub n) od (ha.cutV _ _))⟩
              rw [ha.len] at z
              have e1 : cutL ds lo' hi' = ds := cut_whole z
              rw [e1] at k
              exact k _ _ _ R3 st (.tup hp ha)
            · cases h5
end
end DL
namespace DL
open PySem PySem.Spec PyProof.Rows L2 GX StX
variable [DL.FT]
section
variable {X : Cx}
/-- the value is of that type, a tuple too -/
def TyM (K : PySem.W.Frag) (T : String) (x : V) (H : Hp) : Prop := tyV K T x H ∨ (T = "tuple" ∧ ∃ p xs, x = .ref p ∧ TpN K H p xs) ∨ (T = "dict" ∧ ∃ ww p xs, x = .ref p ∧ H p = some (.ext (DicP ww p xs)))
theorem tyM_is {pins : List (Addr × Obj)} {σ : L2.St} {H : Hp} {s : Shared} {T : String} {x : V} {v : Value} (I : Inv X pins σ H s) (r : RelV x v) (ty : TyM X.K T x H) :
    s.TypeIs v T ∧ ∀ a, v = .ref a → ∃ ob, s.heap.get? a = some ob ∧ ob.dict = none := by
  rcases ty with ty | ⟨rfl, p, xs, rfl, ty⟩ | ⟨rfl, ww, p, xs, rfl, ty⟩
  · exact tyV_is I r ty
  · obtain rfl : v = Value.ref p := r
    rcases ty with ⟨o, h, d⟩ | ⟨o, its, m, h1, h2, h3, _⟩
    · obtain ⟨e, _, us, _, o2, e2, c, _⟩ := I.hok p _ h
      rw [e] at e2
      cases e2
      exact ⟨⟨_, e, c⟩, fun a q => by cases q; exact ⟨_, e, d⟩⟩
    · have e := I.kIn p o h1
      exact ⟨⟨_, e, h2⟩, fun a q => by cases q; exact ⟨_, e, h3⟩⟩
  · obtain rfl : v = Value.ref p := r
    obtain ⟨⟨_, ys, _, o, es, ep, e, c, _⟩, _⟩ := I.hok p _ ty
    exact ⟨⟨o, e, c.1⟩, fun a q => by cases q; exact ⟨o, e, c.2.1⟩⟩
def tMe (K : PySem.W.Frag) (T : String) (r : V → List V → Hp → VK → Prop) (to : TE) (t : TA) : TE := fun σ H Q => to σ H fun x H1 => TyM K T x H1 ∧ t σ H1 fun xs H2 => r x xs H2 Q
theorem pe_me {o e : Expr} {es : List Expr} {to : TE} {t : TA} {name : Str} {apos cpos : Pos} {T id : String} {r : V → List V → Hp → VK → Prop} (pa : PlainAttrs T) (slot : Slot T name id) (hty : typeOf (.builtin id) = pure (.type "method_descriptor"))
    (hm : MtR X id r) (ho : PE X o to) (ha : PA X (e :: es) t) (hbase : attributeBase o name X.env (eval o X.env) = eval o X.env := by rfl)
    (hfew : ((backTo cpos (starEach (e :: es) X.env)).all (fun x => !x.1) && (backToKw cpos (keywordEach [] X.env)).all (fun x => x.1.isSome)
      && decide ((e :: es).length + ([] : List Keyword).length + (if ([] : List Keyword).isEmpty then 0 else 1) < 30)) = true := by rfl)
    (hline : (apos.endLine == cpos.line) = true := by rfl) (hs : starEach (e :: es) X.env = (false, eval e X.env) :: starEach es X.env := by rfl) (hplain : (backTo cpos (starEach es X.env)).any (·.1) = false := by rfl) :
    PE X (.Call (.Attribute o name apos) (e :: es) [] cpos) (tMe X.K T r to t) := by
  constructor
  intro pins s σ H Q I h
  refine wpAny_Call_method_late hbase hfew hline rfl (thn (ho.run pins s σ H _ I h) ?_)
  rintro v s1 ⟨x, H1, I1, r1, ty, q1⟩
  obtain ⟨y1, y2⟩ := tyM_is I1 r1 ty
  refine ⟨T, id, pa, slot, hty, y1, y2, ?_⟩
  have hA := ha.run cpos pins s1 σ H1 _ I1 q1
  rw [hs] at hA ⊢
  refine Calls.callWith_builtin (by show (false || (backTo cpos (starEach es X.env)).any (·.1)) = false; rw [hplain]; rfl) (Calls.evalArgs_plain (thn hA ?_))
  rintro us s2 ⟨vs, H2, I2, r2, q2⟩
  exact hm pins s2 σ H2 x vs v us Q I2 r1 r2 q2
abbrev OpM := PyData → List PyData → Option PyData
def rMt (ww : World) (K : PySem.W.Frag) (op : OpM) : V → List V → Hp → VK → Prop := fun x vs H Q => ∃ G d ds r, Same G H ∧ Bo ww K G H x d ∧ Paired (Bo ww K G H) vs ds ∧ op d ds = some r ∧ ∀ v G' H', Xt G H G' H' → Da K G' v r → Q v H'
theorem MtR.imp {id : String} {r r' : V → List V → Hp → VK → Prop} (h : MtR X id r) (i : ∀ x xs H Q, r' x xs H Q → r x xs H Q) : MtR X id r' := fun pins s σ H x xs v us Q I rx rs w => h pins s σ H x xs v us Q I rx rs (i _ _ _ _ w)
def tyD : String → PyData → Bool
  | "list", .list _ => true
  | "tuple", .tuple _ => true
  | "str", .str _ => true
  | "dict", .dict ((.none, _) :: _) => true
  | _, _ => false
theorem tyD_of {ww : World} {K : PySem.W.Frag} {G H : Hp} {T : String} {v : V} {d : PyData} (b : Bo ww K G H v d) (s : Same G H) (h : tyD T d = true) : TyM K T v H := by
  unfold tyD at h
  split at h
  · obtain ⟨p, xs, rfl, hp, _⟩ := bo_list b s
    exact .inl (.inl ⟨rfl, _, .inl (.inl hp)⟩)
  · obtain ⟨p, xs, rfl, hp, _⟩ := bo_tup b
    exact .inr (.inl ⟨rfl, p, xs, rfl, hp.same s⟩)
  · rw [bo_str b]
    exact .inl rfl
  · obtain ⟨p, xs, rfl, hp, _⟩ := bo_dic b
    exact .inr (.inr ⟨rfl, ww, p, xs, rfl, hp⟩)
  · cases h
def fMe (T : String) (op : OpM) (f : GF) (g : AF) : EF := fun ρ => match f ρ with
  | none => none
  | some (a, ρ1) => match look ρ1 a with
    | none => none
    | some d0 => if tyD T d0 = true then match g ρ1 with
        | none => none
        | some (as, ρ2) => match look ρ2 a, looks ρ2 as with
          | some d, some ds => match op d ds with
            | none => none
            | some r => some (r, ρ2)
          | _, _ => none
      else none
theorem de_me {o e : Expr} {es : List Expr} {f : GF} {g : AF} {op : OpM} {name : Str} {apos cpos : Pos} {T id : String} (pa : PlainAttrs T) (slot : Slot T name id) (hty : typeOf (.builtin id) = pure (.type "method_descriptor"))
    (hm : MtR X id (rMt X.w X.K op)) (ho : DG X o f) (ha : DAs X (e :: es) g) (hbase : attributeBase o name X.env (eval o X.env) = eval o X.env := by rfl)
    (hfew : ((backTo cpos (starEach (e :: es) X.env)).all (fun x => !x.1) && (backToKw cpos (keywordEach [] X.env)).all (fun x => x.1.isSome)
      && decide ((e :: es).length + ([] : List Keyword).length + (if ([] : List Keyword).isEmpty then 0 else 1) < 30)) = true := by rfl)
    (hline : (apos.endLine == cpos.line) = true := by rfl) (hs : starEach (e :: es) X.env = (false, eval e X.env) :: starEach es X.env := by rfl) (hplain : (backTo cpos (starEach es X.env)).any (·.1) = false := by rfl) :
    DE X (.Call (.Attribute o name apos) (e :: es) [] cpos) (fMe T op f g) := by
  refine pe_imp (pe_me pa slot hty hm ho ha hbase hfew hline hs hplain) ?_
  rintro σ H Q ⟨G, ρ, ρ', d, R, hf, k⟩
  unfold fMe at hf
  split at hf
  · cases hf
  · rename_i a ρ1 h1
    split at hf
    · cases hf
    · rename_i d0 h0
      split at hf
      · rename_i ht
        split at hf
        · cases hf
        · rename_i as ρ2 h2
          split at hf
          · rename_i dd ds h3 h4
            split at hf
            · cases hf
            · rename_i r h5
              cases hf
              exact ⟨G, ρ, ρ1, a, R, h1, fun v G1 H1 R1 s1 q1 => ⟨tyD_of (look_bo R1 q1 h0) R1.sub ht, ⟨G1, ρ1, _, as, R1, h2, fun vs G2 H2 R2 s2 q2 => ⟨G2, dd, ds, _, R2.sub, look_bo R2 (q1.same s2.gr) h3, looks_bo R2 q2 h4, h5,
                fun w G3 H3 x q => k w G3 H3 (R2.ext x) ((s1.trans s2).trans (.ext x)) q⟩⟩⟩⟩
          · cases hf
      · cases hf
theorem seen_flat {K : PySem.W.Frag} {G : Hp} {A : Around} {s : Shared} {y : V} {u : Value} {d : PyData} {xs : List V} {its : List Value} {ds : List PyData} (ry : RelV y u) (hy : Da K G y d) (fy : flatD d = true) (rv : Vals xs its) (ha : DaA K G xs ds) (fs : ds.all flatD = true) :
    ∃ e : Value → Bool, (∀ z, z ∈ its.toArray → SeqAt.EqAt A s z u (e z)) ∧ its.map e = ds.map fun z => PyData.eqv z d := by
  refine ⟨eqU y, fun z hz => mem_eqAt ry (flat_of hy fy) rv (flats_of ha fs) z (by simpa using hz), ?_⟩
  have go : ∀ {ds : List PyData} {xs : List V} {its : List Value}, Vals xs its → DaA K G xs ds → ds.all flatD = true → its.map (eqU y) = ds.map fun z => PyData.eqv z d := by
    intro ds
    induction ds with
    | nil =>
      intro xs its rv ha _
      cases ha
      cases rv
      rfl
    | cons z zs ih =>
      intro xs its rv ha fs
      cases ha with
      | cons h1 h2 =>
        cases rv with
        | cons r1 r2 =>
          rw [List.all_cons, Bool.and_eq_true] at fs
          rw [List.map_cons, List.map_cons, ih r2 h2 fs.2, eqU_of r1 (flat_of h1 fs.1), eqV_of h1 hy fs.1 fy]
  exact go rv ha fs
theorem seen_deep {pins : List (Addr × Obj)} {σ : L2.St} {H : Hp} {s : Shared} {A : Around} {y : V} {u : Value} {d : PyData} {xs : List V} {its : List Value} {ds : List PyData} (I : Inv X pins σ H s) (hu : A.units + 65 < cLine)
    (ry : RelV y u) (hy : Dp X.K H y d) (sd : SeqAt.shaped d = true) (rv : Vals xs its) (ha : DpAll X.K H xs ds) (sl : SeqAt.shaped (.list ds) = true) :
    ∃ e : Value → Bool, (∀ z, z ∈ its.toArray → SeqAt.EqAt A.in1 s z u (e z)) ∧ its.map e = ds.map fun z => PyData.eqv z d := by
  obtain ⟨bs, r1⟩ := Dp.reads I d y u hy ry
  obtain ⟨as, h4⟩ := Dp.readsAll I ds _ its ha rv
  have hxs : PyData.canLayAll0 ds = true := SeqAt.canLay_of_shaped sl
  refine ⟨fun z => PyData.eqv (SeqAt.readOf s.heap z) d, SeqAt.items_eqAt (vs := its.toArray) (show ReadsAll s.heap its.toArray.toList ds as from h4) r1 hxs (SeqAt.canLay_of_shaped sd) (room_in_shaped sd hu), ?_⟩
  have hmap : its.map (SeqAt.readOf s.heap) = ds := SeqAt.readsAll_map ds its as hxs h4
  rw [← hmap, List.map_map]
  rfl
def idxL (d : PyData) (ds : List PyData) : Option Nat := ds.findIdx? fun z => PyData.eqv z d
theorem idx_facts {d : PyData} {ds : List PyData} {j : Nat} (h : idxL d ds = some j) : j < ds.length ∧ (∀ (hj : j < ds.length), PyData.eqv ds[j] d = true) ∧ ∀ m (hm : m < ds.length), m < j → PyData.eqv ds[m] d = false := by
  unfold idxL at h
  rw [List.findIdx?_eq_some_iff_getElem] at h
  obtain ⟨h1, h2, h3⟩ := h
  refine ⟨h1, fun hj => h2, fun m hm hmj => ?_⟩
  have z := h3 m hmj
  simpa using z
def indexD : OpM
  | .list ds, [x] => if (flatD x && ds.all flatD) = true then (idxL x ds).map fun j => .int (j : Nat) else if (SeqAt.shaped x && SeqAt.shaped (.list ds)) = true then (idxL x ds).map fun j => .int (j : Nat) else none
  | .tuple ds, [x] => if (flatD x && ds.all flatD) = true then (idxL x ds).map fun j => .int (j : Nat) else if (SeqAt.shaped x && SeqAt.shaped (.list ds)) = true then (idxL x ds).map fun j => .int (j : Nat) else none
  | _, _ => none
def countD : OpM
  | .list ds, [x] => if (flatD x && ds.all flatD) = true then some (.int ((ds.countP fun z => PyData.eqv z x : Nat) : Int)) else none
  | .tuple ds, [x] => if (flatD x && ds.all flatD) = true then some (.int ((ds.countP fun z => PyData.eqv z x : Nat) : Int)) else none
  | _, _ => none
theorem map_at {α β γ : Type} {as : List α} {bs : List β} {f : α → γ} {g : β → γ} (h : as.map f = bs.map g) (i : Nat) (ha : i < as.length) (hb : i < bs.length) : f as[i] = g bs[i] := by
  have e : (as.map f)[i]'(by simpa using ha) = (bs.map g)[i]'(by simpa using hb) := by simp only [h]
  simpa using e
theorem countP_map {α β : Type} {as : List α} {bs : List β} {f : α → Bool} {g : β → Bool} (h : as.map f = bs.map g) : as.countP f = bs.countP g := by
  have e1 : as.countP f = (as.map f).countP id := by rw [List.countP_map]; rfl
  have e2 : bs.countP g = (bs.map g).countP id := by rw [List.countP_map]; rfl
  rw [e1, e2, h]
/-- t.index(x) -/
theorem mt_tindex (hu : X.A.units + 65 < cLine) : MtR X "tuple.index" (fun x vs H Q => ∃ G ds d y j, Same G H ∧ Bo X.w X.K G H x (.tuple ds) ∧ vs = [y] ∧ Bo X.w X.K G H y d ∧ ((flatD d && ds.all flatD) = true ∨ (SeqAt.shaped d && SeqAt.shaped (.list ds)) = true) ∧ idxL d ds = some j ∧ Q (.int (j : Nat)) H) := by
  intro pins s σ H x vs v us Q I rx rs h
  obtain ⟨G, ds, d, y, j, sub, hx, rfl, hy, cnd, hj, q⟩ := h
  obtain ⟨p, xs, rfl, hp, ha⟩ := bo_tup hx
  obtain rfl : v = Value.ref p := rx
  obtain ⟨u, rfl, ru⟩ := rs.one
  obtain ⟨its, rv, ⟨⟨cls, dd, data, sl⟩, ho, hc, n, hd⟩, hz⟩ := I.tuple (hp.same sub).sq
  simp only at hc hd
  subst hc hd
  obtain ⟨j1, j2, j3⟩ := idx_facts hj
  have ll : its.length = ds.length := by rw [← rv.length, ha.len]
  have seen : ∃ e : Value → Bool, (∀ z, z ∈ its.toArray → SeqAt.EqAt X.A.in1 s z u (e z)) ∧ its.map e = ds.map fun z => PyData.eqv z d := by
    rcases cnd with c | c
    · rw [Bool.and_eq_true] at c
      exact seen_flat ru (bo_flat hy c.1) c.1 rv ha c.2
    · rw [Bool.and_eq_true] at c
      exact seen_deep I hu ru (bo_dp hy sub (lay_of c.1)) c.1 rv (DaA.dp (ha.same sub) (by simpa [PyData.canLay0] using lay_of c.2)) c.2
  obtain ⟨e, he, em⟩ := seen
  refine call_meets PySem.F.slot_tuple_index ⟨_, ho, rfl⟩ PySem.F.entry_tuple_index (PySem.F.args_tuple_index_2 _ _)
    (TI.tuple_indexAt p its.toArray n dd sl u e j (by simp; omega) ?_ ?_) ⟨ho, he, ?_⟩
  · have z := map_at em j (by omega) j1
    simpa [j2 j1] using z
  · intro m hm hmj
    have hm' : m < its.length := by simpa using hm
    have z := map_at em m hm' (by omega)
    rw [j3 m (by omega) hmj] at z
    simpa using z
  · exact ⟨.int (j : Nat), H, I.tok _, ⟨_, rfl⟩, q⟩
theorem mt_tcount : MtR X "tuple.count" (fun x vs H Q => ∃ G ds d y, Same G H ∧ Bo X.w X.K G H x (.tuple ds) ∧ vs = [y] ∧ Bo X.w X.K G H y d ∧ (flatD d && ds.all flatD) = true ∧ Q (.int ((ds.countP fun z => PyData.eqv z d : Nat) : Int)) H) := by
  intro pins s σ H x vs v us Q I rx rs h
  obtain ⟨G, ds, d, y, sub, hx, rfl, hy, c, q⟩ := h
  obtain ⟨p, xs, rfl, hp, ha⟩ := bo_tup hx
  obtain rfl : v = Value.ref p := rx
  obtain ⟨u, rfl, ru⟩ := rs.one
  obtain ⟨its, rv, ⟨⟨cls, dd, data, sl⟩, ho, hc, n, hd⟩, hz⟩ := I.tuple (hp.same sub).sq
  simp only at hc hd
  subst hc hd
  rw [Bool.and_eq_true] at c
  obtain ⟨e, he, em⟩ := seen_flat (A := X.A.in1) (s := s) ru (bo_flat hy c.1) c.1 rv ha c.2
  refine call_meets PySem.F.slot_tuple_count ⟨_, ho, rfl⟩ PySem.F.entry_tuple_count (PySem.F.args_tuple_count_2 _ _)
    (SeqAt.tuple_countAt p its.toArray n dd sl u e) ⟨ho, he, ?_⟩
  refine ⟨.int ((ds.countP fun z => PyData.eqv z d : Nat) : Int), H, I.tok _, ⟨s.toks, ?_⟩, q⟩
  rw [← countP_map em]
theorem mt_lindex (hu : X.A.units + 65 < cLine) : MtR X "list.index" (fun x vs H Q => ∃ G ds d y j, Same G H ∧ Bo X.w X.K G H x (.list ds) ∧ vs = [y] ∧ Bo X.w X.K G H y d ∧ ((flatD d && ds.all flatD) = true ∨ (SeqAt.shaped d && SeqAt.shaped (.list ds)) = true) ∧ idxL d ds = some j ∧ Q (.int (j : Nat)) H) := by
  intro pins s σ H x vs v us Q I rx rs h
  obtain ⟨G, ds, d, y, j, sub, hx, rfl, hy, cnd, hj, q⟩ := h
  obtain ⟨p, xs, rfl, hp, ha⟩ := bo_list hx sub
  obtain rfl : v = Value.ref p := rx
  obtain ⟨u, rfl, ru⟩ := rs.one
  obtain ⟨its, rv, ⟨⟨cls, dd, data, sl⟩, n, ho, hc, hdn, hd⟩, hz⟩ := I.list (SqL.of hp)
  simp only at hc hd
  subst hc hd
  obtain ⟨j1, j2, j3⟩ := idx_facts hj
  have ll : its.length = ds.length := by rw [← rv.length, ha.len]
  have hsz := sizeLine_eq
  have lz := rv.length
  have seen : ∃ e : Value → Bool, (∀ z, z ∈ its.toArray → SeqAt.EqAt X.A.in1 s z u (e z)) ∧ its.map e = ds.map fun z => PyData.eqv z d := by
    rcases cnd with c | c
    · rw [Bool.and_eq_true] at c
      exact seen_flat ru (bo_flat hy c.1) c.1 rv ha c.2
    · rw [Bool.and_eq_true] at c
      exact seen_deep I hu ru (bo_dp hy sub (lay_of c.1)) c.1 rv (DaA.dp (ha.same sub) (by simpa [PyData.canLay0] using lay_of c.2)) c.2
  obtain ⟨e, he, em⟩ := seen
  refine call_meets PySem.F.slot_list_index ⟨_, ho, rfl⟩ PySem.F.entry_list_index (PySem.F.args_list_index_2 _ _)
    (SeqAt.list_indexAt p its.toArray n dd sl u e j (by simp; omega) (by omega) ?_ ?_) ⟨ho, he, ?_⟩
  · have z := map_at em j (by omega) j1
    simpa [j2 j1] using z
  · intro m hm hmj
    have hm' : m < its.length := by simpa using hm
    have z := map_at em m hm' (by omega)
    rw [j3 m (by omega) hmj] at z
    simpa using z
  · exact ⟨.int (j : Nat), H, I.tok _, ⟨_, rfl⟩, q⟩
theorem idx_case {f s : Bool} {o : Option Nat} {r : PyData} (h : (if f = true then o.map fun j => PyData.int (j : Nat) else if s = true then o.map fun j => PyData.int (j : Nat) else none) = some r) : (f = true ∨ s = true) ∧ ∃ j, o = some j ∧ r = .int (j : Nat) := by
  have go : o.map (fun j => PyData.int (j : Nat)) = some r → ∃ j, o = some j ∧ r = .int (j : Nat) := fun h => by
    cases o with
    | none => cases h
    | some j => exact ⟨j, rfl, (Option.some.inj h).symm⟩
  split at h
  · rename_i hf
    exact ⟨.inl hf, go h⟩
  · split at h
    · rename_i hs
      exact ⟨.inr hs, go h⟩
    · cases h
theorem me_tindex (hu : X.A.units + 65 < cLine) : MtR X "tuple.index" (rMt X.w X.K fun d ds => match d with | .tuple _ => indexD d ds | _ => none) := by
  refine MtR.imp (mt_tindex hu) ?_
  rintro x vs H Q ⟨G, d, ds, r, sub, hd, hv, h, k⟩
  dsimp only at h
  split at h
  · rename_i es
    unfold indexD at h
    split at h
    · rename_i heq
      cases heq
    · rename_i es' y heq
      cases heq
      obtain ⟨v, rfl, hy⟩ := pair1 hv
      obtain ⟨c, j, e1, rfl⟩ := idx_case h
      exact ⟨G, _, y, v, j, sub, hd, rfl, hy, c, e1, k _ G H (Xt.refl sub) (.int _)⟩
    · cases h
  · cases h
theorem me_lindex (hu : X.A.units + 65 < cLine) : MtR X "list.index" (rMt X.w X.K fun d ds => match d with | .list _ => indexD d ds | _ => none) := by
  refine MtR.imp (mt_lindex hu) ?_
  rintro x vs H Q ⟨G, d, ds, r, sub, hd, hv, h, k⟩
  dsimp only at h
  split at h
  · rename_i es
    unfold indexD at h
    split at h
    · rename_i es' y heq
      cases heq
      obtain ⟨v, rfl, hy⟩ := pair1 hv
      obtain ⟨c, j, e1, rfl⟩ := idx_case h
      exact ⟨G, _, y, v, j, sub, hd, rfl, hy, c, e1, k _ G H (Xt.refl sub) (.int _)⟩
    · rename_i heq
      cases heq
    · cases h
  · cases h
theorem me_tcount : MtR X "tuple.count" (rMt X.w X.K fun d ds => match d with | .tuple _ => countD d ds | _ => none) := by
  refine MtR.imp mt_tcount ?_
  rintro x vs H Q ⟨G, d, ds, r, sub, hd, hv, h, k⟩
  dsimp only at h
  split at h
  · rename_i es
    unfold countD at h
    split at h
    · rename_i heq
      cases heq
    · rename_i es' y heq
      cases heq
      split at h
      · rename_i c
        cases h
        obtain ⟨v, rfl, hy⟩ := pair1 hv
        exact ⟨G, _, y, v, sub, hd, rfl, hy, c, k _ G H (Xt.refl sub) (.int _)⟩
      · cases h
    · cases h
  · cases h
end
end DL
namespace DL
open PySem PySem.Spec PyProof.Rows L2 GX StX
variable [DL.FT]
abbrev GT := PyData → Rho → Option Rho
def rTg (ww : World) (K : PySem.W.Frag) (t : GT) : TG := fun v σ H Q => ∃ G ρ ρ' d, Rl ww K G σ ρ H ∧ Da K G v d ∧ t d ρ = some ρ' ∧ ∀ σ' G' H', Rl ww K G' σ' ρ' H' → Sx G σ ρ H G' σ' ρ' H' → Q σ' H'
def DTg (X : Cx) (e : Expr) (t : GT) : Prop := PG X e (rTg X.w X.K t)
def goT : List GT → List PyData → Rho → Option Rho
  | [], [], ρ => some ρ
  | t :: ts, d :: ds, ρ => match t d ρ with
    | some ρ1 => goT ts ds ρ1
    | none => none
  | _, _, _ => none
def rTgs (ww : World) (K : PySem.W.Frag) (ts : List GT) : TGs := fun vs σ H Q => ∃ G ρ ρ' ds, Rl ww K G σ ρ H ∧ DaA K G vs ds ∧ goT ts ds ρ = some ρ' ∧ ∀ σ' G' H', Rl ww K G' σ' ρ' H' → Sx G σ ρ H G' σ' ρ' H' → Q σ' H'
def DTgs (X : Cx) (es : List Expr) (ts : List GT) : Prop := PGs X es (rTgs X.w X.K ts)
section
variable {X : Cx}
theorem pg_imp {e : Expr} {t t' : TG} (h : PG X e t) (i : ∀ v σ H Q, t' v σ H Q → t v σ H Q) : PG X e t' := ⟨fun pins s σ H v u Q I r w => h.run pins s σ H v u Q I r (i _ _ _ _ w)⟩
theorem pgs_imp {e : List Expr} {t t' : TGs} (h : PGs X e t) (i : ∀ v σ H Q, t' v σ H Q → t v σ H Q) : PGs X e t' := ⟨fun pins s σ H v u Q I r w => h.run pins s σ H v u Q I r (i _ _ _ _ w)⟩
theorem pg_or {e : Expr} {t t' : TG} (h : PG X e t) (h' : PG X e t') : PG X e (fun v σ H Q => t v σ H Q ∨ t' v σ H Q) := ⟨fun pins s σ H v u Q I r w => w.elim (fun w => h.run pins s σ H v u Q I r w) fun w => h'.run pins s σ H v u Q I r w⟩
def tName (i : Nat) : GT := fun d ρ => some (ρ.set i (.dat d))
theorem dtg_name {i : Nat} {x : Str} {pos : Pos} (hN : X.N.Nodup) (hi : X.N[i]? = some x) (hx : Loc X.env.scope x) (hf : X.fn x = true ∨ X.env.scope.names.lookup x = some .local := by first | exact .inl rfl | exact .inr rfl | assumption) : DTg X (.Name x pos) (tName i) := by
  refine pg_imp (pg_name hN hi hx hf) ?_
  rintro v σ H Q ⟨G, ρ, ρ', d, R, hd, ht, k⟩
  cases ht
  exact k _ G H (R.put hd) (Sx.put R)
theorem dtgs_nil : DTgs X [] [] := by
  refine pgs_imp pgs_nil ?_
  rintro vs σ H Q ⟨G, ρ, ρ', ds, R, hd, ht, k⟩
  cases ds with
  | cons d ds => cases ht
  | nil =>
    cases hd
    cases ht
    exact ⟨rfl, k σ G H R (Sx.refl _ _ _ _)⟩
theorem dtgs_cons {e : Expr} {es : List Expr} {t : GT} {ts : List GT} (h : DTg X e t) (hs : DTgs X es ts) (hm : (assignEach (e :: es) X.env).map (·.2) = assign e X.env :: (assignEach es X.env).map (·.2) := by rfl) : DTgs X (e :: es) (t :: ts) := by
  refine pgs_imp (pgs_cons h hs hm) ?_
  rintro vs σ H Q ⟨G, ρ, ρ', ds, R, hd, ht, k⟩
  cases ds with
  | nil => cases ht
  | cons d ds =>
    cases hd with
    | @cons _ v vs _ _ h1 h2 =>
      unfold goT at ht
      split at ht
      · rename_i ρ1 e1
        exact ⟨v, vs, rfl, ⟨G, ρ, ρ1, d, R, h1, e1, fun σ1 G1 H1 R1 s1 => ⟨G1, ρ1, ρ', ds, R1, h2.same s1.gr, ht, fun σ2 G2 H2 R2 s2 => k σ2 G2 H2 R2 (s1.trans s2)⟩⟩⟩
      · cases ht
def tTupT (n : Nat) (ts : List GT) : GT := fun d ρ => match d with
  | .tuple ds => if ds.length = n then goT ts ds ρ else none
  | .list ds => if ds.length = n then goT ts ds ρ else none
  | _ => none
theorem dtg_tup {es : List Expr} {k : Nat} {ts : List GT} {n : Nat} {pos : Pos} (hc : X.calm = true) (h : DTgs X es ts) (hn : (assignEach es X.env).length = n := by rfl) (hst : (assignEach es X.env).findIdx? (·.1) = none := by rfl) : DTg X (.Tuple es k pos) (tTupT n ts) := by
  refine pg_imp (pg_or (pg_tup hc h hn hst) (pg_unl hc h hn hst)) ?_
  rintro v σ H Q ⟨G, ρ, ρ', d, R, hd, ht, k⟩
  unfold tTupT at ht
  split at ht
  · split at ht
    · rename_i hl
      cases hd with
      | tup hs ha => exact .inl ⟨_, _, rfl, (hs.same R.sub).sq, by rw [ha.len]; exact hl, ⟨G, ρ, ρ', _, R, ha, ht, k⟩⟩
    · cases ht
  · split at ht
    · rename_i hl
      cases hd with
      | lst hs ha => exact .inr ⟨_, _, rfl, .inl (.inl (R.sub _ _ hs)), by rw [ha.len]; exact hl, ⟨G, ρ, ρ', _, R, ha, ht, k⟩⟩
    · cases ht
  · cases ht
/-- xs[i] = .. -/
def tSub (j : Nat) (f : EF) : GT := fun d ρ => match f ρ with
  | some (.int i, ρ1) => match ρ[j]?, ρ1[j]? with
    | some (.own _ (.l _)), some (.own b (.l ds)) => match ixN ds.length i with
      | some k => some (ρ1.set j (.own b (ds.set k d)))
      | none => none
    | _, _ => none
  | _ => none
theorem dtg_sub {j : Nat} {x : Str} {i : Expr} {f : EF} {p pos : Pos} (hN : X.N[j]? = some x) (hv : Vis X.env.scope x) (hi : DE X i f) (hd : (x == ("__debug__" : Str)) = false := by decide) (hcd : (x == ("__classdict__" : Str)) = false := by decide)
    (ha : ∀ v, assign (.Subscript (.Name x p) i pos) X.env v = (do
      let ov ← holding [v] (eval (.Name x p) X.env)
      let iv ← holding [v, ov] (eval i X.env)
      standAt pos
      holding [v, ov, iv] (setItem ov iv v)
      release [v, ov, iv] []) := by intro _; rfl) : DTg X (.Subscript (.Name x p) i pos) (tSub j f) := by
  refine pg_imp (pg_sub (pe_var hN hv hd hcd) hi set_list ha) ?_
  rintro v σ H Q ⟨G, ρ, ρ', d, R, hd, ht, k⟩
  unfold tSub at ht
  split at ht
  · rename_i i' ρ1 h1
    split at ht
    · rename_i c es b ds e0 e1
      split at ht
      · rename_i m e2
        cases ht
        obtain ⟨p, xs, ep, _⟩ := R.ownL e0
        refine ⟨_, ep, ⟨G, ρ, ρ1, .int i', R, h1, fun w G1 H1 R1 s1 q1 => ?_⟩⟩
        cases q1
        obtain ⟨p', xs', ep', hp, gp, ha⟩ := R1.ownL e1
        rw [ep] at ep'
        cases ep'
        obtain ⟨R2, s2⟩ := R1.mutate (es := ds.set m d) e1 ep (ha.set m (hd.same s1.gr))
        exact ⟨p, xs', i', m, rfl, rfl, hp, by rw [ha.len]; exact e2, k _ _ _ R2 (s1.trans s2)⟩
      · cases ht
    · cases ht
  · cases ht
inductive Out where
  | nx (ρ : Rho) | rt (d : PyData) (ρ : Rho) | bk (ρ : Rho) | ct (ρ : Rho)
abbrev SF := Rho → Option Out
def EndR (ww : World) (K : PySem.W.Frag) (G : Hp) (σ : L2.St) (ρ : Rho) (H : Hp) (D : Ends) : Out → Prop
  | .nx ρ' => ∀ σ' G' H', Rl ww K G' σ' ρ' H' → Sx G σ ρ H G' σ' ρ' H' → D.nx σ' H'
  | .bk ρ' => ∀ σ' G' H', Rl ww K G' σ' ρ' H' → Sx G σ ρ H G' σ' ρ' H' → D.bk σ' H'
  | .ct ρ' => ∀ σ' G' H', Rl ww K G' σ' ρ' H' → Sx G σ ρ H G' σ' ρ' H' → D.ct σ' H'
  | .rt d ρ' => ∀ σ' v G' H', Rl ww K G' σ' ρ' H' → Sx G σ ρ H G' σ' ρ' H' → Da K G' v d → D.rt v H'
def rS (ww : World) (K : PySem.W.Frag) (g : SF) : TS := fun D σ H => ∃ G ρ o, Rl ww K G σ ρ H ∧ g ρ = some o ∧ EndR ww K G σ ρ H D o
def DS (X : Cx) (st : Stmt) (g : SF) : Prop := PS X st (rS X.w X.K g)
def DSs (X : Cx) (st : List Stmt) (g : SF) : Prop := PSs X st (rS X.w X.K g)
theorem EndR.back {ww : World} {K : PySem.W.Frag} {G G1 : Hp} {σ σ1 : L2.St} {ρ ρ1 : Rho} {H H1 : Hp} {D : Ends} {o : Out} (h : EndR ww K G σ ρ H D o) (s : Sx G σ ρ H G1 σ1 ρ1 H1) : EndR ww K G1 σ1 ρ1 H1 D o := by
  cases o with
  | nx ρ' => exact fun σ' G' H' R' s' => h σ' G' H' R' (s.trans s')
  | bk ρ' => exact fun σ' G' H' R' s' => h σ' G' H' R' (s.trans s')
  | ct ρ' => exact fun σ' G' H' R' s' => h σ' G' H' R' (s.trans s')
  | rt d ρ' => exact fun σ' v G' H' R' s' q => h σ' v G' H' R' (s.trans s') q
def fNx : SF := fun ρ => some (.nx ρ)
/-- what is never come to -/
def fNv : SF := fun _ => none
theorem ds_nv {st : Stmt} : DS X st fNv := ps_imp ps_never fun D σ H ⟨_, _, _, _, h, _⟩ => nomatch h
theorem dss_nil : DSs X [] fNx := by
  refine pss_imp pss_nil ?_
  rintro D σ H ⟨G, ρ, o, R, hf, k⟩
  cases hf
  exact k σ G H R (Sx.refl _ _ _ _)
def fSq (g h : SF) : SF := fun ρ => match g ρ with
  | some (.nx ρ1) => h ρ1
  | r => r
theorem dss_cons {st : Stmt} {rest : List Stmt} {g h : SF} (h1 : DS X st g) (h2 : DSs X rest h) : DSs X (st :: rest) (fSq g h) := by
  refine pss_imp (pss_cons h1 h2) ?_
  rintro D σ H ⟨G, ρ, o, R, hf, k⟩
  unfold fSq at hf
  split at hf
  · rename_i ρ1 e1
    exact ⟨G, ρ, .nx ρ1, R, e1, fun σ1 G1 H1 R1 s1 => ⟨G1, ρ1, o, R1, hf, k.back s1⟩⟩
  · rename_i r hn
    refine ⟨G, ρ, o, R, hf, ?_⟩
    cases o with
    | nx ρ' => exact (hn ρ' hf).elim
    | bk ρ' => exact k
    | ct ρ' => exact k
    | rt d ρ' => exact k
def fRet (f : EF) : SF := fun ρ => match f ρ with
  | some (d, ρ') => some (.rt d ρ')
  | none => none
theorem ds_ret {e : Expr} {f : EF} {pos : Pos} (h : DE X e f) : DS X (.Return (some e) pos) (fRet f) := by
  refine ps_imp (ps_ret h) ?_
  rintro D σ H ⟨G, ρ, o, R, hf, k⟩
  unfold fRet at hf
  split at hf
  · rename_i d ρ1 e1
    cases hf
    exact ⟨G, ρ, _, d, R, e1, fun v G' H' R' s q => k σ v G' H' R' s q⟩
  · cases hf
def fRetN : SF := fun ρ => some (.rt .none ρ)
def fDrop (f : EF) : SF := fun ρ => match f ρ with
  | some (_, ρ') => some (.nx ρ')
  | none => none
theorem ds_expr {e : Expr} {f : EF} {pos : Pos} (h : DE X e f) (hs : swapsWith e none pos.line X.env = pure false := by rfl) : DS X (.Expr e pos) (fDrop f) := by
  refine ps_imp (ps_expr h hs) ?_
  rintro D σ H ⟨G, ρ, o, R, hf, k⟩
  unfold fDrop at hf
  split at hf
  · rename_i d ρ1 e1
    cases hf
    exact ⟨G, ρ, _, d, R, e1, fun v G' H' R' s q => k σ G' H' R' s⟩
  · cases hf
def fIfS (c : TF) (g h : SF) : SF := fun ρ => match c ρ with
  | some (true, ρ') => g ρ'
  | some (false, ρ') => h ρ'
  | none => none
theorem ds_if {c : Expr} {a b : List Stmt} {t : TF} {g h : SF} {pos : Pos} (hc : DT X c t) (ha : DSs X a g) (hb : DSs X b h) : DS X (.If c a b pos) (fIfS t g h) := by
  refine ps_imp (ps_if hc ha hb) ?_
  rintro D σ H ⟨G, ρ, o, R, hf, k⟩
  unfold fIfS at hf
  split at hf
  · rename_i ρ1 e1
    exact ⟨G, ρ, ρ1, true, R, e1, fun G1 H1 R1 s1 => by dsimp only; rw [if_pos rfl]; exact ⟨G1, ρ1, o, R1, hf, k.back s1⟩⟩
  · rename_i ρ1 e1
    exact ⟨G, ρ, ρ1, false, R, e1, fun G1 H1 R1 s1 => by dsimp only; rw [if_neg Bool.false_ne_true]; exact ⟨G1, ρ1, o, R1, hf, k.back s1⟩⟩
  · cases hf
def fAsg (f : EF) (t : GT) : SF := fun ρ => match f ρ with
  | none => none
  | some (d, ρ1) => match t d ρ1 with
    | none => none
    | some ρ2 => some (.nx ρ2)
theorem rS_asg {ww : World} {K : PySem.W.Frag} {f : EF} {t : GT} : ∀ D σ H, rS ww K (fAsg f t) D σ H → tAsg (rE ww K f) (rTg ww K t) D σ H := by
  rintro D σ H ⟨G, ρ, o, R, hf, k⟩
  unfold fAsg at hf
  split at hf
  · cases hf
  · rename_i d ρ1 e1
    split at hf
    · cases hf
    · rename_i ρ2 e2
      cases hf
      exact ⟨G, ρ, ρ1, d, R, e1, fun v G1 H1 R1 s1 q1 => ⟨G1, ρ1, ρ2, d, R1, q1, e2, fun σ' G' H' R' s' => k σ' G' H' R' (s1.trans s')⟩⟩
theorem ds_asg {tg e : Expr} {f : EF} {t : GT} {pos : Pos} (he : DE X e f) (hg : DTg X tg t) (hs : swapsWithSole [tg] e pos.line X.env = pure false := by rfl) (hw : swappedStores [tg] e X.env = pure none := by rfl)
    (h1 : (assignEach [tg] X.env).map (·.2) = [assign tg X.env] := by rfl) : DS X (.Assign [tg] e pos) (fAsg f t) :=
  ps_imp (ps_asg he hg hs hw h1) rS_asg
theorem ds_set {i : Nat} {x : Str} {e : Expr} {f : EF} {pos pos' : Pos} (hN : X.N.Nodup) (hi : X.N[i]? = some x) (hx : Loc X.env.scope x) (he : DE X e f) (hs : swapsWith e (some (.Name x pos')) pos.line X.env = pure false := by rfl)
    (hf : X.fn x = true ∨ X.env.scope.names.lookup x = some .local := by first | exact .inl rfl | exact .inr rfl | assumption) : DS X (.Assign [.Name x pos'] e pos) (fAsg f (tName i)) := by
  refine ps_imp (ps_set hN hi hx he hs hf) ?_
  intro D σ H h
  obtain ⟨G, ρ, ρ', d, R, e1, k⟩ := rS_asg _ _ _ h
  refine ⟨G, ρ, ρ', d, R, e1, fun v G1 H1 R1 s1 q1 => ?_⟩
  obtain ⟨G2, ρ2, ρ3, d2, R2, q2, e2, k2⟩ := k v G1 H1 R1 s1 q1
  cases e2
  exact k2 _ G2 H1 (R2.put q2) (Sx.put R2)
/-- a new list, to be changed here -/
def fHold (i : Nat) (f : LF) : SF := fun ρ => match f ρ with
  | none => none
  | some (ds, ρ1) => some (.nx (ρ1.set i (.own false ds)))
theorem rS_hold {ww : World} {K : PySem.W.Frag} {i : Nat} {f : LF} : ∀ D σ H, rS ww K (fHold i f) D σ H → tAsg (rF ww K f) (gName i) D σ H := by
  rintro D σ H ⟨G, ρ, o, R, hf, k⟩
  unfold fHold at hf
  split at hf
  · cases hf
  · rename_i ds ρ1 e1
    cases hf
    exact ⟨G, ρ, ρ1, ds, R, e1, fun p xs G1 H1 R1 s1 hp gp no n q1 => k _ G1 _ (R1.hold hp gp no q1) (Sx.hold s1 n)⟩
theorem ds_hold {i : Nat} {x : Str} {e : Expr} {f : LF} {pos pos' : Pos} (hN : X.N.Nodup) (hi : X.N[i]? = some x) (hx : Loc X.env.scope x) (he : DN X e f) (hs : swapsWith e (some (.Name x pos')) pos.line X.env = pure false := by rfl)
    (hf : X.fn x = true ∨ X.env.scope.names.lookup x = some .local := by first | exact .inl rfl | exact .inr rfl | assumption) : DS X (.Assign [.Name x pos'] e pos) (fHold i f) :=
  ps_imp (ps_set hN hi hx he hs hf) rS_hold
def fApp (j : Nat) (f : EF) : SF := fun ρ => match ρ[j]? with
  | some (.own _ (.l _)) => match f ρ with
    | some (d, ρ1) => match ρ1[j]? with
      | some (.own b (.l ds)) => if fits (ds.length + 1) = true then some (.nx (ρ1.set j (.own b (ds ++ [d])))) else none
      | _ => none
    | none => none
  | _ => none
theorem fits_lt {n : Nat} (h : fits (n + 1) = true) : n < sizeLine := by
  have := of_decide_eq_true h
  rw [sizeLine_eq]; omega
theorem ds_app {j : Nat} {x : Str} {e : Expr} {f : EF} {p apos cpos pos : Pos} (hN : X.N[j]? = some x) (hv : Vis X.env.scope x) (he : DE X e f) (hd : (x == ("__debug__" : Str)) = false := by decide) (hcd : (x == ("__classdict__" : Str)) = false := by decide)
    (hbase : attributeBase (.Name x p) "append" X.env (eval (.Name x p) X.env) = eval (.Name x p) X.env := by rfl)
    (hfew : ((backTo cpos (starEach [e] X.env)).all (fun x => !x.1) && (backToKw cpos (keywordEach [] X.env)).all (fun x => x.1.isSome)
      && decide ([e].length + ([] : List Keyword).length + (if ([] : List Keyword).isEmpty then 0 else 1) < 30)) = true := by rfl)
    (hline : (apos.endLine == cpos.line) = true := by rfl) (hs : starEach [e] X.env = (false, eval e X.env) :: starEach [] X.env := by rfl) (hplain : (backTo cpos (starEach [] X.env)).any (·.1) = false := by rfl)
    (hsw : swapsWith (.Call (.Attribute (.Name x p) "append" apos) [e] [] cpos) none pos.line X.env = pure false := by rfl) :
    DS X (.Expr (.Call (.Attribute (.Name x p) "append" apos) [e] [] cpos) pos) (fApp j f) := by
  refine ps_imp (ps_expr (pe_bm PySem.F.plainAttrs_list PySem.F.slot_list_append PySem.F.type_list_append mt_append (pe_var hN hv hd hcd) (pa_cons he pa_nil hs) hbase hfew hline hs hplain) hsw) ?_
  rintro D σ H ⟨G, ρ, o, R, hf, k⟩
  unfold fApp at hf
  split at hf
  · rename_i b0 ds0 e0
    split at hf
    · rename_i d ρ1 h1
      split at hf
      · rename_i b ds e1
        split at hf
        · rename_i hz
          cases hf
          obtain ⟨q, xs0, ep, hp0, _⟩ := R.ownL e0
          refine ⟨_, ep, .inl ⟨rfl, _, SqL.of hp0⟩, ⟨G, ρ, ρ1, d, R, h1, fun v G1 H1 R1 s1 q1 => ?_⟩⟩
          obtain ⟨q', xs, ep', hp, gp, ha⟩ := R1.ownL e1
          rw [ep] at ep'
          cases ep'
          obtain ⟨R2, s2⟩ := R1.mutate (es := ds ++ [d]) e1 ep (ha.snoc q1)
          exact ⟨q, xs, v, rfl, rfl, hp, by rw [ha.len]; exact fits_lt hz, k _ _ _ R2 (s1.trans s2)⟩
        · cases hf
      · cases hf
    · cases hf
  · cases hf
def fExt (j : Nat) (f : EF) : SF := fun ρ => match ρ[j]? with
  | some (.own _ (.l _)) => match f ρ with
    | some (.list es, ρ1) => match ρ1[j]? with
      | some (.own b (.l ds)) => if fits (ds.length + es.length) = true then some (.nx (ρ1.set j (.own b (ds ++ es)))) else none
      | _ => none
    | _ => none
  | _ => none
theorem ds_ext {j : Nat} {x : Str} {e : Expr} {f : EF} {p apos cpos pos : Pos} (hN : X.N[j]? = some x) (hv : Vis X.env.scope x) (he : DE X e f) (hd : (x == ("__debug__" : Str)) = false := by decide) (hcd : (x == ("__classdict__" : Str)) = false := by decide)
    (hbase : attributeBase (.Name x p) "extend" X.env (eval (.Name x p) X.env) = eval (.Name x p) X.env := by rfl)
    (hfew : ((backTo cpos (starEach [e] X.env)).all (fun x => !x.1) && (backToKw cpos (keywordEach [] X.env)).all (fun x => x.1.isSome)
      && decide ([e].length + ([] : List Keyword).length + (if ([] : List Keyword).isEmpty then 0 else 1) < 30)) = true := by rfl)
    (hline : (apos.endLine == cpos.line) = true := by rfl) (hs : starEach [e] X.env = (false, eval e X.env) :: starEach [] X.env := by rfl) (hplain : (backTo cpos (starEach [] X.env)).any (·.1) = false := by rfl)
    (hsw : swapsWith (.Call (.Attribute (.Name x p) "extend" apos) [e] [] cpos) none pos.line X.env = pure false := by rfl) :
    DS X (.Expr (.Call (.Attribute (.Name x p) "extend" apos) [e] [] cpos) pos) (fExt j f) := by
  refine ps_imp (ps_expr (pe_bm PySem.F.plainAttrs_list PySem.F.slot_list_extend PySem.F.type_list_extend mt_extend (pe_var hN hv hd hcd) (pa_cons he pa_nil hs) hbase hfew hline hs hplain) hsw) ?_
  rintro D σ H ⟨G, ρ, o, R, hf, k⟩
  unfold fExt at hf
  split at hf
  · rename_i b0 ds0 e0
    split at hf
    · rename_i es ρ1 h1
      split at hf
      · rename_i b ds e1
        split at hf
        · rename_i hz
          cases hf
          obtain ⟨q, xs0, ep, hp0, _⟩ := R.ownL e0
          refine ⟨_, ep, .inl ⟨rfl, _, SqL.of hp0⟩, ⟨G, ρ, ρ1, _, R, h1, fun v G1 H1 R1 s1 q1 => ?_⟩⟩
          obtain ⟨q', xs, ep', hp, gp, ha⟩ := R1.ownL e1
          rw [ep] at ep'
          cases ep'
          cases q1 with
          | @lst _ b ys _ hb hy =>
            obtain ⟨R2, s2⟩ := R1.mutate (es := ds ++ es) e1 ep (ha.app hy)
            exact ⟨q, b, xs, ys, rfl, rfl, hp, R1.sub _ _ hb, by rw [ha.len, hy.len]; exact fits_le hz, k _ _ _ R2 (s1.trans s2)⟩
        · cases hf
      · cases hf
    · cases hf
  · cases hf
structure JD (K : PySem.W.Frag) (G : Hp) (J : It) (ds : List PyData) : Prop where
  go : ∀ i H, Same G H → i < ds.length → J.go i H
  stop : ∀ i H, Same G H → ds.length ≤ i → J.stop i H
  yld : ∀ i G1 H x H' d, Same G G1 → Same G1 H → J.yld i H x H' → ds[i]? = some d → H' = H ∧ Da K G1 x d
/-- pairs: told as new tuples -/
structure JP (K : PySem.W.Frag) (G : Hp) (J : It) (ds : List PyData) : Prop where
  go : ∀ i H, Same G H → i < ds.length → J.go i H
  stop : ∀ i H, Same G H → ds.length ≤ i → J.stop i H
  yld : ∀ i G1 H x H' d, Same G G1 → Same G1 H → J.yld i H x H' → ds[i]? = some d → ∃ T vs es, x = .ref T ∧ H T = none ∧ H' = upd H T (.tup vs) ∧ d = .tuple es ∧ DaA K G1 vs es
def rI (ww : World) (K : PySem.W.Frag) (it : LF) : TI := fun σ H R => ∃ G ρ ρ' ds, Rl ww K G σ ρ H ∧ it ρ = some (ds, ρ') ∧ ∀ J G' H', Rl ww K G' σ ρ' H' → Sx G σ ρ H G' σ ρ' H' → JD K G' J ds → R J H'
def rIP (ww : World) (K : PySem.W.Frag) (it : LF) : TI := fun σ H R => ∃ G ρ ρ' ds, Rl ww K G σ ρ H ∧ it ρ = some (ds, ρ') ∧ ∀ J G' H', Rl ww K G' σ ρ' H' → Sx G σ ρ H G' σ ρ' H' → JP K G' J ds → R J H'
def DI (X : Cx) (tg iter : Expr) (it : LF) : Prop := PI X tg iter (rI X.w X.K it)
def DIP (X : Cx) (tg iter : Expr) (it : LF) : Prop := PI X tg iter (rIP X.w X.K it)
theorem pi_imp {tg iter : Expr} {w w' : TI} (h : PI X tg iter w) (i : ∀ σ H R, w' σ H R → w σ H R) : PI X tg iter w' := ⟨fun pins s σ H R I z => h.run pins s σ H R I (i _ _ _ z)⟩
theorem pi_or {tg iter : Expr} {w w' : TI} (h : PI X tg iter w) (h' : PI X tg iter w') : PI X tg iter (fun σ H R => w σ H R ∨ w' σ H R) := ⟨fun pins s σ H R I z => z.elim (fun z => h.run pins s σ H R I z) fun z => h'.run pins s σ H R I z⟩
/-- the items of a list or tuple -/
def iSeq (f : EF) : LF := fun ρ => match f ρ with
  | some (.list ds, ρ') => some (ds, ρ')
  | some (.tuple ds, ρ') => some (ds, ρ')
  | _ => none
theorem di_seq {tg e : Expr} {f : EF} (h : DE X e f) : DI X tg e (iSeq f) := by
  refine pi_imp (pi_or (pi_list h) (pi_tup h)) ?_
  rintro σ H R ⟨G, ρ, ρ', ds, Rr, hf, k⟩
  unfold iSeq at hf
  split at hf
  · rename_i es ρ1 e1
    cases hf
    refine .inl ⟨G, ρ, _, _, Rr, e1, fun v G1 H1 R1 s1 q1 => ?_⟩
    cases q1 with
    | @lst _ a xs _ hs ha =>
      refine ⟨a, rfl, ⟨xs, .inl (.inl (R1.sub _ _ hs))⟩, k _ _ _ R1 s1 ⟨fun i H2 sm hi => ?_, fun i H2 sm hi => ?_, fun i G2 H2 x H3 d sm sm2 hy hd => ?_⟩⟩
      · obtain ⟨v, ev, _⟩ := ha.get (List.getElem?_eq_getElem hi)
        exact ⟨xs, v, .inl (.inl (sm _ _ hs)), ev⟩
      · exact ⟨xs, .inl (.inl (sm _ _ hs)), by rw [ha.len]; exact hi⟩
      · obtain ⟨e2, hy⟩ := hy
        obtain ⟨v, ev, hv⟩ := ha.get hd
        have z := hy xs (.inl (.inl (sm2 _ _ (sm _ _ hs))))
        rw [ev] at z
        cases z
        exact ⟨e2, hv.same sm⟩
  · rename_i es ρ1 e1
    cases hf
    refine .inr ⟨G, ρ, _, _, Rr, e1, fun v G1 H1 R1 s1 q1 => ?_⟩
    cases q1 with
    | @tup _ a xs _ hs ha =>
      refine ⟨a, rfl, ⟨xs, (hs.same R1.sub).sq⟩, k _ _ _ R1 s1 ⟨fun i H2 sm hi => ?_, fun i H2 sm hi => ?_, fun i G2 H2 x H3 d sm sm2 hy hd => ?_⟩⟩
      · obtain ⟨v, ev, _⟩ := ha.get (List.getElem?_eq_getElem hi)
        exact ⟨xs, v, (hs.same sm).sq, ev⟩
      · exact ⟨xs, (hs.same sm).sq, by rw [ha.len]; exact hi⟩
      · obtain ⟨e2, hy⟩ := hy
        obtain ⟨v, ev, hv⟩ := ha.get hd
        have z := hy xs ((hs.same sm).same sm2).sq
        rw [ev] at z
        cases z
        exact ⟨e2, hv.same sm⟩
  · cases hf
def rangeD (lo : Int) (n : Nat) : List PyData := (List.range n).map fun i => .int (lo + ((i : Nat) : Int))
theorem jd_range {K : PySem.W.Frag} {G : Hp} (lo : Int) (n : Nat) : JD K G (Itr lo n) (rangeD lo n) := by
  refine ⟨fun i H _ hi => ?_, fun i H _ hi => ?_, fun i G1 H x H' d _ _ hy hd => ?_⟩
  · have z : i < n := by simpa [rangeD] using hi
    exact z
  · have z : n ≤ i := by simpa [rangeD] using hi
    exact z
  · obtain ⟨e, rfl⟩ := hy
    unfold rangeD at hd
    rw [List.getElem?_map] at hd
    cases q : (List.range n)[i]? with
    | none => rw [q] at hd; cases hd
    | some j =>
      rw [q] at hd
      cases hd
      have z := List.getElem?_eq_some_iff.mp q
      obtain ⟨hl, z⟩ := z
      rw [List.getElem_range] at z
      subst z
      exact ⟨e, .int _⟩
def small62 (i : Int) : Bool := decide (-(2 ^ 62) ≤ i) && decide (i < 2 ^ 62)
theorem small62_of {i : Int} (h : small62 i = true) : -(2 ^ 62) ≤ i ∧ i < 2 ^ 62 := by
  unfold small62 at h
  rw [Bool.and_eq_true] at h
  exact ⟨of_decide_eq_true h.1, of_decide_eq_true h.2⟩
def iRange1 (f : LF) : LF := fun ρ => match f ρ with
  | some ([.int j], ρ') => if small62 j = true then some (rangeD 0 j.toNat, ρ') else none
  | _ => none
theorem di_range1 {tg a : Expr} {f : LF} {p pos : Pos} (hg : Gl X "range") (hm : X.mg "range" = none) (ha : DLs X [a] f) (hs : starEach [a] X.env = [(false, eval a X.env)] := by rfl) : DI X tg (.Call (.Name "range" p) [a] [] pos) (iRange1 f) := by
  refine pi_imp (pi_range1 hg hm ha hs) ?_
  rintro σ H R ⟨G, ρ, ρ', ds, Rr, hf, k⟩
  unfold iRange1 at hf
  split at hf
  · rename_i j ρ1 e1
    split at hf
    · rename_i hz
      cases hf
      refine ⟨G, ρ, _, _, Rr, e1, fun vs G1 H1 R1 s1 q1 => ?_⟩
      obtain ⟨z1, z2⟩ := small62_of hz
      have e2 := DaA.ints (ns := [j]) q1
      exact ⟨j, e2, z1, z2, k _ _ _ R1 s1 (jd_range 0 j.toNat)⟩
    · cases hf
  · cases hf
def iRange2 (f : LF) : LF := fun ρ => match f ρ with
  | some ([.int i, .int j], ρ') => if (small62 i && small62 j) = true then some (rangeD i (j - i).toNat, ρ') else none
  | _ => none
theorem di_range2 {tg a b : Expr} {f : LF} {p pos : Pos} (hg : Gl X "range") (hm : X.mg "range" = none) (ha : DLs X [a, b] f) (hs : starEach [a, b] X.env = [(false, eval a X.env), (false, eval b X.env)] := by rfl) (hs2 : starEach [b] X.env = [(false, eval b X.env)] := by rfl) :
    DI X tg (.Call (.Name "range" p) [a, b] [] pos) (iRange2 f) := by
  refine pi_imp (pi_range2 hg hm ha hs hs2) ?_
  rintro σ H R ⟨G, ρ, ρ', ds, Rr, hf, k⟩
  unfold iRange2 at hf
  split at hf
  · rename_i i j ρ1 e1
    split at hf
    · rename_i hz
      cases hf
      refine ⟨G, ρ, _, _, Rr, e1, fun vs G1 H1 R1 s1 q1 => ?_⟩
      rw [Bool.and_eq_true] at hz
      obtain ⟨z1, z2⟩ := small62_of hz.1
      obtain ⟨z3, z4⟩ := small62_of hz.2
      have e2 := DaA.ints (ns := [i, j]) q1
      exact ⟨i, j, e2, ⟨z1, z2, z3, z4⟩, k _ _ _ R1 s1 (jd_range i (j - i).toNat)⟩
    · cases hf
  · cases hf
def fLoop (t : GT) (g : SF) : List PyData → SF
  | [], ρ => some (.nx ρ)
  | d :: ds, ρ => match t d ρ with
    | none => none
    | some ρ1 => match g ρ1 with
      | some (.nx ρ2) => fLoop t g ds ρ2
      | some (.ct ρ2) => fLoop t g ds ρ2
      | some (.bk ρ2) => some (.nx ρ2)
      | some (.rt d ρ2) => some (.rt d ρ2)
      | none => none
def fFor (it : LF) (t : GT) (g : SF) : SF := fun ρ => match it ρ with
  | none => none
  | some (ds, ρ1) => fLoop t g ds ρ1
theorem for_core {ww : World} {K : PySem.W.Frag} {J : It} {ds : List PyData} {t : GT} {g : SF} {tg : TG} {G0 H0 : Hp} {σ0 : L2.St} {ρ0 : Rho} {o : Out} {D : Ends} (R0 : Rl ww K G0 σ0 ρ0 H0) (hl : fLoop t g ds ρ0 = some o) (k : EndR ww K G0 σ0 ρ0 H0 D o)
    (go : ∀ i H, Same G0 H → i < ds.length → J.go i H) (stop : ∀ i H, Same G0 H → ds.length ≤ i → J.stop i H)
    (step : ∀ i G1 σ ρ1 H x H' d ρ2 (Q : L2.St → Hp → Prop), Same G0 G1 → Rl ww K G1 σ ρ1 H → J.yld i H x H' → ds[i]? = some d → t d ρ1 = some ρ2 → (∀ σ' G2 H2, Rl ww K G2 σ' ρ2 H2 → Sx G1 σ ρ1 H G2 σ' ρ2 H2 → Q σ' H2) → tg x σ H' Q) :
    ∃ W : Nat → Nat → L2.St → Hp → Prop, (∃ m, W 0 m σ0 H0) ∧ ∀ i m σ H, W i m σ H →
      (J.stop i H ∧ D.nx σ H) ∨ (J.go i H ∧ ∃ N : L2.St → Hp → Prop, (∀ σ' H', N σ' H' → ∃ m', m' < m ∧ W (i + 1) m' σ' H') ∧ ∀ x H', J.yld i H x H' → tg x σ H' fun σ2 H2 => rS ww K g { D with nx := N, ct := N, bk := D.nx } σ2 H2) := by
  refine ⟨fun i m σ H => m = ds.length - i ∧ i ≤ ds.length ∧ ∃ G1 ρ1, Rl ww K G1 σ ρ1 H ∧ Sx G0 σ0 ρ0 H0 G1 σ ρ1 H ∧ fLoop t g (ds.drop i) ρ1 = some o, ⟨_, rfl, Nat.zero_le _, G0, ρ0, R0, Sx.refl _ _ _ _, hl⟩, ?_⟩
  rintro i m σ H ⟨rfl, hi, G1, ρ1, R1, s1, e1⟩
  have sm : Same G0 H := s1.gr.trans R1.sub
  by_cases hlt : i < ds.length
  · refine .inr ⟨go i H sm hlt, fun σ' H' => i + 1 ≤ ds.length ∧ ∃ G1 ρ1, Rl ww K G1 σ' ρ1 H' ∧ Sx G0 σ0 ρ0 H0 G1 σ' ρ1 H' ∧ fLoop t g (ds.drop (i + 1)) ρ1 = some o, fun σ' H' h => ⟨_, by omega, rfl, h⟩, fun x H' hy => ?_⟩
    rw [List.drop_eq_getElem_cons hlt] at e1
    unfold fLoop at e1
    split at e1
    · cases e1
    · rename_i ρ2 e2
      refine step i G1 σ ρ1 H x H' _ ρ2 _ s1.gr R1 hy (List.getElem?_eq_getElem hlt) e2 fun σ2 G2 H2 R2 s2 => ?_
      have k2 := k.back (s1.trans s2)
      split at e1
      · rename_i ρ3 e3
        exact ⟨G2, ρ2, _, R2, e3, fun σ' G' H' R' s' => ⟨hlt, G', ρ3, R', (s1.trans s2).trans s', e1⟩⟩
      · rename_i ρ3 e3
        exact ⟨G2, ρ2, _, R2, e3, fun σ' G' H' R' s' => ⟨hlt, G', ρ3, R', (s1.trans s2).trans s', e1⟩⟩
      · rename_i ρ3 e3
        cases e1
        exact ⟨G2, ρ2, _, R2, e3, fun σ' G' H' R' s' => k2 σ' G' H' R' s'⟩
      · rename_i d ρ3 e3
        cases e1
        exact ⟨G2, ρ2, _, R2, e3, fun σ' v G' H' R' s' q => k2 σ' v G' H' R' s' q⟩
      · cases e1
  · have e2 : i = ds.length := by omega
    subst e2
    rw [List.drop_length] at e1
    cases e1
    exact .inl ⟨stop _ H sm (Nat.le_refl _), k σ G1 H R1 s1⟩
theorem ds_for {tg iter : Expr} {body : List Stmt} {it : LF} {t : GT} {g : SF} {pos : Pos} (hp : PassesOwn (model X.prog X.w) X.A X.env X.xe) (hc : X.calm = true) (hi : DI X tg iter it) (hg : DTg X tg t) (hb : DSs X body g)
    (hs : ∀ x, foldedSetIterable iter X.env x = pure x := by intro _; rfl) : DS X (.For tg iter body [] pos) (fFor it t g) := by
  refine ps_imp (ps_for hp hc hi hg hb hs) ?_
  rintro D σ H ⟨G, ρ, o, R, hf, k⟩
  unfold fFor at hf
  split at hf
  · cases hf
  · rename_i ds ρ1 e1
    refine ⟨G, ρ, ρ1, ds, R, e1, fun J G1 H1 R1 s1 j => for_core R1 hf (k.back s1) j.go j.stop ?_⟩
    intro i G2 σ2 ρ2 H2 x H3 d ρ3 Q sm R2 hy hd ht q
    obtain ⟨e3, hx⟩ := j.yld i G2 H2 x H3 d sm R2.sub hy hd
    subst e3
    exact ⟨G2, ρ2, ρ3, d, R2, hx, ht, q⟩
/-- for a, b in pairs -/
theorem ds_forP {es : List Expr} {kk : Nat} {iter : Expr} {body : List Stmt} {it : LF} {n : Nat} {ts : List GT} {g : SF} {tpos pos : Pos} (hp : PassesOwn (model X.prog X.w) X.A X.env X.xe) (hc : X.calm = true) (hi : DIP X (.Tuple es kk tpos) iter it) (hg : DTgs X es ts) (hb : DSs X body g)
    (hn : (assignEach es X.env).length = n := by rfl) (hst : (assignEach es X.env).findIdx? (·.1) = none := by rfl)
    (hs : ∀ x, foldedSetIterable iter X.env x = pure x := by intro _; rfl) : DS X (.For (.Tuple es kk tpos) iter body [] pos) (fFor it (tTupT n ts) g) := by
  refine ps_imp (ps_for hp hc hi (pg_tup hc hg hn hst) hb hs) ?_
  rintro D σ H ⟨G, ρ, o, R, hf, k⟩
  unfold fFor at hf
  split at hf
  · cases hf
  · rename_i ds ρ1 e1
    refine ⟨G, ρ, ρ1, ds, R, e1, fun J G1 H1 R1 s1 j => for_core R1 hf (k.back s1) j.go j.stop ?_⟩
    intro i G2 σ2 ρ2 H2 x H3 d ρ3 Q sm R2 hy hd ht q
    obtain ⟨T, vs, es', rfl, nT, rfl, rfl, ha⟩ := j.yld i G2 H2 x H3 d sm R2.sub hy hd
    unfold tTupT at ht
    dsimp only at ht
    split at ht
    · rename_i hl
      have xx := Xt.more (p := T) (o := .tup vs) R2.sub nT
      exact ⟨T, vs, rfl, .inl (.inl upd_same), by rw [ha.len]; exact hl, ⟨G2, ρ2, ρ3, es', R2.ext xx, ha, ht, fun σ' G' H' R' s' => q σ' G' H' R' (Sx.trans (.ext xx) s')⟩⟩
    · cases ht
def fWh (c : TF) (g : SF) : Nat → SF
  | 0, _ => none
  | n + 1, ρ => match c ρ with
    | some (true, ρ1) => match g ρ1 with
      | some (.nx ρ2) => fWh c g n ρ2
      | some (.ct ρ2) => fWh c g n ρ2
      | some (.bk ρ2) => some (.nx ρ2)
      | some (.rt d ρ2) => some (.rt d ρ2)
      | none => none
    | some (false, ρ1) => some (.nx ρ1)
    | none => none
theorem ds_while {c : Expr} {body : List Stmt} {t : TF} {g : SF} {pos : Pos} (n : Nat) (hp : PassesOwn (model X.prog X.w) X.A X.env X.xe) (hc : DT X c t) (hb : DSs X body g) : DS X (.While c body [] pos) (fWh t g n) := by
  refine ps_imp (ps_while hp hc hb) ?_
  rintro D σ0 H0 ⟨G0, ρ0, o, R0, hf, k⟩
  refine ⟨fun m σ H => ∃ G1 ρ1, Rl X.w X.K G1 σ ρ1 H ∧ Sx G0 σ0 ρ0 H0 G1 σ ρ1 H ∧ fWh t g m ρ1 = some o, ⟨n, G0, ρ0, R0, Sx.refl _ _ _ _, hf⟩, ?_⟩
  rintro m σ H ⟨G1, ρ1, R1, s1, e1⟩
  cases m with
  | zero => cases e1
  | succ m =>
    unfold fWh at e1
    split at e1
    · rename_i ρ2 e2
      refine ⟨G1, ρ1, ρ2, true, R1, e2, fun G2 H2 R2 s2 => ?_⟩
      dsimp only
      rw [if_pos rfl]
      refine ⟨fun σ' H' => ∃ G1 ρ1, Rl X.w X.K G1 σ' ρ1 H' ∧ Sx G0 σ0 ρ0 H0 G1 σ' ρ1 H' ∧ fWh t g m ρ1 = some o, fun σ' H' h => ⟨m, Nat.lt_succ_self m, h⟩, ?_⟩
      have k2 := k.back (s1.trans s2)
      split at e1
      · rename_i ρ3 e3
        exact ⟨G2, ρ2, _, R2, e3, fun σ' G' H' R' s' => ⟨G', ρ3, R', (s1.trans s2).trans s', e1⟩⟩
      · rename_i ρ3 e3
        exact ⟨G2, ρ2, _, R2, e3, fun σ' G' H' R' s' => ⟨G', ρ3, R', (s1.trans s2).trans s', e1⟩⟩
      · rename_i ρ3 e3
        cases e1
        exact ⟨G2, ρ2, _, R2, e3, fun σ' G' H' R' s' => k2 σ' G' H' R' s'⟩
      · rename_i d ρ3 e3
        cases e1
        exact ⟨G2, ρ2, _, R2, e3, fun σ' v G' H' R' s' q => k2 σ' v G' H' R' s' q⟩
      · cases e1
    · rename_i ρ2 e2
      cases e1
      refine ⟨G1, ρ1, _, false, R1, e2, fun G2 H2 R2 s2 => ?_⟩
      dsimp only
      rw [if_neg Bool.false_ne_true]
      exact k σ G2 H2 R2 (s1.trans s2)
    · cases e1
end
end DL
namespace DL
open PySem PySem.Spec PyProof.Rows L2 GX StX
variable [DL.FT]
def wipeR (ρ : Rho) : List Nat → Rho
  | [] => ρ
  | k :: ks => (wipeR ρ ks).set k .un
section
variable {ww : World} {K : PySem.W.Frag} {G H : Hp} {σ : L2.St} {ρ : Rho}
theorem wipeR_len (ρ : Rho) : ∀ ks, (wipeR ρ ks).length = ρ.length
  | [] => rfl
  | k :: ks => by unfold wipeR; rw [List.length_set, wipeR_len ρ ks]
theorem wipeR_get {s : Sl} (hs : s ≠ .un) {i : Nat} : ∀ {ks : List Nat}, (wipeR ρ ks)[i]? = some s → ρ[i]? = some s ∧ i ∉ ks
  | [], h => ⟨h, by simp⟩
  | k :: ks, h => by
    unfold wipeR at h
    rcases set_get h with ⟨_, z, _⟩ | ⟨n, h⟩
    · exact (hs z).elim
    · obtain ⟨h1, h2⟩ := wipeR_get hs h
      exact ⟨h1, by simp only [List.mem_cons, not_or]; exact ⟨n, h2⟩⟩
theorem wipe_get {i : Nat} : ∀ {ks : List Nat}, i ∉ ks → (wipe σ ks)[i]? = σ[i]?
  | [], _ => rfl
  | k :: ks, h => by
    simp only [List.mem_cons, not_or] at h
    unfold wipe
    rw [List.getElem?_set_ne (Ne.symm h.1)]
    exact wipe_get h.2
/-- both sides agree but on slots that nothing is said of -/
theorem Rl.alike {σ2 : L2.St} {ρ2 : Rho} (R : Rl ww K G σ ρ H) (hl : σ2.length = ρ2.length) (h : ∀ (i : Nat) (s : Sl), s ≠ Sl.un → ρ2[i]? = some s → ρ[i]? = some s ∧ σ2[i]? = σ[i]?) : Rl ww K G σ2 ρ2 H := by
  refine ⟨hl, R.sub, fun {i d} q => ?_, fun {i b ds} q => ?_, fun {i j b c ds es p p2 a} h1 h2 h3 h4 h5 h6 => ?_, fun {i ns} q => ?_, R.tb⟩
  · obtain ⟨z1, z2⟩ := h i _ (by simp) q
    obtain ⟨v, e, r⟩ := R.dat z1
    exact ⟨v, z2.trans e, r⟩
  · obtain ⟨z1, z2⟩ := h i _ (by simp) q
    obtain ⟨p, e, r⟩ := R.own z1
    exact ⟨p, z2.trans e, r⟩
  · obtain ⟨z1, z2⟩ := h i _ (by simp) h1
    obtain ⟨y1, y2⟩ := h j _ (by simp) h2
    exact R.dis z1 y1 (z2 ▸ h3) (y2 ▸ h4) h5 h6
  · obtain ⟨z1, z2⟩ := h i _ (by simp) q
    obtain ⟨p, e, r⟩ := R.scr z1
    exact ⟨p, z2.trans e, r⟩
theorem Sx.alike {σ2 : L2.St} {ρ2 : Rho} (h : ∀ (i : Nat) (s : Sl), s ≠ Sl.un → ρ2[i]? = some s → ρ[i]? = some s ∧ σ2[i]? = σ[i]?) : Sx G σ ρ H G σ2 ρ2 H := by
  refine ⟨Same.refl _, fun _ h => .inl h, fun _ _ e _ _ => e, fun b ⟨i, c, ds, r, h1, h2, h3⟩ => ?_, fun _ h => h, fun i ds q => ?_⟩
  · obtain ⟨z1, z2⟩ := h i _ (by simp) h1
    exact .inl ⟨i, c, ds, r, z1, z2 ▸ h2, h3⟩
  · obtain ⟨z1, z2⟩ := h i _ (by simp) q
    exact ⟨⟨_, z1, fun _ => rfl⟩, z2⟩
theorem wiped (ks : List Nat) : ∀ (i : Nat) (s : Sl), s ≠ Sl.un → (wipeR ρ ks)[i]? = some s → ρ[i]? = some s ∧ (wipe σ ks)[i]? = σ[i]? := fun i s hs h => by
  obtain ⟨h1, h2⟩ := wipeR_get hs h
  exact ⟨h1, wipe_get h2⟩
theorem unwiped (ks : List Nat) : ∀ (i : Nat) (s : Sl), s ≠ Sl.un → (wipeR ρ ks)[i]? = some s → ρ[i]? = some s ∧ σ[i]? = (wipe σ ks)[i]? := fun i s hs h => by
  obtain ⟨h1, h2⟩ := wipeR_get hs h
  exact ⟨h1, (wipe_get h2).symm⟩
/-- an own list is changed that no slot holds -/
theorem Rl.poke {p : Addr} {xs : List V} {o : HO} (R : Rl ww K G σ ρ H) (hp : H p = some (.lst xs)) (gp : G p = none) (no : ¬ Ow σ ρ p) : Rl ww K G σ ρ (upd H p o) := by
  refine ⟨R.len, fun c u q => ?_, R.dat, fun {i b ds} h => ?_, R.dis, fun {i ns} h => ?_, R.tb.step (Same.refl _) fun P ps h1 h2 => ⟨h2, (upd_ne (fun z : P = p => by rw [z, hp] at h1; cases h1)).trans h1⟩⟩
  · have np : c ≠ p := fun z => by rw [z, gp] at q; cases q
    rw [upd_ne np]
    exact R.sub c u q
  · obtain ⟨q, e, eg, d⟩ := R.own h
    have np : ∀ a ∈ reg q ds, a ≠ p := fun a ha z => no ⟨i, b, ds, q, h, e, z ▸ ha⟩
    exact ⟨q, e, eg, d.step (Same.refl _) fun a ha => upd_ne (np a ha)⟩
  · obtain ⟨q, e, s⟩ := R.scr h
    refine ⟨q, e, ?_⟩
    rcases s with ⟨o2, s⟩ | s
    · have np : q ≠ p := fun z => by rw [z, hp] at s; cases s
      exact .inl ⟨o2, by rw [upd_ne np]; exact s⟩
    · exact .inr s
theorem Sx.poke {G' H' : Hp} {σ' : L2.St} {ρ' : Rho} {p : Addr} {o : HO} (s : Sx G σ ρ H G' σ' ρ' H') (n : H p = none) : Sx G σ ρ H G' σ' ρ' (upd H' p o) := by
  refine ⟨s.gr, s.new, fun c u q t h => ?_, s.ow, fun c h => ?_, s.par⟩
  · have np : c ≠ p := fun z => by rw [z, n] at q; cases q
    rw [upd_ne np]
    exact s.fr c u q t h
  · by_cases z : c = p
    · rw [z, upd_same]; simp
    · rw [upd_ne z]; exact s.al c h
end
/-- alike but at some slots -/
structure Off (ks : List Nat) (σ τ : L2.St) : Prop where
  len : σ.length = τ.length
  at_ : ∀ i, i ∉ ks → σ[i]? = τ[i]?
theorem wipe_at : ∀ (ks : List Nat) (τ : L2.St) (i : Nat), (wipe τ ks)[i]? = if i ∈ ks then (τ[i]?).map (fun _ => none) else τ[i]?
  | [], τ, i => rfl
  | a :: as, τ, i => by
    unfold wipe
    by_cases h : a = i
    · subst h
      rw [if_pos (by simp)]
      by_cases hl : a < τ.length
      · rw [List.getElem?_set_self (by rw [wipe_length]; exact hl), List.getElem?_eq_getElem hl]
        rfl
      · rw [List.getElem?_eq_none (by rw [List.length_set, wipe_length]; omega), List.getElem?_eq_none (by omega)]
        rfl
    · rw [List.getElem?_set_ne h, wipe_at as τ i]
      by_cases q : i ∈ as
      · rw [if_pos q, if_pos (by simp [q])]
      · rw [if_neg q, if_neg (by simp [q, Ne.symm h])]
theorem Off.wipe {ks : List Nat} {σ τ : L2.St} (h : Off ks σ τ) : L2.wipe σ ks = L2.wipe τ ks := by
  refine List.ext_getElem? fun i => ?_
  rw [wipe_at, wipe_at]
  by_cases q : i ∈ ks
  · rw [if_pos q, if_pos q]
    by_cases hl : i < σ.length
    · rw [List.getElem?_eq_getElem hl, List.getElem?_eq_getElem (by rw [← h.len]; exact hl)]
      rfl
    · rw [List.getElem?_eq_none (by omega), List.getElem?_eq_none (by rw [← h.len]; omega)]
  · rw [if_neg q, if_neg q]
    exact h.at_ i q
theorem Off.refl (ks : List Nat) (σ : L2.St) : Off ks σ σ := ⟨rfl, fun _ _ => rfl⟩
theorem Off.set {ks : List Nat} {σ τ : L2.St} {k : Nat} {v : Option V} (h : Off ks σ τ) (hk : k ∈ ks) : Off ks (σ.set k v) τ := ⟨by rw [List.length_set]; exact h.len, fun i hi => by
  have e : k ≠ i := fun z => hi (z ▸ hk)
  rw [List.getElem?_set_ne e]
  exact h.at_ i hi⟩
theorem off_wipe (ks : List Nat) (σ : L2.St) : Off ks (wipe σ ks) σ := ⟨wipe_length σ ks, fun i hi => wipe_get hi⟩
/-- names, one after another -/
def gNames : List Nat → TGs
  | [] => gNil
  | k :: ks => gCons (gName k) (gNames ks)
theorem names_go {ww : World} {K : PySem.W.Frag} {ks : List Nat} {σ : L2.St} {G H : Hp} : ∀ (js : List Nat), (∀ j ∈ js, j ∈ ks) → ∀ (τ : L2.St) (ρ ρ' : Rho) (xs : List V) (ds : List PyData) (Q : L2.St → Hp → Prop), Rl ww K G τ ρ H → Off ks τ σ → DaA K G xs ds → goT (js.map tName) ds ρ = some ρ' →
    (∀ σ', Rl ww K G σ' ρ' H → Sx G τ ρ H G σ' ρ' H → Off ks σ' σ → Q σ' H) → gNames js xs τ H Q
  | [], _, τ, ρ, ρ', xs, ds, Q, R, hw, hd, ht, q => by
    cases ds with
    | cons d ds => cases ht
    | nil =>
      cases hd
      cases ht
      exact ⟨rfl, q τ R (Sx.refl _ _ _ _) hw⟩
  | j :: js, hj, τ, ρ, ρ', xs, ds, Q, R, hw, hd, ht, q => by
    cases ds with
    | nil => cases ht
    | cons d ds =>
      cases hd with
      | @cons _ v vs _ _ h1 h2 =>
        exact ⟨v, vs, rfl, names_go js (fun i hi => hj i (by simp [hi])) (τ.set j (some v)) _ ρ' vs ds Q (R.put h1) (hw.set (hj j (by simp))) h2 ht fun σ' R' s' w' => q σ' R' (Sx.trans (Sx.put R) s') w'⟩
def cLoop (ks : List Nat) (t : GT) (c : TF) (f : EF) : List PyData → List PyData → Rho → Option (List PyData × Rho)
  | [], acc, ρ => some (acc, ρ)
  | d :: ds, acc, ρ => match t d ρ with
    | none => none
    | some ρ1 => match c ρ1 with
      | some (true, ρ2) => match f ρ2 with
        | some (y, ρ3) => if fits (acc.length + 1) = true then cLoop ks t c f ds (acc ++ [y]) (wipeR ρ3 ks) else none
        | none => none
      | some (false, ρ2) => cLoop ks t c f ds acc (wipeR ρ2 ks)
      | none => none
def fComp (it : LF) (ks : List Nat) (t : GT) (c : TF) (f : EF) : LF := fun ρ => match it ρ with
  | none => none
  | some (ds, ρ1) => cLoop ks t c f ds [] (wipeR ρ1 ks)
theorem lc_core2 {ww : World} {K : PySem.W.Frag} {J : It} {ds : List PyData} {ks : List Nat} {t : GT} {c : TF} {f : EF} {g : TG} {tt : TT} {te : TE} {G0 H0 : Hp} {σ : L2.St} {ρ0 ρf : Rho} {D : Addr} {r : List PyData} {Q : VK} (R0 : Rl ww K G0 σ ρ0 H0) (hD : H0 D = none)
    (hl : cLoop ks t c f ds [] (wipeR ρ0 ks) = some (r, ρf)) (k : ∀ xs G' H', Rl ww K G' σ ρf H' → Sx G0 σ ρ0 H0 G' σ ρf H' → H' D = some (.lst xs) → G' D = none → ¬ Ow σ ρf D → DaA K G' xs r → Q (.ref D) H')
    (go : ∀ i H, Same G0 H → i < ds.length → J.go i H) (stop : ∀ i H, Same G0 H → ds.length ≤ i → J.stop i H)
    (htt : ∀ σ H Q, rT ww K c σ H Q → tt σ H Q) (hte : ∀ σ H Q, rE ww K f σ H Q → te σ H Q)
    (step : ∀ i G1 ρ1 H x H' d ρ2 (Q : L2.St → Hp → Prop), Same G0 G1 → Rl ww K G1 (wipe σ ks) ρ1 H → J.yld i H x H' → ds[i]? = some d → t d ρ1 = some ρ2 → (∀ σ' H2, Rl ww K G1 σ' ρ2 H2 → Sx G1 (wipe σ ks) ρ1 H G1 σ' ρ2 H2 → Off ks σ' (wipe σ ks) → Q σ' H2) → g x (wipe σ ks) H' Q) :
    ∃ W : Nat → Nat → Hp → Prop, (∃ m, W 0 m (upd H0 D (.lst []))) ∧ ∀ i m H, W i m H →
      (J.stop i H ∧ Q (.ref D) H) ∨ (J.go i H ∧ ∃ Nx : Hp → Prop, (∀ H', Nx H' → ∃ m', m' < m ∧ W (i + 1) m' H') ∧ ∀ x H', J.yld i H x H' → g x (wipe σ ks) H' fun σ2 H2 => wipe σ2 ks = wipe σ ks ∧ tt σ2 H2 fun b H3 =>
        if b = true then te σ2 H3 fun y H4 => ∃ acc, H4 D = some (.lst acc) ∧ acc.length < sizeLine ∧ Nx (upd H4 D (.lst (acc ++ [y]))) else Nx H3) := by
  let P : Nat → Hp → Prop := fun i H => i ≤ ds.length ∧ ∃ G1 ρ1 acc xs, Rl ww K G1 (wipe σ ks) ρ1 H ∧ Sx G0 σ ρ0 H0 G1 (wipe σ ks) ρ1 H ∧ (∃ ρ', ρ1 = wipeR ρ' ks) ∧ H D = some (.lst xs) ∧ G1 D = none ∧ ¬ Ow (wipe σ ks) ρ1 D ∧ DaA K G1 xs acc ∧ cLoop ks t c f (ds.drop i) acc ρ1 = some (r, ρf)
  have x0 := Xt.more (p := D) (o := .lst []) R0.sub hD
  have Rw : Rl ww K G0 (wipe σ ks) (wipeR ρ0 ks) H0 := R0.alike (by rw [wipe_length, wipeR_len]; exact R0.len) (wiped ks)
  have s0 : Sx G0 σ ρ0 H0 G0 (wipe σ ks) (wipeR ρ0 ks) H0 := Sx.alike (wiped ks)
  refine ⟨fun i m H => m = ds.length - i ∧ P i H, ⟨_, rfl, Nat.zero_le _, G0, _, [], [], Rw.ext x0, s0.trans (.ext x0), ⟨_, rfl⟩, upd_same, Same.free R0.sub hD, noOw Rw hD, .nil, hl⟩, ?_⟩
  rintro i m H ⟨rfl, hi, G1, ρ1, acc, xs, R1, s1, hw, hd, gd, no, ha, e1⟩
  have sm : Same G0 H := s1.gr.trans R1.sub
  by_cases hlt : i < ds.length
  · refine .inr ⟨go i H sm hlt, P (i + 1), fun H' h => ⟨_, by omega, rfl, h⟩, fun x H' hy => ?_⟩
    rw [List.drop_eq_getElem_cons hlt] at e1
    unfold cLoop at e1
    split at e1
    · cases e1
    · rename_i ρ2 e2
      refine step i G1 ρ1 H x H' _ ρ2 _ s1.gr R1 hy (List.getElem?_eq_getElem hlt) e2 fun σ2 H2 R2 s2 o2 => ⟨by rw [o2.wipe, (off_wipe ks σ).wipe], htt _ _ _ ?_⟩
      have keepD : ∀ {G' H' : Hp} {σ' : L2.St} {ρ' : Rho}, Rl ww K G' σ' ρ' H' → Sx G1 (wipe σ ks) ρ1 H G' σ' ρ' H' → H' D = some (.lst xs) ∧ G' D = none ∧ ¬ Ow σ' ρ' D := fun {G' H' σ' ρ'} R' s' => by
        refine ⟨s'.fr D _ hd (fun _ z => nomatch z) no, ?_, fun o => ?_⟩
        · cases q : G' D with
          | none => rfl
          | some u =>
            rcases s'.new D (by rw [q]; simp) with z | z | z
            · exact (z gd).elim
            · rw [hd] at z; cases z
            · exact (no z).elim
        · rcases s'.ow D o with z | z
          · exact no z
          · rw [hd] at z; cases z
      have backW : ∀ {G' H' : Hp} {ρ' : Rho}, Rl ww K G' σ2 ρ' H' → Rl ww K G' (wipe σ ks) (wipeR ρ' ks) H' ∧ Sx G' σ2 ρ' H' G' (wipe σ ks) (wipeR ρ' ks) H' := fun {G' H' ρ'} R' => by
        have h : ∀ (i : Nat) (s : Sl), s ≠ Sl.un → (wipeR ρ' ks)[i]? = some s → ρ'[i]? = some s ∧ (wipe σ ks)[i]? = σ2[i]? := fun i s hs h => by
          obtain ⟨h1, h2⟩ := wipeR_get hs h
          exact ⟨h1, (o2.at_ i h2).symm⟩
        exact ⟨R'.alike (by rw [wipeR_len, ← R'.len, o2.len]) h, Sx.alike h⟩
      split at e1
      · rename_i ρ3 e3
        refine ⟨G1, ρ2, ρ3, true, R2, e3, fun G3 H3 R3 s3 => ?_⟩
        dsimp only
        rw [if_pos rfl]
        split at e1
        · rename_i y ρ4 e4
          split at e1
          · rename_i hz
            refine hte _ _ _ ⟨G3, ρ3, ρ4, y, R3, e4, fun v G4 H4 R4 s4 q4 => ?_⟩
            have st := (s2.trans s3).trans s4
            obtain ⟨d4, g4, n4⟩ := keepD R4 st
            obtain ⟨R5, s5⟩ := backW R4
            have n5 : ¬ Ow (wipe σ ks) (wipeR ρ4 ks) D := fun o => by
              rcases s5.ow D o with z | z
              · exact n4 z
              · rw [d4] at z; cases z
            refine ⟨xs, d4, by rw [ha.len]; exact fits_lt hz, hlt, G4, wipeR ρ4 ks, acc ++ [y], xs ++ [v], R5.poke d4 g4 n5, (((s1.trans st).trans s5)).poke hD, ⟨_, rfl⟩, upd_same, g4, n5, (ha.same st.gr).snoc q4, e1⟩
          · cases e1
        · cases e1
      · rename_i ρ3 e3
        refine ⟨G1, ρ2, ρ3, false, R2, e3, fun G3 H3 R3 s3 => ?_⟩
        dsimp only
        rw [if_neg Bool.false_ne_true]
        have st := s2.trans s3
        obtain ⟨d4, g4, n4⟩ := keepD R3 st
        obtain ⟨R5, s5⟩ := backW R3
        have n5 : ¬ Ow (wipe σ ks) (wipeR ρ3 ks) D := fun o => by
          rcases s5.ow D o with z | z
          · exact n4 z
          · rw [d4] at z; cases z
        exact ⟨hlt, G3, wipeR ρ3 ks, acc, xs, R5, (s1.trans st).trans s5, ⟨_, rfl⟩, d4, g4, n5, ha.same st.gr, e1⟩
      · cases e1
  · have e2 : i = ds.length := by omega
    subst e2
    rw [List.drop_length] at e1
    cases e1
    obtain ⟨ρ', rfl⟩ := hw
    have h : ∀ (i : Nat) (s : Sl), s ≠ Sl.un → (wipeR ρ' ks)[i]? = some s → (wipeR ρ' ks)[i]? = some s ∧ σ[i]? = (wipe σ ks)[i]? := fun i s hs h => ⟨h, (unwiped ks i s hs h).2⟩
    have R5 := R1.alike (σ2 := σ) (ρ2 := wipeR ρ' ks) (by rw [← R1.len, wipe_length]) h
    have s5 : Sx G1 (wipe σ ks) (wipeR ρ' ks) H G1 σ (wipeR ρ' ks) H := Sx.alike h
    refine .inl ⟨stop _ H sm (Nat.le_refl _), k xs G1 H R5 (s1.trans s5) hd gd (fun o => ?_) ha⟩
    rcases s5.ow D o with z | z
    · exact no z
    · rw [hd] at z; cases z
section
variable {X : Cx}
theorem rF_comp {ww : World} {K : PySem.W.Frag} {it : LF} {k : Nat} {c : TF} {f : EF} {tt : TT} {te : TE} (htt : ∀ σ H Q, rT ww K c σ H Q → tt σ H Q) (hte : ∀ σ H Q, rE ww K f σ H Q → te σ H Q) : ∀ σ H Q, rF ww K (fComp it [k] (tName k) c f) σ H Q → tLc (rI ww K it) (gName k) tt te [k] σ H Q := by
  rintro σ H Q ⟨G, ρ, ρ', ds, R, hf, q⟩
  unfold fComp at hf
  split at hf
  · cases hf
  · rename_i es ρ1 e1
    refine ⟨G, ρ, ρ1, es, R, e1, fun J G1 H1 R1 s1 j D hD => lc_core2 R1 hD hf (fun xs G' H' R' s' hd gd no ha => q D xs G' H' R' (s1.trans s') hd gd no (backN s1 hD) ha) j.go j.stop htt hte ?_⟩
    intro i G2 ρ2 H2 x H3 d ρ3 Q' sm R2 hy hd ht q'
    obtain ⟨e3, hx⟩ := j.yld i G2 H2 x H3 d sm R2.sub hy hd
    subst e3
    cases ht
    exact q' _ _ (R2.put hx) (Sx.put R2) ((Off.refl [k] _).set (by simp))
theorem rF_compP {ww : World} {K : PySem.W.Frag} {it : LF} {ks : List Nat} {n : Nat} {c : TF} {f : EF} {tt : TT} {te : TE} (htt : ∀ σ H Q, rT ww K c σ H Q → tt σ H Q) (hte : ∀ σ H Q, rE ww K f σ H Q → te σ H Q) : ∀ σ H Q, rF ww K (fComp it ks (tTupT n (ks.map tName)) c f) σ H Q → tLc (rIP ww K it) (gTup K n (gNames ks)) tt te ks σ H Q := by
  rintro σ H Q ⟨G, ρ, ρ', ds, R, hf, q⟩
  unfold fComp at hf
  split at hf
  · cases hf
  · rename_i es ρ1 e1
    refine ⟨G, ρ, ρ1, es, R, e1, fun J G1 H1 R1 s1 j D hD => lc_core2 R1 hD hf (fun xs G' H' R' s' hd gd no ha => q D xs G' H' R' (s1.trans s') hd gd no (backN s1 hD) ha) j.go j.stop htt hte ?_⟩
    intro i G2 ρ2 H2 x H3 d ρ3 Q' sm R2 hy hd ht q'
    obtain ⟨T, vs, es', rfl, nT, rfl, rfl, ha⟩ := j.yld i G2 H2 x H3 d sm R2.sub hy hd
    unfold tTupT at ht
    dsimp only at ht
    split at ht
    · rename_i hl
      have xx := Xt.more (p := T) (o := .tup vs) R2.sub nT
      refine ⟨T, vs, rfl, .inl (.inl upd_same), by rw [ha.len]; exact hl, ?_⟩
      exact names_go ks (fun _ h => h) _ ρ2 ρ3 vs es' Q' (R2.ext xx) (Off.refl ks _) ha ht fun σ' R' s' o' => q' σ' _ R' (Sx.trans (.ext xx) s') o'
    · cases ht
/-- .. over a sequence of pairs -/
theorem rF_compT {ww : World} {K : PySem.W.Frag} {it : LF} {ks : List Nat} {n : Nat} {c : TF} {f : EF} {tt : TT} {te : TE} (htt : ∀ σ H Q, rT ww K c σ H Q → tt σ H Q) (hte : ∀ σ H Q, rE ww K f σ H Q → te σ H Q) : ∀ σ H Q, rF ww K (fComp it ks (tTupT n (ks.map tName)) c f) σ H Q → tLc (rI ww K it) (fun v σ H Q => gTup K n (gNames ks) v σ H Q ∨ gUnl K n (gNames ks) v σ H Q) tt te ks σ H Q := by
  rintro σ H Q ⟨G, ρ, ρ', ds, R, hf, q⟩
  unfold fComp at hf
  split at hf
  · cases hf
  · rename_i es ρ1 e1
    refine ⟨G, ρ, ρ1, es, R, e1, fun J G1 H1 R1 s1 j D hD => lc_core2 (g := fun v σ H Q => gTup K n (gNames ks) v σ H Q ∨ gUnl K n (gNames ks) v σ H Q) R1 hD hf (fun xs G' H' R' s' hd gd no ha => q D xs G' H' R' (s1.trans s') hd gd no (backN s1 hD) ha) j.go j.stop htt hte ?_⟩
    intro i G2 ρ2 H2 x H3 d ρ3 Q' sm R2 hy hd ht q'
    obtain ⟨e3, hx⟩ := j.yld i G2 H2 x H3 d sm R2.sub hy hd
    subst e3
    unfold tTupT at ht
    split at ht
    · split at ht
      · rename_i hl
        cases hx with
        | tup hs ha => exact .inl ⟨_, _, rfl, (hs.same R2.sub).sq, by rw [ha.len]; exact hl, names_go ks (fun _ h => h) _ ρ2 ρ3 _ _ Q' R2 (Off.refl ks _) ha ht fun σ' R' s' o' => q' σ' _ R' s' o'⟩
      · cases ht
    · split at ht
      · rename_i hl
        cases hx with
        | lst hs ha => exact .inr ⟨_, _, rfl, .inl (.inl (R2.sub _ _ hs)), by rw [ha.len]; exact hl, names_go ks (fun _ h => h) _ ρ2 ρ3 _ _ Q' R2 (Off.refl ks _) ha ht fun σ' R' s' o' => q' σ' _ R' s' o'⟩
      · cases ht
    · cases ht
def fYes : TF := fun ρ => some (true, ρ)
theorem yes_of {ww : World} {K : PySem.W.Frag} : ∀ σ H Q, rT ww K fYes σ H Q → tYes σ H Q := by
  rintro σ H Q ⟨G, ρ, ρ', b, R, hf, k⟩
  cases hf
  exact k G H R (Sx.refl _ _ _ _)
end
end DL
namespace DL
open PySem PySem.Spec PyProof.Rows L2 GX StX
variable [DL.FT]
section
variable {X : Cx}
theorem pts_imp {ifs : List Expr} {t t' : TT} (h : PTs X ifs t) (i : ∀ σ H Q, t' σ H Q → t σ H Q) : PTs X ifs t' := ⟨fun pins s σ H Q I w => h.run pins s σ H Q I (i _ _ _ w)⟩
def DC (X : Cx) (ifs : List Expr) (c : TF) : Prop := PTs X ifs (rT X.w X.K c)
theorem dc_nil : DC X [] fYes := pts_imp pts_nil yes_of
theorem dc_one {e : Expr} {c : TF} (h : DT X e c) : DC X [e] c := pts_one h
/-- [elt for x in iter if ..] -/
theorem dn_comp {k : Nat} {x : Str} {elt iter : Expr} {ifs : List Expr} {scope : Scope} {pos p : Pos} {it : LF} {c : TF} {f : EF} (hc : X.calm = true) (hN : X.N.Nodup) (hi : DI X (.Name x p) iter it) (ok : BlkOk X.N X.env.scope scope [(x, k)])
    (hg : ∀ (s : Shared) (H : Hp) (C : Addr) (cl : List (Str × Addr)) (fp : List Addr), PG (X.blk s H scope (compEnvC scope cl C X.env) fp) (.Name x p) (gName k))
    (ht : ∀ (s : Shared) (H : Hp) (C : Addr) (cl : List (Str × Addr)) (fp : List Addr), DC (X.blk s H scope (compEnvC scope cl C X.env) fp) ifs c)
    (he : ∀ (s : Shared) (H : Hp) (C : Addr) (cl : List (Str × Addr)) (fp : List Addr), DE (X.blk s H scope (compEnvC scope cl C X.env) fp) elt f) (hs : ∀ x, foldedSetIterable iter X.env x = pure x := by intro _; rfl) :
    DN X (.ListComp elt [⟨.Name x p, iter, ifs, 0⟩] scope pos) (fComp it [k] (tName k) c f) :=
  pe_imp (pe_lc (own := [(x, k)]) (tt := rT X.w X.K c) (te := rE X.w X.K f) hc hN hi ok hg ht he hs) (rF_comp (fun _ _ _ h => h) fun _ _ _ h => h)
/-- .. x, y in pairs -/
theorem dn_compP {es : List Expr} {kk n : Nat} {own : List (Str × Nat)} {elt iter : Expr} {ifs : List Expr} {scope : Scope} {pos p : Pos} {it : LF} {c : TF} {f : EF} (hc : X.calm = true) (hN : X.N.Nodup) (hi : DIP X (.Tuple es kk p) iter it) (ok : BlkOk X.N X.env.scope scope own)
    (hg : ∀ (s : Shared) (H : Hp) (C : Addr) (cl : List (Str × Addr)) (fp : List Addr), PG (X.blk s H scope (compEnvC scope cl C X.env) fp) (.Tuple es kk p) (gTup X.K n (gNames (own.map (·.2)))))
    (ht : ∀ (s : Shared) (H : Hp) (C : Addr) (cl : List (Str × Addr)) (fp : List Addr), DC (X.blk s H scope (compEnvC scope cl C X.env) fp) ifs c)
    (he : ∀ (s : Shared) (H : Hp) (C : Addr) (cl : List (Str × Addr)) (fp : List Addr), DE (X.blk s H scope (compEnvC scope cl C X.env) fp) elt f) (hs : ∀ x, foldedSetIterable iter X.env x = pure x := by intro _; rfl) :
    DN X (.ListComp elt [⟨.Tuple es kk p, iter, ifs, 0⟩] scope pos) (fComp it (own.map (·.2)) (tTupT n ((own.map (·.2)).map tName)) c f) :=
  pe_imp (pe_lc (own := own) (tt := rT X.w X.K c) (te := rE X.w X.K f) hc hN hi ok hg ht he hs) (rF_compP (fun _ _ _ h => h) fun _ _ _ h => h)
theorem dn_compT {es : List Expr} {kk n : Nat} {own : List (Str × Nat)} {elt iter : Expr} {ifs : List Expr} {scope : Scope} {pos p : Pos} {it : LF} {c : TF} {f : EF} (hc : X.calm = true) (hN : X.N.Nodup) (hi : DI X (.Tuple es kk p) iter it) (ok : BlkOk X.N X.env.scope scope own)
    (hg : ∀ (s : Shared) (H : Hp) (C : Addr) (cl : List (Str × Addr)) (fp : List Addr), PG (X.blk s H scope (compEnvC scope cl C X.env) fp) (.Tuple es kk p) (gTup X.K n (gNames (own.map (·.2)))))
    (hg2 : ∀ (s : Shared) (H : Hp) (C : Addr) (cl : List (Str × Addr)) (fp : List Addr), PG (X.blk s H scope (compEnvC scope cl C X.env) fp) (.Tuple es kk p) (gUnl X.K n (gNames (own.map (·.2)))))
    (ht : ∀ (s : Shared) (H : Hp) (C : Addr) (cl : List (Str × Addr)) (fp : List Addr), DC (X.blk s H scope (compEnvC scope cl C X.env) fp) ifs c)
    (he : ∀ (s : Shared) (H : Hp) (C : Addr) (cl : List (Str × Addr)) (fp : List Addr), DE (X.blk s H scope (compEnvC scope cl C X.env) fp) elt f) (hs : ∀ x, foldedSetIterable iter X.env x = pure x := by intro _; rfl) :
    DN X (.ListComp elt [⟨.Tuple es kk p, iter, ifs, 0⟩] scope pos) (fComp it (own.map (·.2)) (tTupT n ((own.map (·.2)).map tName)) c f) :=
  pe_imp (pe_lc (own := own) (tt := rT X.w X.K c) (te := rE X.w X.K f) hc hN hi ok (fun s H C cl fp => pg_or (hg s H C cl fp) (hg2 s H C cl fp)) ht he hs) (rF_compT (fun _ _ _ h => h) fun _ _ _ h => h)
/-- y = [..] on one line -/
theorem ds_setC {i k : Nat} {y x : Str} {py : Pos} {elt iter : Expr} {ifs : List Expr} {scope : Scope} {pos p spos : Pos} {it : LF} {c : TF} {f : EF} (hc : X.calm = true) (hN : X.N.Nodup) (hy : X.N[i]? = some y) (hyl : X.env.scope.names.lookup y = some .local)
    (hsw : swapsWith (.ListComp elt [⟨.Name x p, iter, ifs, 0⟩] scope pos) (some (.Name y py)) spos.line X.env = pure true) (hi : DI X (.Name x p) iter it) (ok : BlkOk X.N X.env.scope scope [(x, k)])
    (hg : ∀ (s : Shared) (H : Hp) (C : Addr) (cl : List (Str × Addr)) (fp : List Addr), PG (X.blk s H scope (compEnvC scope cl C X.env) fp) (.Name x p) (gName k))
    (ht : ∀ (s : Shared) (H : Hp) (C : Addr) (cl : List (Str × Addr)) (fp : List Addr), DC (X.blk s H scope (compEnvC scope cl C X.env) fp) ifs c)
    (he : ∀ (s : Shared) (H : Hp) (C : Addr) (cl : List (Str × Addr)) (fp : List Addr), DE (X.blk s H scope (compEnvC scope cl C X.env) fp) elt f) (hs : ∀ x, foldedSetIterable iter X.env x = pure x := by intro _; rfl) :
    DS X (.Assign [.Name y py] (.ListComp elt [⟨.Name x p, iter, ifs, 0⟩] scope pos) spos) (fHold i (fComp it [k] (tName k) c f)) := by
  refine ps_imp (ps_setLc (own := [(x, k)]) (tt := rT X.w X.K c) (te := rE X.w X.K f) hc hN hy hyl hsw hi ok hg ht he hs) ?_
  intro D σ H h
  exact rF_comp (fun _ _ _ h => h) (fun _ _ _ h => h) _ _ _ (rS_hold _ _ _ h)
end
abbrev FF := List Sl → Option (PyData × List Sl)
def spD (ww : World) (K : PySem.W.Frag) (n : Nat) (F : FF) : Sp := fun vs H Q _ => vs.length = n ∧ ∃ G sls sls' d, Rl ww K G (vs.map some) sls H ∧ F sls = some (d, sls') ∧
  ∀ v G' H', Rl ww K G' (vs.map some) sls' H' → Sx G (vs.map some) sls H G' (vs.map some) sls' H' → Da K G' v d → Q v H'
/-- what is left of the parameters: the lists that the caller gave -/
def parOf : Option Sl → Sl
  | some (.own true ds) => .own true ds
  | _ => .un
def backP (n : Nat) (ρ : Rho) : List Sl := (List.range n).map fun (i : Nat) => parOf ρ[i]?
/-- a def's body, m slots behind the parameters -/
def fBody (m : Nat) (g : SF) : FF := fun sls => match g (sls ++ List.replicate m .un) with
  | some (.rt d ρ') => some (d, backP sls.length ρ')
  | some (.nx ρ') => some (.none, backP sls.length ρ')
  | _ => none
theorem app_un {sls : List Sl} {m i : Nat} {s : Sl} (hs : s ≠ .un) (h : (sls ++ List.replicate m Sl.un)[i]? = some s) : sls[i]? = some s := by
  by_cases hl : i < sls.length
  · rw [List.getElem?_append_left hl] at h; exact h
  · rw [List.getElem?_append_right (by omega)] at h
    exact (hs (not_un h)).elim
theorem backP_get {ρ : Rho} {n i : Nat} {s : Sl} (hs : s ≠ .un) (h : (backP n ρ)[i]? = some s) : ∃ ds, s = .own true ds ∧ ρ[i]? = some (.own true ds) ∧ i < n := by
  unfold backP at h
  rw [List.getElem?_map] at h
  cases q : (List.range n)[i]? with
  | none => rw [q] at h; cases h
  | some j =>
    rw [q] at h
    obtain ⟨hl, z⟩ := List.getElem?_eq_some_iff.mp q
    rw [List.getElem_range] at z
    subst z
    rw [List.length_range] at hl
    have e : parOf ρ[i]? = s := Option.some.inj h
    unfold parOf at e
    split at e
    · rename_i ds e2
      exact ⟨ds, e.symm, e2, hl⟩
    · exact (hs e.symm).elim
theorem backP_len (n : Nat) (ρ : Rho) : (backP n ρ).length = n := by simp [backP]
/-- what a body's end is to its caller -/
theorem fin_of {ww : World} {K : PySem.W.Frag} {G G' H H' : Hp} {vs : List V} {sls : List Sl} {σ' : L2.St} {ρ' : Rho} {m : Nat} (hl : vs.length = sls.length) (R' : Rl ww K G' σ' ρ' H')
    (s : Sx G (vs.map some ++ List.replicate m none) (sls ++ List.replicate m .un) H G' σ' ρ' H') : Rl ww K G' (vs.map some) (backP sls.length ρ') H' ∧ Sx G (vs.map some) sls H G' (vs.map some) (backP sls.length ρ') H' := by
  have ow : ∀ b, Ow (vs.map some ++ List.replicate m none) (sls ++ List.replicate m .un) b → Ow (vs.map some) sls b := fun b ⟨i, c, ds, r, h1, h2, h3⟩ => by
    have z := app_un (by simp) h1
    have li : i < sls.length := (List.getElem?_eq_some_iff.mp z).1
    rw [List.getElem?_append_left (by simp [hl, li])] at h2
    exact ⟨i, c, ds, r, z, h2, h3⟩
  have owr : ∀ b, Ow (vs.map some) sls b → Ow (vs.map some ++ List.replicate m none) (sls ++ List.replicate m .un) b := fun b ⟨i, c, ds, r, h1, h2, h3⟩ => by
    have li : i < sls.length := (List.getElem?_eq_some_iff.mp h1).1
    exact ⟨i, c, ds, r, by rw [List.getElem?_append_left li]; exact h1, by rw [List.getElem?_append_left (by simp [hl, li])]; exact h2, h3⟩
  have at_ : ∀ (i : Nat) (ds : Cn), ρ'[i]? = some (.own true ds) → i < sls.length → (vs.map some)[i]? = σ'[i]? ∧ ∃ es, sls[i]? = some (.own true es) ∧ ∀ r, reg r ds = reg r es := fun i ds h hi => by
    obtain ⟨⟨es', h1, hr⟩, h2⟩ := s.par i ds h
    rw [h2, List.getElem?_append_left (by simp [hl, hi])]
    exact ⟨rfl, es', app_un (by simp) h1, hr⟩
  have of : ∀ (i : Nat) (s : Sl), s ≠ Sl.un → (backP sls.length ρ')[i]? = some s → ρ'[i]? = some s ∧ (vs.map some)[i]? = σ'[i]? := fun i s hs h => by
    obtain ⟨ds, rfl, h2, h3⟩ := backP_get hs h
    exact ⟨h2, (at_ i ds h2 h3).1⟩
  refine ⟨R'.alike (by rw [backP_len, List.length_map, hl]) of, ⟨s.gr, fun b h => ?_, fun b o e t n => s.fr b o e t fun z => n (ow b z), fun b ⟨i, c, ds, r, h1, h2, h3⟩ => ?_, s.al, fun i ds h => ?_⟩⟩
  · rcases s.new b h with z | z | z
    · exact .inl z
    · exact .inr (.inl z)
    · exact .inr (.inr (ow b z))
  · obtain ⟨z1, z2⟩ := of i _ (by simp) h1
    rcases s.ow b ⟨i, c, ds, r, z1, z2 ▸ h2, h3⟩ with z | z
    · exact .inl (ow b z)
    · exact .inr z
  · obtain ⟨es, e, z, h3⟩ := backP_get (by simp) h
    cases e
    exact ⟨(at_ i _ z h3).2, rfl⟩
section
variable {P : Program} {w : World} {K : PySem.W.Frag} {mg : Str → Option Value} {base : Heap} {f : Addr} {fd : FuncData}
theorem okDc {x qual : Str} {pa : Arguments} {bd : List Stmt} {sc : Scope} {dvs : List V} {kws : List (Str × V)} {N ps : List Str} {k : Nat} {g : SF} (F : FunD K x qual pa bd sc dvs kws f fd) (S : FnScope N ps sc)
    (body : ∀ (cdw : Value), fd.code = cdw → ∀ (A : Around) (outer : List PySem.Env) (s : Shared) (H : Hp) (E : XK), Gd (A.deeper (envOfC qual sc s.heap.objs.size f cdw)) → Room k (A.deeper (envOfC qual sc s.heap.objs.size f cdw)) → DSs (cxOf CX0 P w K mg base N qual sc f cdw A outer s H E).nox bd g) :
    FnG P w K mg base (k + 1) f fd ps (spD w K ps.length (fBody (N.length - ps.length) g)) := by
  refine okGc F S (fun vs H Q E h => h.1) fun cdv hc A outer s H vs Q E hG hR h => ⟨rS w K g, body cdv hc A outer s H E hG hR, ?_⟩
  obtain ⟨hl, G, sls, sls', d, R, hf, q⟩ := h
  have hls : vs.length = sls.length := by have := R.len; rwa [List.length_map] at this
  have es : start N vs = vs.map some ++ List.replicate (N.length - ps.length) none := by
    show vs.map some ++ List.replicate (N.length - vs.length) none = _
    rw [hl]
  have R0 : Rl w K G (vs.map some ++ List.replicate (N.length - ps.length) none) (sls ++ List.replicate (N.length - ps.length) .un) H := by
    refine R.alike (by simp [hls]) fun i s hs h => ?_
    have z := app_un hs h
    have li : i < sls.length := (List.getElem?_eq_some_iff.mp z).1
    exact ⟨z, by rw [List.getElem?_append_left (by simp [hls, li])]⟩
  rw [es]
  unfold fBody at hf
  split at hf
  · rename_i d' ρ' e
    cases hf
    exact ⟨G, _, _, R0, e, fun σ' v G' H' R' s' hd => let ⟨z1, z2⟩ := fin_of hls R' s'; q v G' H' z1 z2 hd⟩
  · rename_i ρ' e
    cases hf
    exact ⟨G, _, _, R0, e, fun σ' G' H' R' s' => let ⟨z1, z2⟩ := fin_of hls R' s'; q .non G' H' z1 z2 .non⟩
  · cases hf
theorem okD {x qual : Str} {pa : Arguments} {bd : List Stmt} {sc : Scope} {dvs : List V} {kws : List (Str × V)} {N ps : List Str} {k : Nat} {g : SF} (F : FunD K x qual pa bd sc dvs kws f fd) (S : FnScope N ps sc)
    (body : ∀ (cdw : Value) (A : Around) (outer : List PySem.Env) (s : Shared) (H : Hp) (E : XK), Gd (A.deeper (envOfC qual sc s.heap.objs.size f cdw)) → Room k (A.deeper (envOfC qual sc s.heap.objs.size f cdw)) → DSs (cxOf CX0 P w K mg base N qual sc f cdw A outer s H E).nox bd g) :
    FnG P w K mg base (k + 1) f fd ps (spD w K ps.length (fBody (N.length - ps.length) g)) :=
  okDc F S fun cdw _ => body cdw
end
def toSl (ρ : Rho) : Ag → Sl
  | .d x => .dat x
  | .v j => match ρ[j]? with
    | some (.own _ ds) => .own true ds
    | some s => s
    | none => .un
def ownJ (ρ : Rho) : Ag → Option Nat
  | .d _ => none
  | .v j => match ρ[j]? with
    | some (.own _ _) => some j
    | _ => none
/-- the caller's lists behind the call -/
def backC (ρ : Rho) : List Ag → List Sl → Rho
  | a :: as, s :: ss => match ownJ ρ a, s with
    | some j, .own true ds => match ρ[j]? with
      | some (.own b _) => (backC ρ as ss).set j (.own b ds)
      | _ => backC ρ as ss
    | some j, _ => (backC ρ as ss).set j .un
    | none, _ => backC ρ as ss
  | _, _ => ρ
def fCall (F : FF) (f : AF) : EF := fun ρ => match f ρ with
  | none => none
  | some (as, ρ1) => if (as.filterMap (ownJ ρ1)).Nodup then match F (as.map (toSl ρ1)) with
      | none => none
      | some (d, sls') => if sls'.length = as.length then some (d, backC ρ1 as sls') else none
    else none
theorem ownJ_of {ρ : Rho} {a : Ag} {j : Nat} (h : ownJ ρ a = some j) : a = .v j ∧ ∃ (b : Bool) (ds : Cn), ρ[j]? = some (.own b ds) := by
  cases a with
  | d x => cases h
  | v i =>
    unfold ownJ at h
    dsimp only at h
    split at h
    · rename_i b ds e
      cases h
      exact ⟨rfl, b, ds, e⟩
    · cases h
theorem nodup_at {α β : Type} {f : α → Option β} : ∀ {l : List α} {i i' : Nat} {a a' : α} {b : β}, (l.filterMap f).Nodup → l[i]? = some a → l[i']? = some a' → f a = some b → f a' = some b → i = i'
  | [], _, _, _, _, _, _, h, _, _, _ => by simp at h
  | x :: l, i, i', a, a', b, nd, h, h', e, e' => by
    have mem : ∀ {k : Nat} {c : α}, l[k]? = some c → f c = some b → b ∈ l.filterMap f := fun {k c} q z => List.mem_filterMap.mpr ⟨c, List.mem_of_getElem? q, z⟩
    have tl : (l.filterMap f).Nodup := by
      rw [List.filterMap_cons] at nd
      split at nd
      · exact nd
      · exact (List.nodup_cons.mp nd).2
    cases i with
    | zero =>
      cases i' with
      | zero => rfl
      | succ m =>
        simp at h h'
        subst h
        rw [List.filterMap_cons, e] at nd
        exact ((List.nodup_cons.mp nd).1 (mem h' e')).elim
    | succ n =>
      cases i' with
      | zero =>
        simp at h h'
        subst h'
        rw [List.filterMap_cons, e'] at nd
        exact ((List.nodup_cons.mp nd).1 (mem h e)).elim
      | succ m =>
        simp at h h'
        rw [nodup_at tl h h' e e']
theorem paired_at {α β : Type} {F : α → β → Prop} : ∀ {as : List α} {bs : List β} {i : Nat} {a : α}, Paired F as bs → as[i]? = some a → ∃ b, bs[i]? = some b ∧ F a b
  | _, _, _, _, .nil, h => by simp at h
  | _, _, 0, _, .cons h1 _, h => by
    simp at h
    subst h
    exact ⟨_, rfl, h1⟩
  | _, _, i + 1, _, .cons _ h2, h => by
    obtain ⟨b, e, z⟩ := paired_at (i := i) h2 (by simpa using h)
    exact ⟨b, by simpa using e, z⟩
theorem toSl_at {ρ : Rho} {as : List Ag} {i : Nat} {s : Sl} (hs : s ≠ .un) (h : (as.map (toSl ρ))[i]? = some s) : ∃ a, as[i]? = some a ∧ ((∃ d, a = .d d ∧ s = .dat d) ∨ ∃ j, a = .v j ∧ ((∃ (b : Bool) (ds : Cn), ρ[j]? = some (.own b ds) ∧ s = .own true ds) ∨ (ρ[j]? = some s ∧ ∀ b ds, s ≠ .own b ds))) := by
  rw [List.getElem?_map] at h
  cases q : as[i]? with
  | none => rw [q] at h; cases h
  | some a =>
    rw [q] at h
    have e : toSl ρ a = s := Option.some.inj h
    refine ⟨a, rfl, ?_⟩
    cases a with
    | d x => exact .inl ⟨x, rfl, e.symm⟩
    | v j =>
      refine .inr ⟨j, rfl, ?_⟩
      unfold toSl at e
      dsimp only at e
      split at e
      · rename_i b ds e2
        exact .inl ⟨b, ds, e2, e.symm⟩
      · rename_i s2 hn e2
        subst e
        exact .inr ⟨e2, fun b ds z => hn b ds z⟩
      · exact (hs e.symm).elim
theorem backC_at {ρ : Rho} {s : Sl} (hs : s ≠ .un) {j : Nat} : ∀ {as : List Ag} {ss : List Sl}, as.length = ss.length → (backC ρ as ss)[j]? = some s →
    (ρ[j]? = some s ∧ ∀ (i : Nat) (a : Ag), as[i]? = some a → ownJ ρ a ≠ some j) ∨ ∃ (i : Nat) (b : Bool) (c0 ds : Cn), as[i]? = some (.v j) ∧ ρ[j]? = some (.own b c0) ∧ ss[i]? = some (.own true ds) ∧ s = .own b ds
  | [], _, _, h => by
    unfold backC at h
    exact .inl ⟨h, fun i a e => by simp at e⟩
  | a :: as, [], hl, _ => by simp at hl
  | a :: as, s0 :: ss, hl, h => by
    have hl' : as.length = ss.length := by simpa using hl
    have up : (∃ (i : Nat) (b : Bool) (c0 ds : Cn), as[i]? = some (.v j) ∧ ρ[j]? = some (.own b c0) ∧ ss[i]? = some (.own true ds) ∧ s = .own b ds) →
        ∃ (i : Nat) (b : Bool) (c0 ds : Cn), (a :: as)[i]? = some (.v j) ∧ ρ[j]? = some (.own b c0) ∧ (s0 :: ss)[i]? = some (.own true ds) ∧ s = .own b ds := fun ⟨i, b, c0, ds, h1, h2, h3, h4⟩ => ⟨i + 1, b, c0, ds, by simpa using h1, h2, by simpa using h3, h4⟩
    have ext : ownJ ρ a ≠ some j → (∀ (i : Nat) (a : Ag), as[i]? = some a → ownJ ρ a ≠ some j) → ∀ (i : Nat) (c : Ag), (a :: as)[i]? = some c → ownJ ρ c ≠ some j := fun h0 h1 i c e => by
      cases i with
      | zero => simp at e; subst e; exact h0
      | succ i => exact h1 i c (by simpa using e)
    unfold backC at h
    split at h
    · rename_i j0 ds e0
      obtain ⟨ea, b0, d0, er⟩ := ownJ_of e0
      rw [er] at h
      dsimp only at h
      rcases set_get h with ⟨z1, z2, _⟩ | ⟨n, h⟩
      · subst z1
        exact .inr ⟨0, b0, d0, ds, by rw [ea]; rfl, er, rfl, z2⟩
      · rcases backC_at hs hl' h with ⟨h1, h2⟩ | h2
        · exact .inl ⟨h1, ext (fun z => by rw [e0] at z; exact n (Option.some.inj z).symm) h2⟩
        · exact .inr (up h2)
    · rename_i j0 e0 hn
      rcases set_get h with ⟨_, z2, _⟩ | ⟨n, h⟩
      · exact (hs z2).elim
      · rcases backC_at hs hl' h with ⟨h1, h2⟩ | h2
        · exact .inl ⟨h1, ext (fun z => by rw [e0] at z; exact n (Option.some.inj z).symm) h2⟩
        · exact .inr (up h2)
    · have e0 : ownJ ρ a = none := by assumption
      rcases backC_at hs hl' h with ⟨h1, h2⟩ | h2
      · exact .inl ⟨h1, ext (fun z => by rw [e0] at z; cases z) h2⟩
      · exact .inr (up h2)
theorem backC_len {ρ : Rho} : ∀ (as : List Ag) (ss : List Sl), (backC ρ as ss).length = ρ.length
  | [], _ => by unfold backC; rfl
  | _ :: _, [] => by unfold backC; rfl
  | a :: as, s0 :: ss => by
    unfold backC
    split
    · split
      · rw [List.length_set]; exact backC_len as ss
      · exact backC_len as ss
    · rw [List.length_set]; exact backC_len as ss
    · exact backC_len as ss
theorem paired_len {α β : Type} {F : α → β → Prop} : ∀ {as : List α} {bs : List β}, Paired F as bs → as.length = bs.length
  | _, _, .nil => rfl
  | _, _, .cons _ t => congrArg Nat.succ (paired_len t)
section
variable {ww : World} {K : PySem.W.Frag} {G G' H H' : Hp} {σ : L2.St} {ρ : Rho} {as : List Ag} {vs : List V} {ss : List Sl}
theorem call_in (R : Rl ww K G σ ρ H) (ha : Paired (AgR K G σ) as vs) (nd : (as.filterMap (ownJ ρ)).Nodup) : Rl ww K G (vs.map some) (as.map (toSl ρ)) H := by
  have vat : ∀ {i : Nat} {v : V}, vs[i]? = some v → (vs.map some)[i]? = some (some v) := fun {i v} e => by rw [List.getElem?_map, e]; rfl
  refine ⟨by rw [List.length_map, List.length_map, paired_len ha], R.sub, fun {i d} q => ?_, fun {i b ds} q => ?_, fun {i i' b c ds es p p2 a0} h1 h2 h3 h4 h5 h6 => ?_, fun {i ns} q => ?_, R.tb⟩
  · obtain ⟨a, ea, h⟩ := toSl_at (by simp) q
    obtain ⟨v, ev, hv⟩ := paired_at ha ea
    refine ⟨v, vat ev, ?_⟩
    rcases h with ⟨d', rfl, e⟩ | ⟨j, rfl, ⟨b, ds, _, e⟩ | ⟨e, _⟩⟩
    · cases e; exact hv
    · cases e
    · obtain ⟨u, e', hu⟩ := R.dat e
      have hv' : σ[j]? = some (some v) := hv
      rw [hv'] at e'
      cases e'
      exact hu
  · obtain ⟨a, ea, h⟩ := toSl_at (by simp) q
    obtain ⟨v, ev, hv⟩ := paired_at ha ea
    rcases h with ⟨d', rfl, e⟩ | ⟨j, rfl, ⟨b', ds', e2, e⟩ | ⟨_, e⟩⟩
    · cases e
    · cases e
      obtain ⟨p, e', r⟩ := R.own e2
      have hv' : σ[j]? = some (some v) := hv
      rw [hv'] at e'
      cases e'
      exact ⟨p, vat ev, r⟩
    · exact (e _ _ rfl).elim
  · obtain ⟨a, ea, h⟩ := toSl_at (by simp) h1
    obtain ⟨a', ea', h'⟩ := toSl_at (by simp) h2
    obtain ⟨v, ev, hv⟩ := paired_at ha ea
    obtain ⟨v', ev', hv'⟩ := paired_at ha ea'
    rw [vat ev] at h3
    rw [vat ev'] at h4
    cases h3
    cases h4
    rcases h with ⟨d', rfl, e⟩ | ⟨j, rfl, ⟨b1, ds1, e1, e⟩ | ⟨_, e⟩⟩
    · cases e
    · rcases h' with ⟨d', rfl, e'⟩ | ⟨j', rfl, ⟨b2, ds2, e2, e'⟩ | ⟨_, e'⟩⟩
      · cases e'
      · cases e
        cases e'
        have z := R.dis e1 e2 hv hv' h5 h6
        subst z
        have o : ownJ ρ (.v j) = some j := by unfold ownJ; dsimp only; rw [e1]
        exact nodup_at nd ea ea' o o
      · exact (e' _ _ rfl).elim
    · exact (e _ _ rfl).elim
  · obtain ⟨a, ea, h⟩ := toSl_at (by simp) q
    obtain ⟨v, ev, hv⟩ := paired_at ha ea
    rcases h with ⟨d', rfl, e⟩ | ⟨j, rfl, ⟨b, ds, _, e⟩ | ⟨e, _⟩⟩
    · cases e
    · cases e
    · obtain ⟨p, e', r⟩ := R.scr e
      have hv' : σ[j]? = some (some v) := hv
      rw [hv'] at e'
      cases e'
      exact ⟨p, vat ev, r⟩
theorem call_out (R : Rl ww K G σ ρ H) (ha : Paired (AgR K G σ) as vs) (hl : as.length = ss.length) (R' : Rl ww K G' (vs.map some) ss H') (s : Sx G (vs.map some) (as.map (toSl ρ)) H G' (vs.map some) ss H') :
    Rl ww K G' σ (backC ρ as ss) H' ∧ Sx G σ ρ H G' σ (backC ρ as ss) H' := by
  have at' : ∀ {i : Nat} {v : V}, (vs.map some)[i]? = some (some v) → vs[i]? = some v := fun {i v} e => by
    rw [List.getElem?_map] at e
    cases q : vs[i]? with
    | none => rw [q] at e; cases e
    | some u => rw [q] at e; cases e; rfl
  have ow : ∀ b, Ow (vs.map some) (as.map (toSl ρ)) b → ∃ (i j : Nat) (r : Addr) (c : Bool) (ds : Cn), as[i]? = some (.v j) ∧ ownJ ρ (.v j) = some j ∧ ρ[j]? = some (.own c ds) ∧ σ[j]? = some (some (.ref r)) ∧ b ∈ reg r ds := fun b ⟨i, c, ds, r, h1, h2, h3⟩ => by
    obtain ⟨a, ea, h⟩ := toSl_at (by simp) h1
    obtain ⟨v, ev, hv⟩ := paired_at ha ea
    rw [at' h2] at ev
    cases ev
    rcases h with ⟨d', rfl, e⟩ | ⟨j, rfl, ⟨b1, ds1, e1, e⟩ | ⟨_, e⟩⟩
    · cases e
    · cases e
      exact ⟨i, j, r, b1, _, ea, by unfold ownJ; dsimp only; rw [e1], e1, hv, h3⟩
    · exact (e _ _ rfl).elim
  have ow2 : ∀ b, Ow (vs.map some) (as.map (toSl ρ)) b → Ow σ ρ b := fun b h => by
    obtain ⟨i, j, r, c, ds, _, _, e, e2, e3⟩ := ow b h
    exact ⟨j, c, ds, r, e, e2, e3⟩
  have isown : ∀ {j : Nat} {b : Bool} {ds : Cn}, (backC ρ as ss)[j]? = some (.own b ds) → ∃ es, ρ[j]? = some (.own b es) ∧ ∀ r, reg r ds = reg r es := fun {j b ds} h => by
    rcases backC_at (by simp) hl h with ⟨h1, _⟩ | ⟨i, b', c0, ds', ea, h2, h3, e⟩
    · exact ⟨_, h1, fun _ => rfl⟩
    · cases e
      obtain ⟨⟨es, h4, hr⟩, _⟩ := s.par i _ h3
      have h5 : (as.map (toSl ρ))[i]? = some (.own true c0) := by
        rw [List.getElem?_map, ea]
        show some (toSl ρ (.v j)) = _
        unfold toSl
        dsimp only
        rw [h2]
      rw [h5] at h4
      cases h4
      exact ⟨_, h2, hr⟩
  refine ⟨⟨by rw [backC_len]; exact R.len, R'.sub, fun {j d} q => ?_, fun {j b ds} q => ?_, fun {j k b c ds es p p2 a0} h1 h2 h3 h4 h5 h6 => ?_, fun {j ns} q => ?_, R'.tb⟩, ⟨s.gr, fun b h => ?_, fun b o e t n => s.fr b o e t fun z => n (ow2 b z), fun b ⟨j, c, ds, r, h1, h2, h3⟩ => ?_, s.al, fun j ds h => ?_⟩⟩
  · rcases backC_at (by simp) hl q with ⟨h1, _⟩ | ⟨i, b', c0, ds', _, h2, _, e⟩
    · obtain ⟨v, e, hv⟩ := R.dat h1
      exact ⟨v, e, hv.same s.gr⟩
    · cases e
  · rcases backC_at (by simp) hl q with ⟨h1, hno⟩ | ⟨i, b', c0, ds', ea, h2, h3, e⟩
    · obtain ⟨p, ep, gp, hd⟩ := R.own h1
      have no : ∀ a ∈ reg p ds, ¬ Ow (vs.map some) (as.map (toSl ρ)) a := fun a ha z => by
        obtain ⟨i, j', r, c, es, ea, oj, e1, e2, e3⟩ := ow a z
        have jj := R.dis e1 h1 e2 ep e3 ha
        subst jj
        exact hno i _ ea oj
      refine ⟨p, ep, fun a ha => ?_, hd.step s.gr fun a ha => ?_⟩
      · cases z : G' a with
        | none => rfl
        | some u =>
          rcases s.new a (by rw [z]; simp) with y | y | y
          · exact (y (gp a ha)).elim
          · exact (hd.ne ha y).elim
          · exact (no a ha y).elim
      · cases z : H a with
        | none => exact (hd.ne ha z).elim
        | some o => exact s.fr a _ z (hd.noT ha z) (no a ha)
    · cases e
      obtain ⟨p, ep, r⟩ := R'.own h3
      obtain ⟨v, ev, hv⟩ := paired_at ha ea
      rw [at' ep] at ev
      cases ev
      exact ⟨p, hv, r⟩
  · obtain ⟨_, e1, r1⟩ := isown h1
    obtain ⟨_, e2, r2⟩ := isown h2
    exact R.dis e1 e2 h3 h4 (r1 p ▸ h5) (r2 p2 ▸ h6)
  · rcases backC_at (by simp) hl q with ⟨h1, _⟩ | ⟨i, b', c0, ds', _, h2, _, e⟩
    · obtain ⟨p, e, r⟩ := R.scr h1
      refine ⟨p, e, ?_⟩
      rcases r with ⟨o, r⟩ | r
      · refine .inl ⟨o, s.fr p _ r (fun _ z => nomatch z) fun z => ?_⟩
        obtain ⟨_, _, e3⟩ := R.at (ow2 p z)
        exact e3 _ _ r
      · exact .inr r
    · cases e
  · rcases s.new b h with z | z | z
    · exact .inl z
    · exact .inr (.inl z)
    · exact .inr (.inr (ow2 b z))
  · obtain ⟨_, e1, r1⟩ := isown h1
    exact .inl ⟨j, c, _, r, e1, h2, r1 r ▸ h3⟩
  · obtain ⟨_, e1, r1⟩ := isown h
    exact ⟨⟨_, e1, r1⟩, rfl⟩
end
section
variable {X : Cx} {k : Nat} {f : Addr} {fd : FuncData} {ps : List Str} {n : Nat} {F : FF} {x : Str} {p pos : Pos} {e : Expr} {es : List Expr} {g : AF}
theorem tCall_of {ww : World} {K : PySem.W.Frag} {F : FF} {g : AF} {n : Nat} : ∀ σ H Q, rE ww K (fun ρ => match fCall F g ρ with | some r => (match g ρ with | some (as, _) => if as.length = n then some r else none | none => none) | none => none) σ H Q → tCall (spD ww K n F) [] E0 (rAs ww K g) σ H Q := by
  rintro σ H Q ⟨G, ρ, ρ', d, R, hf, q⟩
  dsimp only at hf
  split at hf
  · rename_i r hr
    split at hf
    · rename_i as ρ1 h1
      split at hf
      · rename_i hn
        cases hf
        unfold fCall at hr
        rw [h1] at hr
        dsimp only at hr
        split at hr
        · rename_i nd
          split at hr
          · cases hr
          · rename_i d' ss h2
            split at hr
            · rename_i hl
              cases hr
              refine ⟨G, ρ, ρ1, as, R, h1, fun vs G1 H1 R1 s1 q1 => ?_⟩
              show spD ww K n F (vs ++ []) H1 Q E0
              rw [List.append_nil]
              refine ⟨by rw [← paired_len q1]; exact hn, G1, _, ss, _, call_in R1 q1 nd, h2, fun v G2 H2 R2 s2 hd => ?_⟩
              obtain ⟨R3, s3⟩ := call_out R1 q1 hl.symm R2 s2
              exact q v G2 H2 R3 (s1.trans s3) hd
            · cases hr
        · cases hr
      · cases hf
    · cases hf
  · cases hf
def fCa (n : Nat) (F : FF) (g : AF) : EF := fun ρ => match fCall F g ρ with | some r => (match g ρ with | some (as, _) => if as.length = n then some r else none | none => none) | none => none
/-- f(e, ..) -/
theorem de_call (Fk : FnG X.prog X.w X.K X.mg X.base k f fd ps (spD X.w X.K n F)) (hG : Gd X.A) (hR : Room k X.A) (hg : Gl X x) (hm : X.mg x = some (.ref f)) (hk : PySem.W.keepIn X.K (.ref f) = true) (hb : Binds X.K fd ps [])
    (ha : DAs X (e :: es) g) (hdb : (x == ("__debug__" : Str)) = false := by decide)
    (he : starEach (e :: es) X.env = (false, eval e X.env) :: starEach es X.env := by rfl) (hpl : (backTo pos (starEach es X.env)).any (·.1) = false := by rfl) :
    DE X (.Call (.Name x p) (e :: es) [] pos) (fCa n F g) :=
  pe_imp (pe_callG Fk hG hR hg hm hk hb ha hdb he hpl) tCall_of
end
end DL
namespace DL
open PySem PySem.Spec PyProof.Rows L2 GX StX
variable [DL.FT]
section
variable {X : Cx}
def fChain (o1 o2 : Op2) (f g h : GF) : EF := fun ρ => match f ρ with
  | none => none
  | some (a, ρ1) => match g ρ1 with
    | none => none
    | some (b, ρ2) => match look ρ2 a, look ρ2 b with
      | some d, some e => match o1 d e with
        | some (.bool true) => match h ρ2 with
          | none => none
          | some (c, ρ3) => match look ρ3 b, look ρ3 c with
            | some e', some m => match o2 e' m with
              | none => none
              | some r => some (r, ρ3)
            | _, _ => none
        | some (.bool false) => some (.bool false, ρ2)
        | _ => none
      | _, _ => none
theorem tChain_of {ww : World} {K : PySem.W.Frag} {o1 o2 : Op2} {f g h : GF} {r r' : R2} (hr : ∀ x y H Q, rOp ww K o1 x y H Q → r x y H Q) (hr' : ∀ x y H Q, rOp ww K o2 x y H Q → r' x y H Q) : ∀ σ H Q, rE ww K (fChain o1 o2 f g h) σ H Q → tChain r r' (rG ww K f) (rG ww K g) (rG ww K h) σ H Q := by
  rintro σ H Q ⟨G, ρ, ρ', d, R, hf, k⟩
  unfold fChain at hf
  split at hf
  · cases hf
  · rename_i a ρ1 h1
    split at hf
    · cases hf
    · rename_i b ρ2 h2
      split at hf
      · rename_i da db h3 h4
        split at hf
        · rename_i h5
          split at hf
          · cases hf
          · rename_i c ρ3 h6
            split at hf
            · rename_i e' m h7 h8
              split at hf
              · cases hf
              · rename_i r0 h9
                cases hf
                refine ⟨G, ρ, ρ1, a, R, h1, fun v1 G1 H1 R1 s1 q1 => ⟨G1, ρ1, ρ2, b, R1, h2, fun v2 G2 H2 R2 s2 q2 => hr _ _ _ _ ⟨G2, da, db, .bool true, R2.sub, look_bo R2 (q1.same s2.gr) h3, look_bo R2 q2 h4, h5, fun z G3 H3 x q => ?_⟩⟩⟩
                cases q
                refine ⟨true, rfl, ?_⟩
                rw [if_pos rfl]
                exact ⟨G3, ρ2, _, c, R2.ext x, h6, fun v4 G4 H4 R4 s4 q4 => hr' _ _ _ _ ⟨G4, e', m, _, R4.sub, look_bo R4 ((q2.same x.gg).same s4.gr) h7, look_bo R4 q4 h8, h9, fun w G5 H5 y q5 => k w G5 H5 (R4.ext y) ((((s1.trans s2).trans (.ext x)).trans s4).trans (.ext y)) q5⟩⟩
            · cases hf
        · rename_i h5
          cases hf
          refine ⟨G, ρ, ρ1, a, R, h1, fun v1 G1 H1 R1 s1 q1 => ⟨G1, ρ1, _, b, R1, h2, fun v2 G2 H2 R2 s2 q2 => hr _ _ _ _ ⟨G2, da, db, .bool false, R2.sub, look_bo R2 (q1.same s2.gr) h3, look_bo R2 q2 h4, h5, fun z G3 H3 x q => ?_⟩⟩⟩
          cases q
          refine ⟨false, rfl, ?_⟩
          rw [if_neg Bool.false_ne_true]
          exact k _ G3 H3 (R2.ext x) ((s1.trans s2).trans (.ext x)) (.bl false)
        · cases hf
      · cases hf
theorem de_chain {a b c : Expr} {op op' : CmpOp} {g g' : Op2} {f1 f2 f3 : GF} {pos : Pos} (ho : OpR X (compareOp op) (rOp X.w X.K g)) (ho' : OpR X (compareOp op') (rOp X.w X.K g')) (ha : DG X a f1) (hb : DG X b f2) (hc : DG X c f3)
    (hm : lastMarks [op, op'] [b, c] = false := by with_unfolding_all rfl) : DE X (.Compare a [op, op'] [b, c] pos) (fChain g g' f1 f2 f3) :=
  pe_imp (pe_chain ho ho' ha hb hc hm) (tChain_of (fun _ _ _ _ h => h) fun _ _ _ _ h => h)
theorem dt_chain {a b c : Expr} {op op' : CmpOp} {g g' : Op2} {f1 f2 f3 : GF} {pos : Pos} (ho : OpR X (compareOp op) (rOp X.w X.K g)) (ho' : OpR X (compareOp op') (rOp X.w X.K g')) (ha : DG X a f1) (hb : DG X b f2) (hc : DG X c f3)
    (hm : lastMarks [op, op'] [b, c] = false := by with_unfolding_all rfl) : DT X (.Compare a [op, op'] [b, c] pos) (fTst (fChain g g' f1 f2 f3)) := by
  refine pt_imp (pt_chain ho ho' ha hb hc hm) ?_
  intro σ H Q h
  exact tChain_of (fun _ _ _ _ h => h) (fun _ _ _ _ h => h) _ _ _ (dt_of _ _ _ h)
def tyN : PyData → String
  | .none => "NoneType" | .bool _ => "bool" | .int _ => "int" | .str _ => "str" | .list _ => "list" | .tuple _ => "tuple" | .dict _ => "dict"
def dInt : PyData → Bool | .int _ => true | .bool _ => true | _ => false
def dBool : PyData → Bool | .bool _ => true | _ => false
def dStr : PyData → Bool | .str _ => true | _ => false
def dTup : PyData → Bool | .tuple _ => true | _ => false
theorem bo_ty {ww : World} {K : PySem.W.Frag} {G H : Hp} {v : V} {d : PyData} (b : Bo ww K G H v d) (s : Same G H) (nd : ∀ q qs, d ≠ .dict (q :: qs)) : TyX K H v (.type (tyN d)) := by
  rcases b with h | ⟨p, xs, ds, rfl, rfl, hp, _⟩ | ⟨_, _, _, _, _, e, _⟩
  · cases h with
    | non => exact .base .non
    | bl b => exact .base (.bl b)
    | int i => exact .base (.int i)
    | str x => exact .base (.str x)
    | lst hs _ => exact .base (.lst (s _ _ hs))
    | tup hs _ =>
      rcases (hs.same s).sq with (h | ⟨o, h⟩) | h
      · exact .base (.tup h)
      · exact .fTuple h
      · obtain ⟨o, its, n, lk, hc, _⟩ := h
        exact .kTuple lk hc
    | dic hd => exact .base (.dK (s _ _ hd))
    | fn => exact (nd _ _ rfl).elim
    | glo => exact (nd _ _ rfl).elim
    | dct => exact (nd _ _ rfl).elim
  · exact .base (.lst hp)
  · exact (nd _ _ e).elim
theorem kit_int {K : PySem.W.Frag} (d : PyData) : PySem.W.kitOne K (.type (tyN d)) (.type "int") = some (dInt d) := by
  cases d with
  | none => exact kit_ty (a := "NoneType") (b := "int") (r := false) (by decide +kernel)
  | bool _ => exact kit_ty (a := "bool") (b := "int") (r := true) (by decide +kernel)
  | int _ => exact kit_ty (a := "int") (b := "int") (r := true) (by decide +kernel)
  | str _ => exact kit_ty (a := "str") (b := "int") (r := false) (by decide +kernel)
  | list _ => exact kit_ty (a := "list") (b := "int") (r := false) (by decide +kernel)
  | tuple _ => exact kit_ty (a := "tuple") (b := "int") (r := false) (by decide +kernel)
  | dict _ => exact kit_ty (a := "dict") (b := "int") (r := false) (by decide +kernel)
theorem kit_bool {K : PySem.W.Frag} (d : PyData) : PySem.W.kitOne K (.type (tyN d)) (.type "bool") = some (dBool d) := by
  cases d with
  | none => exact kit_ty (a := "NoneType") (b := "bool") (r := false) (by decide +kernel)
  | bool _ => exact kit_ty (a := "bool") (b := "bool") (r := true) (by decide +kernel)
  | int _ => exact kit_ty (a := "int") (b := "bool") (r := false) (by decide +kernel)
  | str _ => exact kit_ty (a := "str") (b := "bool") (r := false) (by decide +kernel)
  | list _ => exact kit_ty (a := "list") (b := "bool") (r := false) (by decide +kernel)
  | tuple _ => exact kit_ty (a := "tuple") (b := "bool") (r := false) (by decide +kernel)
  | dict _ => exact kit_ty (a := "dict") (b := "bool") (r := false) (by decide +kernel)
theorem kit_str {K : PySem.W.Frag} (d : PyData) : PySem.W.kitOne K (.type (tyN d)) (.type "str") = some (dStr d) := by
  cases d with
  | none => exact kit_ty (a := "NoneType") (b := "str") (r := false) (by decide +kernel)
  | bool _ => exact kit_ty (a := "bool") (b := "str") (r := false) (by decide +kernel)
  | int _ => exact kit_ty (a := "int") (b := "str") (r := false) (by decide +kernel)
  | str _ => exact kit_ty (a := "str") (b := "str") (r := true) (by decide +kernel)
  | list _ => exact kit_ty (a := "list") (b := "str") (r := false) (by decide +kernel)
  | tuple _ => exact kit_ty (a := "tuple") (b := "str") (r := false) (by decide +kernel)
  | dict _ => exact kit_ty (a := "dict") (b := "str") (r := false) (by decide +kernel)
theorem kit_tup {K : PySem.W.Frag} (d : PyData) : PySem.W.kitOne K (.type (tyN d)) (.type "tuple") = some (dTup d) := by
  cases d with
  | none => exact kit_ty (a := "NoneType") (b := "tuple") (r := false) (by decide +kernel)
  | bool _ => exact kit_ty (a := "bool") (b := "tuple") (r := false) (by decide +kernel)
  | int _ => exact kit_ty (a := "int") (b := "tuple") (r := false) (by decide +kernel)
  | str _ => exact kit_ty (a := "str") (b := "tuple") (r := false) (by decide +kernel)
  | list _ => exact kit_ty (a := "list") (b := "tuple") (r := false) (by decide +kernel)
  | tuple _ => exact kit_ty (a := "tuple") (b := "tuple") (r := true) (by decide +kernel)
  | dict _ => exact kit_ty (a := "dict") (b := "tuple") (r := false) (by decide +kernel)
def rIsa (K : PySem.W.Frag) (T : String) (b : PyData → Bool) : List V → Hp → VK → Prop := fun xs H Q => ∃ v d, xs = [v, .ty T] ∧ TyX K H v (.type (tyN d)) ∧ Q (.bl (b d)) H
theorem cl_isa {T : String} {b : PyData → Bool} (hb : ∀ d, PySem.W.kitOne X.K (.type (tyN d)) (.type T) = some (b d)) : CallR X (.builtin "isinstance") (rIsa X.K T b) := by
  intro pins s σ H xs us Q I r h
  obtain ⟨v, d, rfl, hd, q⟩ := h
  exact call_isi pins s σ H _ us Q I r ⟨v, .ty T, _, _, b d, rfl, .ty T, hd, hb d, q⟩
def fIsa (b : PyData → Bool) (f : GF) : EF := fun ρ => match f ρ with
  | none => none
  | some (a, ρ1) => match look ρ1 a with
    | none => none
    | some (.dict (_ :: _)) => none
    | some d => some (.bool (b d), ρ1)
theorem de_isa {T : String} {x : Str} {b : PyData → Bool} {e : Expr} {f : GF} {p1 p2 p3 : Pos} (hb : ∀ d, PySem.W.kitOne X.K (.type (tyN d)) (.type T) = some (b d)) (he : DG X e f) (hg : Gl X "isinstance") (hm : X.mg "isinstance" = none) (hgx : Gl X x)
    (hx : X.mg x = none) (hv : bootBuiltins x = some (.type T)) (hd : (x == ("__debug__" : Str)) = false := by decide) (hn : x ≠ "__name__" := by decide)
    (hs : starEach [e, .Name x p2] X.env = (false, eval e X.env) :: starEach [.Name x p2] X.env := by rfl) (hs2 : starEach [.Name x p2] X.env = (false, eval (.Name x p2) X.env) :: starEach [] X.env := by rfl) :
    DE X (.Call (.Name "isinstance" p1) [e, .Name x p2] [] p3) (fIsa b f) := by
  refine pe_imp (pe_callB (cl_isa hb) hg hm (by decide +kernel) (pa_cons he (pa_cons (pe_bltn (u := .type T) (v := .ty T) hgx hx hv rfl (hd := hd) (hn := hn)) pa_nil hs2) hs) (he := hs) (hpl := by rw [hs2]; rfl)) ?_
  rintro σ H Q ⟨G, ρ, ρ', d, R, hf, k⟩
  unfold fIsa at hf
  split at hf
  · cases hf
  · rename_i a ρ1 h1
    split at hf
    · cases hf
    · cases hf
    · rename_i d' nd h2
      cases hf
      exact ⟨G, ρ, _, a, R, h1, fun v G1 H1 R1 s1 q1 => ⟨v, d', rfl, bo_ty (look_bo R1 q1 h2) R1.sub nd, k _ G1 H1 R1 s1 (.bl _)⟩⟩
theorem de_gint {x : Str} {i : Int} {t : Tok} {pos : Pos} (hg : Gl X x) (hm : X.mg x = some (.int i t)) (hd : (x == ("__debug__" : Str)) = false := by decide) : DE X (.Name x pos) (fC (.int i)) := de_c (pe_glob (v := .int i) hg hm ⟨t, rfl⟩ hd) fun _ _ => .int i
theorem de_gstr {x : Str} {z : Str} {t : Tok} {pos : Pos} (hg : Gl X x) (hm : X.mg x = some (.str z t)) (hd : (x == ("__debug__" : Str)) = false := by decide) : DE X (.Name x pos) (fC (.str z)) := de_c (pe_glob (v := .str z) hg hm ⟨t, rfl⟩ hd) fun _ _ => .str z
def inS : Op2
  | .str i, .str j => some (.bool (!(Builtin.Str.occurrences j i 0 j.length 1).isEmpty))
  | _, _ => none
theorem op_inS : OpR X (compareOp .In) (rOp X.w X.K inS) := by
  refine OpR.imp op_in_str ?_
  rintro x y H Q ⟨G, d, e, r, sub, hd, he, h, k⟩
  unfold inS at h
  split at h
  · cases h
    rw [bo_str hd, bo_str he]
    exact ⟨_, _, rfl, rfl, k _ G H (Xt.refl sub) (.bl _)⟩
  · cases h
def lettersOf (x : Str) : List PyData := x.cps.toList.map fun c => .str ⟨#[c]⟩
def iTxt (f : EF) : LF := fun ρ => match f ρ with
  | some (.str x, ρ') => some (lettersOf x, ρ')
  | _ => none
theorem di_txt {tg e : Expr} {f : EF} (h : DE X e f) : DI X tg e (iTxt f) := by
  refine pi_imp (pi_str h) ?_
  rintro σ H R ⟨G, ρ, ρ', ds, Rr, hf, k⟩
  unfold iTxt at hf
  split at hf
  · rename_i x ρ1 e1
    cases hf
    refine ⟨G, ρ, _, _, Rr, e1, fun v G1 H1 R1 s1 q1 => ?_⟩
    cases q1
    refine ⟨x, rfl, k _ _ _ R1 s1 ⟨fun i H2 sm hi => ?_, fun i H2 sm hi => ?_, fun i G2 H2 y H3 d sm sm2 hy hd => ?_⟩⟩
    · have z : i < x.cps.size := by simpa [lettersOf] using hi
      exact z
    · have z : x.cps.size ≤ i := by simpa [lettersOf] using hi
      exact z
    · obtain ⟨e2, c, hc, rfl⟩ := hy
      refine ⟨e2, ?_⟩
      unfold lettersOf at hd
      rw [List.getElem?_map, Array.getElem?_toList, hc] at hd
      cases hd
      exact .str _
  · cases hf
def gScr (i : Nat) : GF := fun ρ => match ρ[i]? with
  | some (.scr _) => some (.v i, ρ)
  | _ => none
theorem dg_scr {i : Nat} {x : Str} {pos : Pos} (hN : X.N[i]? = some x) (hv : Vis X.env.scope x) (hd : (x == ("__debug__" : Str)) = false := by decide) (hcd : (x == ("__classdict__" : Str)) = false := by decide) : DG X (.Name x pos) (gScr i) := by
  refine pe_imp (pe_var hN hv hd hcd) ?_
  rintro σ H Q ⟨G, ρ, ρ', a, R, hf, k⟩
  unfold gScr at hf
  split at hf
  · rename_i ns e
    cases hf
    obtain ⟨p, e', _⟩ := R.scr e
    exact ⟨_, e', k _ G H R (Sx.refl _ _ _ _) e'⟩
  · cases hf
def fScrLen (i : Nat) : EF := fun ρ => match ρ[i]? with
  | some (.scr ns) => some (.int ns.length, ρ)
  | _ => none
theorem de_slen {i : Nat} {x : Str} {p p2 pos : Pos} (hN : X.N[i]? = some x) (hv : Vis X.env.scope x) (hg : Gl X "len") (hm : X.mg "len" = none) (hd : (x == ("__debug__" : Str)) = false := by decide) (hcd : (x == ("__classdict__" : Str)) = false := by decide)
    (hs : starEach [.Name x p2] X.env = (false, eval (.Name x p2) X.env) :: starEach [] X.env := by rfl) : DE X (.Call (.Name "len" p) [.Name x p2] [] pos) (fScrLen i) := by
  refine pe_imp (pe_callB call_len_seq hg hm (by decide +kernel) (pa_cons (pe_var hN hv hd hcd) pa_nil hs) (he := hs)) ?_
  rintro σ H Q ⟨G, ρ, ρ', d, R, hf, k⟩
  unfold fScrLen at hf
  split at hf
  · rename_i ns e
    cases hf
    obtain ⟨q, e', z⟩ := R.scr e
    refine ⟨_, e', q, _, rfl, .inl z.sq, ?_⟩
    rw [List.length_map]
    exact k _ G H R (Sx.refl _ _ _ _) (.int _)
  · cases hf
def fScrIx (i : Nat) (f : EF) : EF := fun ρ => match ρ[i]? with
  | some (.scr ns) => match f ρ with
    | some (.int k, ρ1) => match atI ns k with
      | some n => match ρ1[i]? with
        | some (.scr ms) => if ms = ns then some (.int n, ρ1) else none
        | _ => none
      | none => none
    | _ => none
  | _ => none
theorem atI_map {α β : Type} (f : α → β) (xs : List α) (i : Int) : atI (xs.map f) i = (atI xs i).map f := by
  unfold atI
  rw [List.length_map]
  cases ixN xs.length i with
  | none => rfl
  | some j => exact List.getElem?_map
theorem de_six {i : Nat} {x : Str} {e : Expr} {f : EF} {p2 pos : Pos} (hN : X.N[i]? = some x) (hv : Vis X.env.scope x) (he : DE X e f) (hd : (x == ("__debug__" : Str)) = false := by decide) (hcd : (x == ("__classdict__" : Str)) = false := by decide) (hs : PlainIx e := by exact fun _ _ => rfl) :
    DE X (.Subscript (.Name x p2) e pos) (fScrIx i f) := by
  refine pe_imp (pe_ix ix_seq (pe_var hN hv hd hcd) he hs) ?_
  rintro σ H Q ⟨G, ρ, ρ', d, R, hf, k⟩
  unfold fScrIx at hf
  split at hf
  · rename_i ns e0
    split at hf
    · rename_i j ρ1 e1
      split at hf
      · rename_i n e2
        split at hf
        · rename_i ms e3
          split at hf
          · rename_i e4
            subst e4
            cases hf
            obtain ⟨q, e', z⟩ := R.scr e0
            refine ⟨_, e', ⟨G, ρ, _, _, R, e1, fun v G1 H1 R1 s1 q1 => ?_⟩⟩
            cases q1
            obtain ⟨q2, e5, z2⟩ := R1.scr e3
            rw [e'] at e5
            cases e5
            exact .inl ⟨q, _, j, .int n, rfl, rfl, z2.sq, by rw [atI_map, e2]; rfl, k _ G1 H1 R1 s1 (.int _)⟩
          · cases hf
        · cases hf
      · cases hf
    · cases hf
  · cases hf
def fScrTo (i : Nat) (hi : Int) : EF := fun ρ => match ρ[i]? with
  | some (.scr ns) => some (.list (cutL (ns.map .int) none (some hi)), ρ)
  | _ => none
theorem de_ssl {i : Nat} {x : Str} {hi : Int} {j} {p1 p2 p3 pos : Pos} (hN : X.N[i]? = some x) (hv : Vis X.env.scope x) (hd : (x == ("__debug__" : Str)) = false := by decide) (hcd : (x == ("__classdict__" : Str)) = false := by decide) :
    DE X (.Subscript (.Name x p1) (.Slice none (some (.Constant (.int hi) j p3)) none p2) pos) (fScrTo i hi) := by
  refine pe_imp (pe_slice sl_list (pe_var hN hv hd hcd) po_none (po_some pe_int)) ?_
  rintro σ H Q ⟨G, ρ, ρ', d, R, hf, k⟩
  unfold fScrTo at hf
  split at hf
  · rename_i ns e0
    cases hf
    obtain ⟨q, e', z⟩ := R.scr e0
    refine ⟨_, e', ⟨hi, rfl, ⟨q, _, rfl, z.sq, fun t n => k _ _ _ (R.ext (Xt.new R.sub n)) (.ext (Xt.new R.sub n)) (newL (Same.free R.sub n) ?_)⟩⟩⟩
    exact (DaA.ofInts ns).cutV _ _
  · cases hf
end
end DL
namespace DL
open PySem PySem.Spec PyProof.Rows L2 GX StX PySem.Calls
variable [DL.FT]
abbrev itT (t : Addr) : Obj := { cls := .type "tuple_iterator", data := .fields #[.ref t, .int 0 0] }
abbrev enO (i : Addr) : Obj := { cls := .type "enumerate", data := .fields #[.none, .bool false, .ref i, rawInt 0, .none, .none] }
theorem enum_newT (t : Addr) (its : Array Value) (k : Nat) (du : Option Addr) (so : Array (Option Value)) :
    Meets (Builtin.«enumerate.__new__» ⟨[.type "enumerate", .ref t], []⟩) (fun _ R s => s.heap.get? t = some { cls := .type "tuple", dict := du, data := .seq its k, slots := so } ∧
      R (.ok (.ret (.ref (s.heap.push (itT t)).objs.size))) { s with heap := (s.heap.push (itT t)).push (enO s.heap.objs.size) }) :=
  .of_wp fun prog w A R s h => by
    obtain ⟨hp, g, d, tk, os⟩ := s
    obtain ⟨hl, h⟩ := h
    have hsub := sub_enumerate
    have hT : Heap.IsTuple (Shared.heap ⟨hp, g, d, tk, os⟩) t its := ⟨_, hl, rfl, k, rfl⟩
    wp_walk using wpAny_loadPart' hl
    refine wpAny_stack_any fun st => wpAny_pure ?_
    split
    · rename_i c _ _ _ _ _
      by_cases e : (c == Value.type "enumerate") = true
      · rw [e]
        wp_walk using wpAny_loadPart' hl, wpAny_pyIter_tuple hT
        exact ⟨_, rfl, h⟩
      · rw [Bool.not_eq_true] at e
        rw [e]
        wp_walk using wpAny_loadPart' hl, wpAny_pyIter_tuple hT
        exact ⟨_, rfl, h⟩
    · wp_walk using wpAny_loadPart' hl, wpAny_pyIter_tuple hT
      exact ⟨_, rfl, h⟩
theorem call_enumT {prog : Program} {w : World} {A : Around} {E : Value → Shared → Prop} {s : Shared} {t : Addr} {its : Array Value} {Q : Value → Shared → Prop} (hT : s.heap.IsTuple t its)
    (h : ∀ h', IsEnum h' (s.heap.objs.size + 1) s.heap.objs.size 0 .none → h'.IsTupleIter s.heap.objs.size t 0 → (∀ b o, s.heap.get? b = some o → h'.get? b = some o) → Q (.ref (s.heap.objs.size + 1)) { s with heap := h' }) :
    wpAny (model prog w) A (call (.type "enumerate") [.ref t]) Q E s := by
  obtain ⟨⟨c, du, dt, so⟩, hl, hc, k, hd⟩ := hT
  simp only at hc hd
  subst hc hd
  refine callType_new F.called_enumerate (by decide) (F.typeCall_enumerate_1 _) (F.newCall_enumerate_1 _) (fun obj => F.args_object_init_2 obj _) F.entry_enumerate_new (enum_newT t its k du so) ⟨hl, ?_⟩
  have hz : (s.heap.push (itT t)).objs.size = s.heap.objs.size + 1 := Heap.size_push ..
  show _ ∧ _
  rw [hz]
  have he : IsEnum ((s.heap.push (itT t)).push (enO s.heap.objs.size)) (s.heap.objs.size + 1) s.heap.objs.size 0 .none := by
    have z := Heap.get?_push_size (s.heap.push (itT t)) (o := enO s.heap.objs.size) rfl
    rw [hz] at z
    exact z
  exact ⟨⟨_, he, rfl⟩, h _ he ⟨_, Heap.get?_push_of_some _ (Heap.get?_push_size _ rfl), rfl, rfl⟩ fun b o x => Heap.get?_push_of_some _ (Heap.get?_push_of_some _ x)⟩
def Itet (K : PySem.W.Frag) (a : Addr) (n : Nat) : It :=
  ⟨fun i H => ∃ (xs : List V) (x : V), SqT K H a xs ∧ xs.length = n ∧ xs[i]? = some x, fun i H v H' => ∃ T x, v = .ref T ∧ H T = none ∧ H' = upd H T (.tup [.int (i : Nat), x]) ∧ ∀ xs, SqT K H a xs → xs[i]? = some x, fun i H => ∃ xs : List V, SqT K H a xs ∧ xs.length = n ∧ n ≤ i⟩
theorem turn_enumT {P : Program} {w : World} {K : PySem.W.Frag} {elts : List Expr} {kk : Nat} {tpos : Pos} (a e it : Addr) (n : Nat) :
    Turn P w K (.Tuple elts kk tpos) (Itet K a n) [e, it] e (fun i h => (∃ old, IsEnum h e it ((i : Nat) : Int) old) ∧ h.IsTupleIter it a i ∧ e ≠ it ∧ i ≤ n) where
  mem := List.mem_cons_self
  obj := fun i h st b hb => by
    obtain ⟨⟨old, he⟩, ⟨o, ho, hc, hd⟩, _, _⟩ := st
    rcases (show b = e ∨ b = it by simpa using hb) with z | z
    · subst z
      exact ⟨_, he, fun v q => nomatch q⟩
    · subst z
      exact ⟨o, ho, fun v q => by rw [hd] at q; cases q⟩
  keep := fun i h h' st k => let ⟨⟨old, he⟩, hi, hne, hn⟩ := st; ⟨⟨old, k e (by simp) _ he⟩, hi.at fun o q => k it (by simp) o q, hne, hn⟩
  item := by
    intro X hP hw hK hc i pins s σ H E I hf st hg
    subst hP hw hK
    obtain ⟨⟨old, he⟩, hit, hne, hn⟩ := st
    obtain ⟨xs, x, hq, hlen, hx⟩ := hg
    obtain ⟨its, rv, p, hz⟩ := I.tuple hq
    obtain ⟨u, hu, ru⟩ := rv.get hx
    have hel : e < s.heap.objs.size := Heap.lt_size he
    have hil : it < s.heap.objs.size := by
      obtain ⟨_, q, _⟩ := hit
      exact Heap.lt_size q
    have nea : e ≠ a := by
      rintro rfl
      obtain ⟨o, ho, hoc, _⟩ := p
      have z := he.symm.trans ho
      cases z
      exact absurd (Value.type.inj hoc) (by decide)
    have nia : a ≠ it := by
      rintro rfl
      obtain ⟨o, ho, hoc, _⟩ := p
      obtain ⟨o2, ho2, hoc2, _⟩ := hit
      rw [ho] at ho2
      cases ho2
      rw [hoc] at hoc2
      exact absurd (Value.type.inj hoc2) (by decide)
    have hin : i < its.length := by
      have z := (List.getElem?_eq_some_iff.mp hu).1
      exact z
    have Dt : Draws X.prog X.w X.A.in1 it [it, a] its.toArray.size (fun i v => its.toArray[i]? = some v) (fun i h => h.IsTupleIter it a i ∧ h.IsTuple a its.toArray) := Draws.tuple (A := X.A.in1) (I.ok.hd hc) it a nia its.toArray
    refine wpAny_pyNext_enum_itemD Dt he ⟨hit, p⟩ (by simpa using hin) hne (by simp [hne, nea]) fun y h' tk hy ho hit' hT hsz hk => ?_
    have ey : y = u := by
      have z : its[i]? = some y := by simpa using hy
      rw [hu] at z
      cases z
      rfl
    subst ey
    refine ⟨_, rfl, wpAny_letOwnedTupleGo_enum (s := { s with heap := h', toks := tk + 1 }) ho fun h'' he' sb => ?_⟩
    have hT2 : h''.get? s.heap.objs.size = some { cls := .type "tuple", data := .seq #[.int i tk, y] } := (sb.2 _ (Nat.ne_of_gt hel)).trans hT
    have new : ObjOk X.prog X.w (upd H s.heap.objs.size (.tup [.int (i : Nat), x])) h'' s.heap.objs.size (.tup [.int (i : Nat), x]) :=
      ⟨by show 2 ≤ sizeLine; decide, [.int i tk, y], .cons ⟨_, rfl⟩ (.cons ru .nil), ⟨_, hT2, rfl, _, rfl⟩⟩
    have I1 : Inv X pins σ (upd H s.heap.objs.size (.tup [.int (i : Nat), x])) { s with heap := h'', toks := tk + 1 } :=
      I.turnedNew (ch := [e, it]) (fun b ob hb q => (sb.2 b (fun z => hb (by simp [z]))).trans (hk b ob (fun z => hb (by simp [z])) (fun z => hb (by simp [z])) q)) hf (Nat.le_refl _) new
    refine ⟨.ref s.heap.objs.size, _, I1, rfl, ⟨_, x, rfl, I.hok.fresh (Nat.le_refl _), rfl, fun ys hy => by rw [I.tuple_inj hy hq]; exact hx⟩, ⟨⟨y, ?_⟩, hit'.1.at fun o q => (sb.2 it (Ne.symm hne)).trans q, hne, ?_⟩, fun b hb => ?_⟩
    · have e1 : ((i + 1 : Nat) : Int) = (i : Int) + 1 := by omega
      rw [e1]
      exact he'
    · have l1 := rv.length
      omega
    · have hb' : b < s.heap.objs.size := by
        rcases (show b = e ∨ b = it by simpa using hb) with z | z
        · rw [z]; exact hel
        · rw [z]; exact hil
      rw [upd_ne (Nat.ne_of_lt hb')]
      exact (hf b hb).1
  done := by
    intro X hP hw hK hc i pins s σ H E I hf st hg
    subst hP hw hK
    obtain ⟨⟨old, he⟩, hit, hne, hn⟩ := st
    obtain ⟨xs, hq, hlen, hx⟩ := hg
    obtain ⟨its, rv, p, hz⟩ := I.tuple hq
    obtain ⟨f0, f1, f2, f3, f4, f5⟩ := hf it (by simp)
    have hl := rv.length
    have nia : a ≠ it := by
      rintro rfl
      obtain ⟨o, ho, hoc, _⟩ := p
      obtain ⟨o2, ho2, hoc2, _⟩ := hit
      rw [ho] at ho2
      cases ho2
      rw [hoc] at hoc2
      exact absurd (Value.type.inj hoc2) (by decide)
    have Dt : Draws X.prog X.w X.A.in1 it [it, a] its.toArray.size (fun i v => its.toArray[i]? = some v) (fun i h => h.IsTupleIter it a i ∧ h.IsTuple a its.toArray) := Draws.tuple (A := X.A.in1) (I.ok.hd hc) it a nia its.toArray
    have en : its.toArray.size = i := by simp; omega
    exact wpAny_pyNext_enum_endD Dt he ⟨en ▸ hit, p⟩ fun h' eb => ⟨rfl, I.turned (t' := s.toks) (fun b o hb q => eb b o hb q) f0 f1 f3 f4 f5⟩
  self := fun A i s Q E st h => let ⟨⟨_, he⟩, _⟩ := st; wpAny_pyIter_enum he h
def iEnT (K : PySem.W.Frag) (ta : TA) : TI := fun σ H R => ta σ H fun vs H1 => ∃ a xs, vs = [.ref a] ∧ SqT K H1 a xs ∧ R (Itet K a xs.length) H1
section
variable {X : Cx}
theorem pi_enumT {e : Expr} {ta : TA} {p pos tpos : Pos} {elts : List Expr} {kk : Nat} (hg : Gl X "enumerate") (hm : X.mg "enumerate" = none) (ha : PA X [e] ta) (hs : starEach [e] X.env = [(false, eval e X.env)] := by rfl) :
    PI X (.Tuple elts kk tpos) (.Call (.Name "enumerate" p) [e] [] pos) (iEnT X.K ta) := by
  constructor
  intro pins s σ H R I h
  refine Call_ (ld_blt I hg hm boot_enumerate (PyProof.Rows.callWith_type1 (thn (ha.run pos pins s σ H _ I h) fun us s1 ⟨vs, H1, I1, r1, q1⟩ => ?_) hs rfl))
  obtain ⟨a, xs, ex, hq, q⟩ := q1
  subst ex
  cases r1 with
  | cons r rr =>
    cases rr
    cases r
    obtain ⟨its, rv, pt, hz⟩ := I1.tuple hq
    refine call_enumT pt fun h' he hit hk => wpAny_pyIter_enum he ?_
    have I2 : Inv X pins σ H1 { s1 with heap := h' } := I1.kept (t' := s1.toks) hk
    refine ⟨s1.heap.objs.size + 1, [s1.heap.objs.size + 1, s1.heap.objs.size], _, _, H1, rfl, I2, turn_enumT a (s1.heap.objs.size + 1) s1.heap.objs.size xs.length, ⟨⟨.none, he⟩, hit, Nat.succ_ne_self _, Nat.zero_le _⟩, fun b hb => ?_, q⟩
    have hle : s1.heap.objs.size ≤ b := by
      rcases (show b = s1.heap.objs.size + 1 ∨ b = s1.heap.objs.size by simpa using hb) with z | z
      · exact Nat.le_trans (Nat.le_succ _) (Nat.le_of_eq z.symm)
      · exact Nat.le_of_eq z.symm
    exact I1.fpOk hle (I1.hok.fresh hle)
def pairsD (ds : List PyData) : List PyData := ds.mapIdx fun i d => .tuple [.int (i : Nat), d]
def iEnum (f : EF) : LF := fun ρ => match f ρ with
  | some (.tuple ds, ρ') => some (pairsD ds, ρ')
  | _ => none
theorem dip_enumT {e : Expr} {f : EF} {p pos tpos : Pos} {elts : List Expr} {kk : Nat} (hg : Gl X "enumerate") (hm : X.mg "enumerate" = none) (ha : DE X e f) (hs : starEach [e] X.env = [(false, eval e X.env)] := by rfl) :
    DIP X (.Tuple elts kk tpos) (.Call (.Name "enumerate" p) [e] [] pos) (iEnum f) := by
  refine pi_imp (pi_enumT hg hm (pa_cons ha pa_nil hs) hs) ?_
  rintro σ H R ⟨G, ρ, ρ', ds, Rr, hf, k⟩
  unfold iEnum at hf
  split at hf
  · rename_i es ρ1 e1
    cases hf
    refine ⟨G, ρ, _, _, Rr, e1, fun v G1 H1 R1 s1 q1 => ?_⟩
    cases q1 with
    | @tup _ a xs _ hs ha =>
      have hl : (pairsD es).length = es.length := by simp [pairsD]
      refine ⟨a, xs, rfl, (hs.same R1.sub).sq, k _ _ _ R1 s1 ⟨fun i H2 sm hi => ?_, fun i H2 sm hi => ?_, fun i G2 H2 x H3 d sm sm2 hy hd => ?_⟩⟩
      · rw [hl] at hi
        obtain ⟨v, ev, _⟩ := ha.get (List.getElem?_eq_getElem hi)
        exact ⟨xs, v, (hs.same sm).sq, rfl, ev⟩
      · rw [hl] at hi
        exact ⟨xs, (hs.same sm).sq, rfl, by rw [ha.len]; exact hi⟩
      · obtain ⟨T, x', rfl, nT, rfl, hy⟩ := hy
        unfold pairsD at hd
        rw [List.getElem?_mapIdx] at hd
        cases q : es[i]? with
        | none => rw [q] at hd; cases hd
        | some d0 =>
          rw [q] at hd
          cases hd
          obtain ⟨v, ev, hv⟩ := ha.get q
          have z := hy xs ((hs.same sm).same sm2).sq
          rw [ev] at z
          cases z
          exact ⟨T, _, _, rfl, nT, rfl, rfl, .cons (.int _) (.cons (hv.same sm) .nil)⟩
  · cases hf
end
end DL
namespace DL
open PySem PySem.Spec PyProof.Rows L2 GX StX PySem.Calls
variable [DL.FT]
section
variable {prog : Program} {w : World} {A : Around} {E : Value → Shared → Prop} {s : Shared} {env : Env}
/-- the first element, and a new list of the others -/
theorem unpack_rest {l : Addr} {x : Value} {r : List Value} {Q : List Value → Shared → Prop} (ht : IsTup s.heap l (x :: r).toArray) (hh : A.handled = none) (hz : r.length ≤ 1000)
    (h : ∀ (g : Heap) tk, (∀ b o, s.heap.get? b = some o → g.get? b = some o) → Q [x, .ref g.objs.size] { s with heap := g.push { cls := .type "list", data := .seq r.toArray }, toks := tk }) :
    wpAny (model prog w) A (unpackItems (.ref l) 2 (some 1)) Q E s := by
  have ne : l ≠ s.heap.objs.size := by
    obtain ⟨o, ho, _⟩ := ht
    exact Nat.ne_of_lt (Heap.lt_size ho)
  unfold unpackItems; refine wpAny_bind ?_; unfold notIterableAtAll
  refine wpAny_bind (wpAny_specialOf ht.typeIs slot_tuple_iter.lookup (wpAny_pure ?_))
  simp only [Bool.false_eq_true, if_false]
  refine wpAny_bind (wpAny_holding (iter_tuple ht (wpAny_bind (wpAny_holding
    (draw_tuple ne 1 0 _ _ ⟨_, Heap.get?_push_size _ rfl, rfl, rfl⟩ (ht.push _) (by simp) fun g it sb => ?_)))))
  have tg : IsTup g l (x :: r).toArray := (ht.push _).extBut sb.extBut ne
  obtain ⟨oi, hoi, it'⟩ := id it
  obtain ⟨ol, hol, _⟩ := id tg
  show wpAny _ _ (if ([x] : List Value).length < 1 then _ else _) _ _ _
  rw [if_neg (by simp)]
  refine wpAny_bind (wpAny_holding (PySem.W.kun_collect (s := { s with heap := g }) (T := "tuple_iterator") (.inr (.inr (.inr rfl)))
    (Walks.tuple (A := A.in1) hh s.heap.objs.size l ne (x :: r).toArray) (fun j u st => st.1.typeIs) (k := 1) (by simp) ⟨it, tg⟩ (Heap.lt_size hoi) (Heap.lt_size hol) (fun g2 tk hk => ?_) (by rw [sizeLine_eq]; simp; omega)))
  have er : (x :: r).toArray.toList.drop 1 = r := rfl
  rw [er]
  show wpAny _ _ (if r.length < 0 then _ else _) _ _ _
  rw [if_neg (by omega)]
  show wpAny _ _ (newList (r.take (r.length - 0)) >>= fun d => pure ([x] ++ [d] ++ r.drop (r.length - 0))) _ _ _
  rw [Nat.sub_zero, List.take_length, List.drop_length]
  have kp : ∀ b o, s.heap.get? b = some o → g2.get? b = some o := by
    intro b o e
    have hb : b ≠ s.heap.objs.size := Nat.ne_of_lt (Heap.lt_size e)
    exact hk b o hb (sb.extBut b o hb (Heap.get?_push_of_some _ e))
  refine wpAny_bind (wpAny_newList (s := { s with heap := g2, toks := tk }) (wpAny_pure ?_) (by rw [sizeLine_eq]; omega))
  exact h g2 tk kp
end
def gRest (K : PySem.W.Frag) (t u : TG) : TG := fun v σ H Q => ∃ a x xs, v = .ref a ∧ SqT K H a (x :: xs) ∧ xs.length ≤ 1000 ∧ ∀ p, H p = none → t x σ (upd H p (.lst xs)) fun σ1 H1 => u (.ref p) σ1 H1 Q
section
variable {X : Cx} {pos sp : Pos}
theorem pg_rest {a b : Expr} {k : Nat} {t u : TG} (hc : X.calm = true) (ha : PG X a t) (hb : PG X b u) (hn : (assignEach [a, .Starred b sp] X.env).length = 2 := by rfl)
    (hst : (assignEach [a, .Starred b sp] X.env).findIdx? (·.1) = some 1 := by rfl) (hm : (assignEach [a, .Starred b sp] X.env).map (·.2) = [assign a X.env, assign b X.env] := by rfl) :
    PG X (.Tuple [a, .Starred b sp] k pos) (gRest X.K t u) := by
  constructor
  intro pins s σ H v w Q I r hw
  obtain ⟨c, x, xs, e, hq, hl, hw⟩ := hw
  subst e
  cases r
  obtain ⟨its, rv, ht, hz⟩ := I.tuple hq
  cases rv with
  | @cons _ y _ ys r1 r2 =>
    rw [assign_Tuple]
    refine wpAny_bind (wpAny_standAt ?_)
    unfold unpack
    rw [hn, hst]
    refine wpAny_bind (wpAny_holding (unpack_rest ht (I.ok.hd hc) (by rw [← r2.length]; exact hl) fun g tk kp => ?_))
    rw [hm]
    have I1 : Inv X pins σ H { s with heap := g, toks := tk } := I.kept kp
    have I2 : Inv X pins σ (upd H g.objs.size (.lst xs)) { s with heap := g.push { cls := .type "list", data := .seq ys.toArray }, toks := tk } :=
      I1.laid (t' := tk) (fun b o z => Heap.get?_push_of_some _ z) (Nat.le_refl _) ⟨by rw [sizeLine_eq]; omega, ys, 0, r2, Heap.get?_push_size _ rfl⟩
    have hw2 := hw g.objs.size (I1.hok.fresh (Nat.le_refl _))
    refine assignInOrder_cons (thn (ha.run pins _ σ _ x y _ I2 r1 hw2) fun _ s1 ⟨σ1, H1, I3, q1⟩ => ?_)
    refine assignInOrder_cons (thn (hb.run pins s1 σ1 H1 (.ref g.objs.size) (.ref g.objs.size) _ I3 rfl q1) fun _ s2 ⟨σ2, H2, I4, q2⟩ => ?_)
    exact wpAny_pure ⟨σ2, H2, I4, q2⟩
def tRest (i j : Nat) : GT := fun d ρ => match d with
  | .tuple (d0 :: ds) => if ds.length ≤ 1000 then some ((ρ.set i (.dat d0)).set j (.dat (.list ds))) else none
  | _ => none
theorem dtg_rest {i j : Nat} {x y : Str} {p1 p2 : Pos} {k : Nat} (hc : X.calm = true) (hN : X.N.Nodup) (hi : X.N[i]? = some x) (hj : X.N[j]? = some y) (hx : Loc X.env.scope x) (hy : Loc X.env.scope y)
    (hn : (assignEach [.Name x p1, .Starred (.Name y p2) sp] X.env).length = 2 := by rfl) (hst : (assignEach [.Name x p1, .Starred (.Name y p2) sp] X.env).findIdx? (·.1) = some 1 := by rfl)
    (hm : (assignEach [.Name x p1, .Starred (.Name y p2) sp] X.env).map (·.2) = [assign (.Name x p1) X.env, assign (.Name y p2) X.env] := by rfl)
    (hfx : X.fn x = true ∨ X.env.scope.names.lookup x = some .local := by first | exact .inl rfl | exact .inr rfl | assumption) (hfy : X.fn y = true ∨ X.env.scope.names.lookup y = some .local := by first | exact .inl rfl | exact .inr rfl | assumption) :
    DTg X (.Tuple [.Name x p1, .Starred (.Name y p2) sp] k pos) (tRest i j) := by
  refine pg_imp (pg_rest hc (pg_name hN hi hx hfx) (pg_name hN hj hy hfy) hn hst hm) ?_
  rintro v σ H Q ⟨G, ρ, ρ', d, R, hd, ht, kk⟩
  unfold tRest at ht
  split at ht
  · rename_i d0 ds
    split at ht
    · rename_i hz
      cases ht
      cases hd with
      | tup hs ha =>
        cases ha with
        | @cons _ v0 vs _ _ h1 h2 =>
          refine ⟨_, v0, vs, rfl, (hs.same R.sub).sq, by rw [h2.len]; exact hz, fun p n => ?_⟩
          have xt := Xt.new (o := .lst vs) R.sub n
          have R1 := R.ext xt
          have R2 := R1.put (i := i) (h1.same xt.gg)
          have R3 := R2.put (i := j) (newL (Same.free R.sub n) h2)
          exact kk _ _ _ R3 ((Sx.ext xt).trans ((Sx.put R1).trans (Sx.put R2)))
    · cases ht
  · cases ht
end
def levels : List (Str × Nat) := [("cache", 1), ("plain", 2), ("inclusive", 2), ("victim", 2)]
structure Lev (K : PySem.W.Frag) (w : World) (d : Addr) : Prop where
  dict : ∃ es n, KDict K w d es n
  no : ∀ z, levels.lookup z = none → PySem.W.nsIn K d z = some none
  yes : ∀ z k, levels.lookup z = some k → ∃ t, PySem.W.nsIn K d z = some (some (.int (k : Nat) t))
def levD (z : Str) : PyData := match levels.lookup z with | some k => .int (k : Nat) | none => .none
def fLev (f : EF) : EF := fun ρ => match f ρ with
  | some (.str z, ρ') => some (levD z, ρ')
  | _ => none
section
variable {X : Cx} {o e : Expr} {apos cpos : Pos} {d : Addr} {f : EF}
theorem de_lev (L : Lev X.K X.w d) (ho : PE X o (tC (.ref d))) (he : DE X e f) (m : M1 X o "get" apos e cpos) : DE X (.Call (.Attribute o "get" apos) [e] [] cpos) (fLev f) := by
  constructor
  intro pins s σ H Q I h
  obtain ⟨es, n, D⟩ := L.dict
  have h' : rE X.w X.K f σ H fun y H2 => ∃ z, y = .str z ∧ ∀ v, Da (X.K) (fun _ => none) v (levD z) → Q v H2 := by
    obtain ⟨G, ρ, ρ', d, R, hf, k⟩ := h
    unfold fLev at hf
    split at hf
    · rename_i z ρ1 e1
      cases hf
      refine ⟨G, ρ, _, _, R, e1, fun v G1 H1 R1 s1 q1 => ?_⟩
      cases q1
      refine ⟨z, rfl, fun v hv => k v G1 H1 R1 s1 (hv.same fun b o e => ?_)⟩
      cases e
    · cases hf
  refine wpAny_Call_method m.base m.few m.line PySem.F.plainAttrs_dict PySem.F.slot_dict_get PySem.F.type_dict_get (thn (ho.run pins s σ H (fun v H1 => v = .ref d ∧ rE X.w X.K f σ H1 fun y H2 => ∃ z, y = .str z ∧ ∀ v, Da (X.K) (fun _ => none) v (levD z) → Q v H2) I ⟨rfl, h'⟩) ?_)
  rintro u s1 ⟨x, H1, I1, rx, ex, q1⟩
  subst ex
  obtain rfl : u = Value.ref d := rx
  have hm := PySem.W.mapOf_K (prog := X.prog) (w := X.w) I1.kIn D.at_ D.lit
  refine ⟨hm.typeIs, fun b q => ?_, ?_⟩
  · cases q
    exact ⟨_, I1.kIn _ _ D.at_, rfl⟩
  rw [m.trees]
  refine Calls.callWith_builtin rfl (Calls.evalArgs_plain (Calls.spliced_cons (thn (he.run pins s1 σ H1 _ I1 q1) fun iv s2 ⟨y, H2, I2, ry, z, ey, q2⟩ => Calls.spliced_nil ?_)))
  subst ey
  obtain ⟨t, rfl⟩ := ry
  have hm2 := PySem.W.mapOf_K (prog := X.prog) (w := X.w) I2.kIn D.at_ D.lit
  refine call_meetsIn PySem.F.slot_dict_get hm2.typeIs PySem.F.entry_dict_get (PySem.F.args_dict_get_2 _ _) (meets_dict_get (strKind X.prog X.w) d (PySem.strKind_is X.prog X.w z t) D.low) ⟨_, hm2, ?_⟩
  unfold levD at q2
  cases hz : levels.lookup z with
  | none =>
    rw [hz] at q2
    rw [PySem.W.find_K D.at_ (L.no z hz)]
    exact ⟨.non, H2, I2.tok _, rfl, q2 _ .non⟩
  | some k =>
    rw [hz] at q2
    obtain ⟨t2, e2⟩ := L.yes z k hz
    rw [PySem.W.find_K D.at_ e2]
    exact ⟨.int (k : Nat), H2, I2.tok _, ⟨t2, rfl⟩, q2 _ (.int _)⟩
end
section
variable {X : Cx}
def fTupRg (f : EF) : EF := fun ρ => match f ρ with
  | some (.int n, ρ') => if 0 ≤ n ∧ n ≤ 1000 then some (.tuple (rangeD 0 n.toNat), ρ') else none
  | _ => none
theorem de_tupRg {e : Expr} {f : EF} {p p2 pos pos2 : Pos} (hc : X.calm = true) (hg : Gl X "tuple") (hm : X.mg "tuple" = none) (hg2 : Gl X "range") (hm2 : X.mg "range" = none) (he : DE X e f)
    (na : starEach [e] X.env = (false, eval e X.env) :: starEach [] X.env := by rfl) (na2 : starEach [.Call (.Name "range" p2) [e] [] pos2] X.env = (false, eval (.Call (.Name "range" p2) [e] [] pos2) X.env) :: starEach [] X.env := by rfl) :
    DE X (.Call (.Name "tuple" p) [.Call (.Name "range" p2) [e] [] pos2] [] pos) (fTupRg f) := by
  refine pe_imp (pe_tupRgN hc hg hm (prg_1 hg2 hm2 he na) na2) ?_
  rintro σ H Q ⟨G, ρ, ρ', d, R, hf, k⟩
  unfold fTupRg at hf
  split at hf
  · rename_i n ρ1 e1
    split at hf
    · rename_i hz
      cases hf
      refine ⟨G, ρ, _, _, R, e1, fun v G1 H1 R1 s1 q1 => ?_⟩
      cases q1
      refine ⟨n, rfl, RgOk.of_le (by omega) (by omega) (by omega) (by omega), fun p o np od => ?_⟩
      have xt := Xt.new (o := .frz o (.tup (rgV 0 n))) R1.sub np
      refine k _ _ _ (R1.ext xt) (s1.trans (.ext xt)) (newT (Same.free R1.sub np) od ?_)
      unfold rgV rangeD
      rw [Int.sub_zero]
      have z : (List.range n.toNat).map (fun i => V.int (0 + ((i : Nat) : Int))) = ((List.range n.toNat).map fun i => (0 + ((i : Nat) : Int))).map V.int := by rw [List.map_map]; rfl
      have z2 : (List.range n.toNat).map (fun i => PyData.int (0 + ((i : Nat) : Int))) = ((List.range n.toNat).map fun i => (0 + ((i : Nat) : Int))).map PyData.int := by rw [List.map_map]; rfl
      rw [z, z2]
      exact .ofInts _
    · cases hf
  · cases hf
def fRepL (f g : EF) : LF := fun ρ => match f ρ with
  | some (.list ds, ρ1) => match g ρ1 with
    | some (.int k, ρ2) => if 0 ≤ k ∧ k ≤ 2000 ∧ ds.length ≤ 500 then some (timesL ds k.toNat, ρ2) else none
    | _ => none
  | _ => none
theorem dn_rep {a b : Expr} {f g : EF} {pos : Pos} (ha : DE X a f) (hb : DE X b g) : DN X (.BinOp a .Mult b pos) (fRepL f g) := by
  refine pe_imp (pe_op op_rep ha hb) ?_
  rintro σ H Q ⟨G, ρ, ρ', d, R, hf, k⟩
  unfold fRepL at hf
  split at hf
  · rename_i ds ρ1 e1
    split at hf
    · rename_i n ρ2 e2
      split at hf
      · rename_i hz
        cases hf
        obtain ⟨z1, z2, z3⟩ := hz
        refine ⟨G, ρ, ρ1, _, R, e1, fun v1 G1 H1 R1 s1 q1 => ⟨G1, ρ1, _, _, R1, e2, fun v2 G2 H2 R2 s2 q2 => ?_⟩⟩
        cases q2
        have q3 := q1.same s2.gr
        cases q3 with
        | @lst _ p xs _ hp ha =>
          refine ⟨p, n, xs, rfl, rfl, R2.sub _ _ hp, by omega, by omega, rep_le z1 z2 (by rw [ha.len]; exact z3), fun t nt => ?_⟩
          have xm := Xt.more (p := t) (o := .lst (List.replicate n.toNat xs).flatten) R2.sub nt
          have s3 := (s1.trans s2).trans (.ext xm)
          exact k t _ G2 _ (R2.ext xm) s3 upd_same (Same.free R2.sub nt) (noOw R2 nt) (backN (s1.trans s2) nt) (ha.times _)
      · cases hf
    · cases hf
  · cases hf
def fPar (i j : Nat) (f : LF) : SF := fun ρ => match f ρ with
  | some ([d, e], ρ1) => some (.nx ((ρ1.set i (.dat d)).set j (.dat e)))
  | _ => none
theorem ds_par {i j : Nat} {x y : Str} {a b : Expr} {f : LF} {px py pt pos : Pos} {kt k2 pt2} (hc : X.calm = true) (hN : X.N.Nodup) (hi : X.N[i]? = some x) (hj : X.N[j]? = some y) (hij : i ≠ j)
    (hx : X.env.scope.names.lookup x = some .local) (hy : X.env.scope.names.lookup y = some .local) (ha : DLs X [a, b] f)
    (hw : swappedStores [.Tuple [.Name x px, .Name y py] kt pt] (.Tuple [a, b] k2 pt2) X.env = pure (some [x, y]))
    (hs : swapsWithSole [.Tuple [.Name x px, .Name y py] kt pt] (.Tuple [a, b] k2 pt2) pos.line X.env = pure false := by rfl) :
    DS X (.Assign [.Tuple [.Name x px, .Name y py] kt pt] (.Tuple [a, b] k2 pt2) pos) (fPar i j f) := by
  refine ps_imp (ps_par hc hN hi hj hij hx hy ha hw hs) ?_
  rintro D σ H ⟨G, ρ, o, R, hf, k⟩
  unfold fPar at hf
  split at hf
  · rename_i d e ρ1 e1
    cases hf
    refine ⟨G, ρ, ρ1, _, R, e1, fun vs G1 H1 R1 s1 q1 => ?_⟩
    cases q1 with
    | @cons _ v1 _ _ _ h1 h2 =>
      cases h2 with
      | @cons _ v2 _ _ _ h2 h3 =>
        cases h3
        have R2 := R1.put (i := i) h1
        have R3 := R2.put (i := j) h2
        exact ⟨v1, v2, rfl, k _ G1 H1 R3 (s1.trans ((Sx.put R1).trans (Sx.put R2)))⟩
  · cases hf
end
/-- one of several: a datum or a new list -/
inductive Itm where
  | d (x : PyData) | n (xs : List PyData)
abbrev IF := Rho → Option (Itm × Rho)
def ItR (ww : World) (K : PySem.W.Frag) (G H : Hp) (σ : L2.St) (ρ : Rho) (H0 : Hp) : Itm → V → Prop
  | .d x, v => Da K G v x
  | .n ds, v => ∃ p xs, v = .ref p ∧ H p = some (.lst xs) ∧ G p = none ∧ ¬ Ow σ ρ p ∧ H0 p = none ∧ DaA K G xs ds
def rX (ww : World) (K : PySem.W.Frag) (f : IF) : TE := fun σ H Q => ∃ G ρ ρ' a, Rl ww K G σ ρ H ∧ f ρ = some (a, ρ') ∧ ∀ v G' H', Rl ww K G' σ ρ' H' → Sx G σ ρ H G' σ ρ' H' → ItR ww K G' H' σ ρ' H a v → Q v H'
def DX (X : Cx) (e : Expr) (f : IF) : Prop := PE X e (rX X.w X.K f)
def xDat (f : EF) : IF := fun ρ => match f ρ with
  | some (d, ρ') => some (.d d, ρ')
  | none => none
def xNew (f : LF) : IF := fun ρ => match f ρ with
  | some (ds, ρ') => some (.n ds, ρ')
  | none => none
section
variable {X : Cx}
theorem dx_dat {e : Expr} {f : EF} (h : DE X e f) : DX X e (xDat f) := by
  refine pe_imp h ?_
  rintro σ H Q ⟨G, ρ, ρ', a, R, hf, k⟩
  unfold xDat at hf
  split at hf
  · rename_i d ρ1 e1
    cases hf
    exact ⟨G, ρ, _, d, R, e1, fun v G1 H1 R1 s1 q1 => k v G1 H1 R1 s1 q1⟩
  · cases hf
theorem dx_new {e : Expr} {f : LF} (h : DN X e f) : DX X e (xNew f) := by
  refine pe_imp h ?_
  rintro σ H Q ⟨G, ρ, ρ', a, R, hf, k⟩
  unfold xNew at hf
  split at hf
  · rename_i ds ρ1 e1
    cases hf
    exact ⟨G, ρ, _, ds, R, e1, fun p xs G1 H1 R1 s1 h1 h2 h3 h4 h5 => k _ G1 H1 R1 s1 ⟨p, xs, rfl, h1, h2, h3, h4, h5⟩⟩
  · cases hf
theorem ItR.keep {ww : World} {K : PySem.W.Frag} {G G' H H' H0 : Hp} {σ σ' : L2.St} {ρ ρ' : Rho} {a : Itm} {v : V} (h : ItR ww K G H σ ρ H0 a v) (s : Sx G σ ρ H G' σ' ρ' H') : ItR ww K G' H' σ' ρ' H0 a v := by
  cases a with
  | d x => exact Da.same h s.gr
  | n ds =>
    obtain ⟨p, xs, rfl, h1, h2, h3, h4, h5⟩ := h
    refine ⟨p, xs, rfl, s.fr p _ h1 (fun _ z => nomatch z) h3, ?_, fun z => ?_, h4, h5.same s.gr⟩
    · cases q : G' p with
      | none => rfl
      | some u =>
        rcases s.new p (by rw [q]; simp) with z | z | z
        · exact (z h2).elim
        · rw [h1] at z; cases z
        · exact (h3 z).elim
    · rcases s.ow p z with y | y
      · exact h3 y
      · rw [h1] at y; cases y
def setX (ρ : Rho) (i : Nat) : Itm → Rho
  | .d x => ρ.set i (.dat x)
  | .n xs => ρ.set i (.own false xs)
theorem Sx.hold2 {G0 H0 G H : Hp} {σ0 σ : L2.St} {ρ0 ρ : Rho} {i : Nat} {p : Addr} {ds : List PyData} (s : Sx G0 σ0 ρ0 H0 G σ ρ H) (n : H0 p = none) : Sx G0 σ0 ρ0 H0 G (σ.set i (some (.ref p))) (ρ.set i (.own false ds)) H := by
  refine ⟨s.gr, s.new, s.fr, fun b ⟨j, c, es, r, h1, h2, h3⟩ => ?_, s.al, fun j es h => ?_⟩
  · rcases set_get h1 with ⟨z1, z, _⟩ | ⟨z, h1⟩
    · subst z1
      by_cases hl : j < σ.length
      · rw [List.getElem?_set_self hl] at h2
        cases h2
        cases z
        simp only [reg, List.mem_singleton] at h3
        rw [h3]
        exact .inr n
      · rw [List.getElem?_eq_none (by rw [List.length_set]; omega)] at h2
        cases h2
    · rw [List.getElem?_set_ne (Ne.symm z)] at h2
      exact s.ow b ⟨j, c, es, r, h1, h2, h3⟩
  · rcases set_get h with ⟨_, z, _⟩ | ⟨z, h⟩
    · cases z
    · rw [List.getElem?_set_ne (Ne.symm z)]
      exact s.par j es h
/-- stored; what else is new stays so -/
theorem ItR.store {ww : World} {K : PySem.W.Frag} {G H H0 G0 : Hp} {σ0 σ : L2.St} {ρ0 ρ : Rho} {a : Itm} {v : V} {i : Nat} (R : Rl ww K G σ ρ H) (s : Sx G0 σ0 ρ0 H0 G σ ρ H) (h : ItR ww K G H σ ρ H0 a v) :
    Rl ww K G (σ.set i (some v)) (setX ρ i a) H ∧ Sx G0 σ0 ρ0 H0 G (σ.set i (some v)) (setX ρ i a) H ∧
      ∀ (b : Itm) (u : V), (∀ p, u = .ref p → v = .ref p → False) ∨ (∃ x, a = .d x) ∨ (∃ x, b = .d x) → ItR ww K G H σ ρ H0 b u → ItR ww K G H (σ.set i (some v)) (setX ρ i a) H0 b u := by
  cases a with
  | d x =>
    refine ⟨R.put h, s.trans (Sx.put R), fun b u _ hb => ?_⟩
    exact ItR.keep hb (Sx.put R)
  | n ds =>
    obtain ⟨p, xs, rfl, h1, h2, h3, h4, h5⟩ := h
    refine ⟨R.hold h1 h2 h3 h5, Sx.hold2 s h4, fun b u hu hb => ?_⟩
    cases b with
    | d x => exact hb
    | n es =>
      obtain ⟨q, ys, rfl, k1, k2, k3, k4, k5⟩ := hb
      refine ⟨q, ys, rfl, k1, k2, fun ⟨j, c, fs, r, z1, z2, z3⟩ => ?_, k4, k5⟩
      rcases set_get z1 with ⟨y1, y2, _⟩ | ⟨y, z1⟩
      · subst y1
        cases y2
        by_cases hl : j < σ.length
        · rw [List.getElem?_set_self hl] at z2
          cases z2
          simp only [reg, List.mem_singleton] at z3
          subst z3
          rcases hu with hu | ⟨x, e⟩ | ⟨x, e⟩
          · exact hu _ rfl rfl
          · cases e
          · cases e
        · rw [List.getElem?_eq_none (by rw [List.length_set]; omega)] at z2
          cases z2
      · rw [List.getElem?_set_ne (Ne.symm y)] at z2
        exact k3 ⟨j, c, fs, r, z1, z2, z3⟩
/-- a, b, c = .., data or new lists -/
def fPar3 (i j l : Nat) (f g h : IF) : SF := fun ρ => match f ρ with
  | none => none
  | some (a, ρ1) => match g ρ1 with
    | none => none
    | some (b, ρ2) => match h ρ2 with
      | none => none
      | some (c, ρ3) => some (.nx (setX (setX (setX ρ3 i a) j b) l c))
theorem ItR.new {ww : World} {K : PySem.W.Frag} {G H H0 H1 : Hp} {σ : L2.St} {ρ : Rho} {a : Itm} {v : V} (h : ItR ww K G H σ ρ H1 a v) (b : ∀ p, H1 p = none → H0 p = none) : ItR ww K G H σ ρ H0 a v := by
  cases a with
  | d x => exact h
  | n ds =>
    obtain ⟨p, xs, rfl, h1, h2, h3, h4, h5⟩ := h
    exact ⟨p, xs, rfl, h1, h2, h3, b p h4, h5⟩
theorem ItR.apart {ww : World} {K : PySem.W.Frag} {G H G1 H1 H0 : Hp} {σ σ1 : L2.St} {ρ ρ1 : Rho} {a b : Itm} {u v : V} (h : ItR ww K G H σ ρ H0 a v) (h' : ItR ww K G1 H1 σ1 ρ1 H b u) : (∀ p, u = .ref p → v = .ref p → False) ∨ (∃ x, a = .d x) ∨ ∃ x, b = .d x := by
  cases a with
  | d x => exact .inr (.inl ⟨x, rfl⟩)
  | n ds =>
    cases b with
    | d x => exact .inr (.inr ⟨x, rfl⟩)
    | n es =>
      obtain ⟨p, xs, rfl, h1, _⟩ := h
      obtain ⟨q, ys, rfl, _, _, _, h4, _⟩ := h'
      refine .inl fun r e1 e2 => ?_
      cases e1
      cases e2
      rw [h1] at h4
      cases h4
end
end DL
namespace DL
open PySem PySem.Spec PyProof.Rows L2 GX StX PySem.Calls
variable [DL.FT]
def rSL (ww : World) (K : PySem.W.Frag) (g : LF) : TS := fun D σ H => ∃ G ρ ρ' ds, Rl ww K G σ ρ H ∧ g ρ = some (ds, ρ') ∧ ∀ σ' p xs G' H', Rl ww K G' σ' ρ' H' → Sx G σ ρ H G' σ' ρ' H' → H' p = some (.lst xs) → G' p = none → H p = none → DaA K G' xs ds → D.rt (.ref p) H'
def DSL (X : Cx) (st : List Stmt) (g : LF) : Prop := PSs X st (rSL X.w X.K g)
def fThen (g : SF) (h : LF) : LF := fun ρ => match g ρ with
  | some (.nx ρ1) => h ρ1
  | _ => none
section
variable {X : Cx}
theorem dsl_ret {e : Expr} {f : LF} {pos : Pos} (h : DN X e f) : DSL X [.Return (some e) pos] f := by
  refine pss_imp (pss_one (ps_ret h)) ?_
  rintro D σ H ⟨G, ρ, ρ', ds, R, hf, k⟩
  exact ⟨G, ρ, ρ', ds, R, hf, fun p xs G' H' R' s' h1 h2 h3 h4 h5 => k σ p xs G' H' R' s' h1 h2 h4 h5⟩
theorem dsl_cons {st : Stmt} {rest : List Stmt} {g : SF} {h : LF} (h1 : DS X st g) (h2 : DSL X rest h) : DSL X (st :: rest) (fThen g h) := by
  refine pss_imp (pss_cons h1 h2) ?_
  rintro D σ H ⟨G, ρ, ρ', ds, R, hf, k⟩
  unfold fThen at hf
  split at hf
  · rename_i ρ1 e1
    exact ⟨G, ρ, .nx ρ1, R, e1, fun σ1 G1 H1 R1 s1 => ⟨G1, ρ1, ρ', ds, R1, hf, fun σ' p xs G' H' R' s' z1 z2 z3 z4 => k σ' p xs G' H' R' (s1.trans s') z1 z2 (backN s1 z3) z4⟩⟩
  · cases hf
end
abbrev FL := List Sl → Option (List PyData × List Sl)
def spL (ww : World) (K : PySem.W.Frag) (n : Nat) (F : FL) : Sp := fun vs H Q _ => vs.length = n ∧ ∃ G sls sls' ds, Rl ww K G (vs.map some) sls H ∧ F sls = some (ds, sls') ∧
  ∀ p xs G' H', Rl ww K G' (vs.map some) sls' H' → Sx G (vs.map some) sls H G' (vs.map some) sls' H' → H' p = some (.lst xs) → G' p = none → H p = none → DaA K G' xs ds → Q (.ref p) H'
def fBodyL (m : Nat) (g : LF) : FL := fun sls => match g (sls ++ List.replicate m .un) with
  | some (ds, ρ') => some (ds, backP sls.length ρ')
  | none => none
section
variable {P : Program} {w : World} {K : PySem.W.Frag} {mg : Str → Option Value} {base : Heap} {f : Addr} {fd : FuncData}
theorem okL {x qual : Str} {pa : Arguments} {bd : List Stmt} {sc : Scope} {dvs : List V} {kws : List (Str × V)} {N ps : List Str} {k : Nat} {g : LF} (F : FunD K x qual pa bd sc dvs kws f fd) (S : FnScope N ps sc)
    (body : ∀ (cdw : Value) (A : Around) (outer : List PySem.Env) (s : Shared) (H : Hp) (E : XK), Gd (A.deeper (envOfC qual sc s.heap.objs.size f cdw)) → Room k (A.deeper (envOfC qual sc s.heap.objs.size f cdw)) → DSL (cxOf CX0 P w K mg base N qual sc f cdw A outer s H E).nox bd g) :
    FnG P w K mg base (k + 1) f fd ps (spL w K ps.length (fBodyL (N.length - ps.length) g)) := by
  refine okG F S (fun vs H Q E h => h.1) fun cdv A outer s H vs Q E hG hR h => ⟨rSL w K g, body cdv A outer s H E hG hR, ?_⟩
  obtain ⟨hl, G, sls, sls', ds, R, hf, q⟩ := h
  have hls : vs.length = sls.length := by have := R.len; rwa [List.length_map] at this
  have es : start N vs = vs.map some ++ List.replicate (N.length - ps.length) none := by
    show vs.map some ++ List.replicate (N.length - vs.length) none = _
    rw [hl]
  have R0 : Rl w K G (vs.map some ++ List.replicate (N.length - ps.length) none) (sls ++ List.replicate (N.length - ps.length) .un) H := by
    refine R.alike (by simp [hls]) fun i s hs h => ?_
    have z := app_un hs h
    have li : i < sls.length := (List.getElem?_eq_some_iff.mp z).1
    exact ⟨z, by rw [List.getElem?_append_left (by simp [hls, li])]⟩
  rw [es]
  unfold fBodyL at hf
  split at hf
  · rename_i d' ρ' e
    cases hf
    exact ⟨G, _, _, _, R0, e, fun σ' p xs G' H' R' s' z1 z2 z3 z4 => let ⟨y1, y2⟩ := fin_of hls R' s'; q p xs G' H' y1 y2 z1 z2 z3 z4⟩
  · cases hf
end
def fCaL (n : Nat) (F : FL) (f : AF) : LF := fun ρ => match f ρ with
  | none => none
  | some (as, ρ1) => if (as.filterMap (ownJ ρ1)).Nodup ∧ as.length = n then match F (as.map (toSl ρ1)) with
      | none => none
      | some (d, sls') => if sls'.length = as.length then some (d, backC ρ1 as sls') else none
    else none
theorem backC_own {K : PySem.W.Frag} {G G' H H' : Hp} {σ : L2.St} {vs : List V} {ρ : Rho} {as : List Ag} {ss : List Sl} (ha : Paired (AgR K G σ) as vs) (hl : as.length = ss.length) (s : Sx G (vs.map some) (as.map (toSl ρ)) H G' (vs.map some) ss H') {j : Nat} {b : Bool} {ds : Cn} (h : (backC ρ as ss)[j]? = some (.own b ds)) : ∃ es, ρ[j]? = some (.own b es) ∧ ∀ r, reg r ds = reg r es := by
  rcases backC_at (by simp) hl h with ⟨h1, _⟩ | ⟨i, b', c0, ds', ea, h2, h3, e⟩
  · exact ⟨_, h1, fun _ => rfl⟩
  · cases e
    obtain ⟨⟨es, h4, hr⟩, _⟩ := s.par i _ h3
    have h5 : (as.map (toSl ρ))[i]? = some (.own true c0) := by
      rw [List.getElem?_map, ea]
      show some (toSl ρ (.v j)) = _
      unfold toSl
      dsimp only
      rw [h2]
    rw [h5] at h4
    cases h4
    exact ⟨_, h2, hr⟩
section
variable {X : Cx} {k : Nat} {f : Addr} {fd : FuncData} {ps : List Str} {n : Nat} {x : Str} {p pos : Pos} {e : Expr} {es : List Expr} {g : AF}
theorem tCallL_of {ww : World} {K : PySem.W.Frag} {F : FL} {g : AF} {n : Nat} : ∀ σ H Q, rF ww K (fCaL n F g) σ H Q → tCall (spL ww K n F) [] E0 (rAs ww K g) σ H Q := by
  rintro σ H Q ⟨G, ρ, ρ', d, R, hf, q⟩
  unfold fCaL at hf
  split at hf
  · cases hf
  · rename_i as ρ1 h1
    split at hf
    · rename_i nd
      split at hf
      · cases hf
      · rename_i d' ss h2
        split at hf
        · rename_i hl
          cases hf
          refine ⟨G, ρ, ρ1, as, R, h1, fun vs G1 H1 R1 s1 q1 => ?_⟩
          show spL ww K n F (vs ++ []) H1 Q E0
          rw [List.append_nil]
          refine ⟨by rw [← paired_len q1]; exact nd.2, G1, _, ss, _, call_in R1 q1 nd.1, h2, fun p xs G2 H2 R2 s2 z1 z2 z3 z4 => ?_⟩
          obtain ⟨R3, s3⟩ := call_out R1 q1 hl.symm R2 s2
          refine q p xs G2 H2 R3 (s1.trans s3) z1 z2 (fun ⟨j, c, fs, r, y1, y2, y4⟩ => ?_) (backN s1 z3) z4
          obtain ⟨es, y3, y5⟩ := backC_own q1 hl.symm s2 y1
          exact noOw R1 z3 ⟨j, c, es, r, y3, y2, y5 r ▸ y4⟩
        · cases hf
    · cases hf
/-- f(e, ..) gives a new list -/
theorem dn_call {F : FL} (Fk : FnG X.prog X.w X.K X.mg X.base k f fd ps (spL X.w X.K n F)) (hG : Gd X.A) (hR : Room k X.A) (hg : Gl X x) (hm : X.mg x = some (.ref f)) (hk : PySem.W.keepIn X.K (.ref f) = true) (hb : Binds X.K fd ps [])
    (ha : DAs X (e :: es) g) (hdb : (x == ("__debug__" : Str)) = false := by decide)
    (he : starEach (e :: es) X.env = (false, eval e X.env) :: starEach es X.env := by rfl) (hpl : (backTo pos (starEach es X.env)).any (·.1) = false := by rfl) :
    DN X (.Call (.Name x p) (e :: es) [] pos) (fCaL n F g) :=
  pe_imp (pe_callG Fk hG hR hg hm hk hb ha hdb he hpl) tCallL_of
def permL {α : Type} (π : List Nat) (xs : List α) : List α := π.filterMap fun i => xs[i]?
def fCaK (n : Nat) (F : FF) (π : List Nat) (g : AF) : EF := fCa n F fun ρ => match g ρ with
  | some (as, ρ') => some (permL π as, ρ')
  | none => none
end
end DL
namespace DL
open PySem PySem.Spec PyProof.Rows L2 GX StX PySem.Calls
variable [DL.FT]
section
variable {X : Cx}
theorem ev (i : Nat) {x : Str} {pos : Pos} (hN : X.N[i]? = some x := by rfl) (hv : Vis X.env.scope x := by first | exact Or.inl rfl | exact Or.inr (Or.inl rfl) | exact Or.inr (Or.inr rfl))
    (hd : (x == ("__debug__" : Str)) = false := by decide) (hcd : (x == ("__classdict__" : Str)) = false := by decide) : DE X (.Name x pos) (fVar i) := de_var hN hv hd hcd
theorem gv (i : Nat) {x : Str} {pos : Pos} (hN : X.N[i]? = some x := by rfl) (hv : Vis X.env.scope x := by first | exact Or.inl rfl | exact Or.inr (Or.inl rfl) | exact Or.inr (Or.inr rfl))
    (hd : (x == ("__debug__" : Str)) = false := by decide) (hcd : (x == ("__classdict__" : Str)) = false := by decide) : DG X (.Name x pos) (gVar i) := dg_var hN hv hd hcd
theorem sv (i : Nat) {x : Str} {pos : Pos} (hN : X.N[i]? = some x := by rfl) (hv : Vis X.env.scope x := by first | exact Or.inl rfl | exact Or.inr (Or.inl rfl) | exact Or.inr (Or.inr rfl))
    (hd : (x == ("__debug__" : Str)) = false := by decide) (hcd : (x == ("__classdict__" : Str)) = false := by decide) : DG X (.Name x pos) (gScr i) := dg_scr hN hv hd hcd
theorem tn (i : Nat) {x : Str} {pos : Pos} (nd : X.N.Nodup) (hN : X.N[i]? = some x := by rfl) (hx : Loc X.env.scope x := by first | exact Or.inl rfl | exact Or.inr rfl)
    (hf : X.fn x = true ∨ X.env.scope.names.lookup x = some .local := by first | exact .inl rfl | exact .inr rfl) : DTg X (.Name x pos) (tName i) := dtg_name nd hN hx hf
theorem kn (i : Nat) {x : Str} {pos : Pos} (nd : X.N.Nodup) (hN : X.N[i]? = some x := by rfl) (hx : Loc X.env.scope x := by first | exact Or.inl rfl | exact Or.inr rfl)
    (hf : X.fn x = true ∨ X.env.scope.names.lookup x = some .local := by first | exact .inl rfl | exact .inr rfl) : PG X (.Name x pos) (gName i) := pg_name nd hN hx hf
theorem sset (i : Nat) {x : Str} {e : Expr} {f : EF} {pos pos' : Pos} (nd : X.N.Nodup) (he : DE X e f) (hN : X.N[i]? = some x := by rfl) (hx : Loc X.env.scope x := by first | exact Or.inl rfl | exact Or.inr rfl)
    (hs : swapsWith e (some (.Name x pos')) pos.line X.env = pure false := by rfl) (hf : X.fn x = true ∨ X.env.scope.names.lookup x = some .local := by first | exact .inl rfl | exact .inr rfl) :
    DS X (.Assign [.Name x pos'] e pos) (fAsg f (tName i)) := ds_set nd hN hx he hs hf
theorem shold (i : Nat) {x : Str} {e : Expr} {f : LF} {pos pos' : Pos} (nd : X.N.Nodup) (he : DN X e f) (hN : X.N[i]? = some x := by rfl) (hx : Loc X.env.scope x := by first | exact Or.inl rfl | exact Or.inr rfl)
    (hs : swapsWith e (some (.Name x pos')) pos.line X.env = pure false := by rfl) (hf : X.fn x = true ∨ X.env.scope.names.lookup x = some .local := by first | exact .inl rfl | exact .inr rfl) :
    DS X (.Assign [.Name x pos'] e pos) (fHold i f) := ds_hold nd hN hx he hs hf
theorem sapp (j : Nat) {x : Str} {e : Expr} {f : EF} {p apos cpos pos : Pos} (he : DE X e f) (hN : X.N[j]? = some x := by rfl) (hv : Vis X.env.scope x := by first | exact Or.inl rfl | exact Or.inr (Or.inl rfl) | exact Or.inr (Or.inr rfl))
    (hd : (x == ("__debug__" : Str)) = false := by decide) (hcd : (x == ("__classdict__" : Str)) = false := by decide)
    (hbase : attributeBase (.Name x p) "append" X.env (eval (.Name x p) X.env) = eval (.Name x p) X.env := by rfl)
    (hfew : ((backTo cpos (starEach [e] X.env)).all (fun x => !x.1) && (backToKw cpos (keywordEach [] X.env)).all (fun x => x.1.isSome)
      && decide ([e].length + ([] : List Keyword).length + (if ([] : List Keyword).isEmpty then 0 else 1) < 30)) = true := by rfl)
    (hline : (apos.endLine == cpos.line) = true := by rfl) (hs : starEach [e] X.env = (false, eval e X.env) :: starEach [] X.env := by rfl) (hplain : (backTo cpos (starEach [] X.env)).any (·.1) = false := by rfl)
    (hsw : swapsWith (.Call (.Attribute (.Name x p) "append" apos) [e] [] cpos) none pos.line X.env = pure false := by rfl) :
    DS X (.Expr (.Call (.Attribute (.Name x p) "append" apos) [e] [] cpos) pos) (fApp j f) := ds_app hN hv he hd hcd hbase hfew hline hs hplain hsw
theorem sext (j : Nat) {x : Str} {e : Expr} {f : EF} {p apos cpos pos : Pos} (he : DE X e f) (hN : X.N[j]? = some x := by rfl) (hv : Vis X.env.scope x := by first | exact Or.inl rfl | exact Or.inr (Or.inl rfl) | exact Or.inr (Or.inr rfl))
    (hd : (x == ("__debug__" : Str)) = false := by decide) (hcd : (x == ("__classdict__" : Str)) = false := by decide)
    (hbase : attributeBase (.Name x p) "extend" X.env (eval (.Name x p) X.env) = eval (.Name x p) X.env := by rfl)
    (hfew : ((backTo cpos (starEach [e] X.env)).all (fun x => !x.1) && (backToKw cpos (keywordEach [] X.env)).all (fun x => x.1.isSome)
      && decide ([e].length + ([] : List Keyword).length + (if ([] : List Keyword).isEmpty then 0 else 1) < 30)) = true := by rfl)
    (hline : (apos.endLine == cpos.line) = true := by rfl) (hs : starEach [e] X.env = (false, eval e X.env) :: starEach [] X.env := by rfl) (hplain : (backTo cpos (starEach [] X.env)).any (·.1) = false := by rfl)
    (hsw : swapsWith (.Call (.Attribute (.Name x p) "extend" apos) [e] [] cpos) none pos.line X.env = pure false := by rfl) :
    DS X (.Expr (.Call (.Attribute (.Name x p) "extend" apos) [e] [] cpos) pos) (fExt j f) := ds_ext hN hv he hd hcd hbase hfew hline hs hplain hsw
theorem tsub (j : Nat) {x : Str} {i : Expr} {f : EF} {p pos : Pos} (hi : DE X i f) (hN : X.N[j]? = some x := by rfl) (hv : Vis X.env.scope x := by first | exact Or.inl rfl | exact Or.inr (Or.inl rfl) | exact Or.inr (Or.inr rfl))
    (hd : (x == ("__debug__" : Str)) = false := by decide) (hcd : (x == ("__classdict__" : Str)) = false := by decide)
    (ha : ∀ v, assign (.Subscript (.Name x p) i pos) X.env v = (do
      let ov ← holding [v] (eval (.Name x p) X.env)
      let iv ← holding [v, ov] (eval i X.env)
      standAt pos
      holding [v, ov, iv] (setItem ov iv v)
      release [v, ov, iv] []) := by intro _; rfl) : DTg X (.Subscript (.Name x p) i pos) (tSub j f) := dtg_sub hN hv hi hd hcd ha
theorem eslen (i : Nat) {x : Str} {p p2 pos : Pos} (hm : X.mg "len" = none) (hN : X.N[i]? = some x := by rfl) (hv : Vis X.env.scope x := by first | exact Or.inl rfl | exact Or.inr (Or.inl rfl) | exact Or.inr (Or.inr rfl)) (hg : Gl X "len" := by rfl)
    (hd : (x == ("__debug__" : Str)) = false := by decide) (hcd : (x == ("__classdict__" : Str)) = false := by decide) (hs : starEach [.Name x p2] X.env = (false, eval (.Name x p2) X.env) :: starEach [] X.env := by rfl) :
    DE X (.Call (.Name "len" p) [.Name x p2] [] pos) (fScrLen i) := de_slen hN hv hg hm hd hcd hs
theorem esix (i : Nat) {x : Str} {e : Expr} {f : EF} {p2 pos : Pos} (he : DE X e f) (hN : X.N[i]? = some x := by rfl) (hv : Vis X.env.scope x := by first | exact Or.inl rfl | exact Or.inr (Or.inl rfl) | exact Or.inr (Or.inr rfl))
    (hd : (x == ("__debug__" : Str)) = false := by decide) (hcd : (x == ("__classdict__" : Str)) = false := by decide) (hs : PlainIx e := by exact fun _ _ => rfl) : DE X (.Subscript (.Name x p2) e pos) (fScrIx i f) := de_six hN hv he hd hcd hs
theorem essl (i : Nat) {x : Str} {hi : Int} {j} {p1 p2 p3 pos : Pos} (hN : X.N[i]? = some x := by rfl) (hv : Vis X.env.scope x := by first | exact Or.inl rfl | exact Or.inr (Or.inl rfl) | exact Or.inr (Or.inr rfl))
    (hd : (x == ("__debug__" : Str)) = false := by decide) (hcd : (x == ("__classdict__" : Str)) = false := by decide) :
    DE X (.Subscript (.Name x p1) (.Slice none (some (.Constant (.int hi) j p3)) none p2) pos) (fScrTo i hi) := de_ssl hN hv hd hcd
end
def Cal (P : Program) (w : World) (K : PySem.W.Frag) (mg : Str → Option Value) (base : Heap) (k : Nat) (x : Str) (ps : List Str) (sp : Sp) : Prop :=
  ∃ f fd, FnG P w K mg base k f fd ps sp ∧ mg x = some (.ref f) ∧ PySem.W.keepIn K (.ref f) = true ∧ Binds K fd ps []
theorem Cal.mono {P : Program} {w : World} {K : PySem.W.Frag} {mg : Str → Option Value} {base : Heap} {j k : Nat} {x : Str} {ps : List Str} {sp : Sp} (c : Cal P w K mg base j x ps sp) (h : j ≤ k) : Cal P w K mg base k x ps sp :=
  let ⟨f, fd, F, a, b, d⟩ := c
  ⟨f, fd, F.mono h, a, b, d⟩
def CalK (P : Program) (w : World) (K : PySem.W.Frag) (mg : Str → Option Value) (base : Heap) (k : Nat) (x : Str) (ps ks : List Str) (π : List Nat) (sp : Sp) : Prop :=
  ∃ f fd, FnG P w K mg base k f fd ps sp ∧ mg x = some (.ref f) ∧ PySem.W.keepIn K (.ref f) = true ∧ KBinds K fd ps ks (fun us ws => if us = [] then permL π ws else []) (fun vs zs => if vs = [] then permL π zs else [])
theorem CalK.mono {P : Program} {w : World} {K : PySem.W.Frag} {mg : Str → Option Value} {base : Heap} {j k : Nat} {x : Str} {ps ks : List Str} {π : List Nat} {sp : Sp} (c : CalK P w K mg base j x ps ks π sp) (h : j ≤ k) : CalK P w K mg base k x ps ks π sp :=
  let ⟨f, fd, F, a, b, d⟩ := c
  ⟨f, fd, F.mono h, a, b, d⟩
section
variable {X : Cx} {k n : Nat} {x : Str} {ps : List Str} {p pos : Pos} {e : Expr} {es : List Expr} {g : AF}
theorem ecall {F : FF} (c : Cal X.prog X.w X.K X.mg X.base k x ps (spD X.w X.K n F)) (hG : Gd X.A) (hR : Room k X.A) (ha : DAs X (e :: es) g) (hg : Gl X x := by rfl) (hdb : (x == ("__debug__" : Str)) = false := by decide)
    (he : starEach (e :: es) X.env = (false, eval e X.env) :: starEach es X.env := by rfl) (hpl : (backTo pos (starEach es X.env)).any (·.1) = false := by rfl) :
    DE X (.Call (.Name x p) (e :: es) [] pos) (fCa n F g) := by
  obtain ⟨f, fd, Fk, hm, hk, hb⟩ := c
  exact de_call Fk hG hR hg hm hk hb ha hdb he hpl
theorem ncall {F : FL} (c : Cal X.prog X.w X.K X.mg X.base k x ps (spL X.w X.K n F)) (hG : Gd X.A) (hR : Room k X.A) (ha : DAs X (e :: es) g) (hg : Gl X x := by rfl) (hdb : (x == ("__debug__" : Str)) = false := by decide)
    (he : starEach (e :: es) X.env = (false, eval e X.env) :: starEach es X.env := by rfl) (hpl : (backTo pos (starEach es X.env)).any (·.1) = false := by rfl) :
    DN X (.Call (.Name x p) (e :: es) [] pos) (fCaL n F g) := by
  obtain ⟨f, fd, Fk, hm, hk, hb⟩ := c
  exact dn_call Fk hG hR hg hm hk hb ha hdb he hpl
end
def tIndexD : OpM := fun d ds => match d with | .tuple _ => indexD d ds | _ => none
def lIndexD : OpM := fun d ds => match d with | .list _ => indexD d ds | _ => none
def tCountD : OpM := fun d ds => match d with | .tuple _ => countD d ds | _ => none
section
variable {X : Cx} {o e : Expr} {es : List Expr} {f : GF} {g : AF} {apos cpos : Pos}
theorem mtindex (hu : X.A.units + 65 < cLine) (ho : DG X o f) (ha : DAs X (e :: es) g) (hbase : attributeBase o "index" X.env (eval o X.env) = eval o X.env := by rfl)
    (hfew : ((backTo cpos (starEach (e :: es) X.env)).all (fun x => !x.1) && (backToKw cpos (keywordEach [] X.env)).all (fun x => x.1.isSome)
      && decide ((e :: es).length + ([] : List Keyword).length + (if ([] : List Keyword).isEmpty then 0 else 1) < 30)) = true := by rfl)
    (hline : (apos.endLine == cpos.line) = true := by rfl) (hs : starEach (e :: es) X.env = (false, eval e X.env) :: starEach es X.env := by rfl) (hplain : (backTo cpos (starEach es X.env)).any (·.1) = false := by rfl) :
    DE X (.Call (.Attribute o "index" apos) (e :: es) [] cpos) (fMe "tuple" tIndexD f g) :=
  de_me PySem.F.plainAttrs_tuple PySem.F.slot_tuple_index PySem.F.type_tuple_index (me_tindex hu) ho ha hbase hfew hline hs hplain
theorem mlindex (hu : X.A.units + 65 < cLine) (ho : DG X o f) (ha : DAs X (e :: es) g) (hbase : attributeBase o "index" X.env (eval o X.env) = eval o X.env := by rfl)
    (hfew : ((backTo cpos (starEach (e :: es) X.env)).all (fun x => !x.1) && (backToKw cpos (keywordEach [] X.env)).all (fun x => x.1.isSome)
      && decide ((e :: es).length + ([] : List Keyword).length + (if ([] : List Keyword).isEmpty then 0 else 1) < 30)) = true := by rfl)
    (hline : (apos.endLine == cpos.line) = true := by rfl) (hs : starEach (e :: es) X.env = (false, eval e X.env) :: starEach es X.env := by rfl) (hplain : (backTo cpos (starEach es X.env)).any (·.1) = false := by rfl) :
    DE X (.Call (.Attribute o "index" apos) (e :: es) [] cpos) (fMe "list" lIndexD f g) :=
  de_me PySem.F.plainAttrs_list PySem.F.slot_list_index PySem.F.type_list_index (me_lindex hu) ho ha hbase hfew hline hs hplain
theorem mtcount (ho : DG X o f) (ha : DAs X (e :: es) g) (hbase : attributeBase o "count" X.env (eval o X.env) = eval o X.env := by rfl)
    (hfew : ((backTo cpos (starEach (e :: es) X.env)).all (fun x => !x.1) && (backToKw cpos (keywordEach [] X.env)).all (fun x => x.1.isSome)
      && decide ((e :: es).length + ([] : List Keyword).length + (if ([] : List Keyword).isEmpty then 0 else 1) < 30)) = true := by rfl)
    (hline : (apos.endLine == cpos.line) = true := by rfl) (hs : starEach (e :: es) X.env = (false, eval e X.env) :: starEach es X.env := by rfl) (hplain : (backTo cpos (starEach es X.env)).any (·.1) = false := by rfl) :
    DE X (.Call (.Attribute o "count" apos) (e :: es) [] cpos) (fMe "tuple" tCountD f g) :=
  de_me PySem.F.plainAttrs_tuple PySem.F.slot_tuple_count PySem.F.type_tuple_count me_tcount ho ha hbase hfew hline hs hplain
end
section
variable {X : Cx}
theorem ds_par3c {i j l : Nat} {x y z : Str} {a b c : Expr} {f g h : IF} {px py pz pt pos : Pos} {kt k2 pt2} (hc : X.calm = true) (nd : X.N.Nodup) (hij : i ≠ j) (hil : i ≠ l) (hjl : j ≠ l)
    (gx : PG X (.Name x px) (gName i)) (gy : PG X (.Name y py) (gName j)) (gz : PG X (.Name z pz) (gName l)) (ha : DX X a f) (hb : DX X b g) (hcc : DX X c h)
    (hs : swapsWithSole [.Tuple [.Name x px, .Name y py, .Name z pz] kt pt] (.Tuple [a, b, c] k2 pt2) pos.line X.env = pure false := by rfl)
    (hw : swappedStores [.Tuple [.Name x px, .Name y py, .Name z pz] kt pt] (.Tuple [a, b, c] k2 pt2) X.env = pure none := by rfl)
    (st1 : starEach [a, b, c] X.env = (false, eval a X.env) :: starEach [b, c] X.env := by rfl) (st2 : starEach [b, c] X.env = (false, eval b X.env) :: starEach [c] X.env := by rfl) (st3 : starEach [c] X.env = (false, eval c X.env) :: starEach [] X.env := by rfl)
    (h1 : (assignEach [.Tuple [.Name x px, .Name y py, .Name z pz] kt pt] X.env).map (·.2) = [assign (.Tuple [.Name x px, .Name y py, .Name z pz] kt pt) X.env] := by rfl)
    (hn : (assignEach [.Name x px, .Name y py, .Name z pz] X.env).length = 3 := by rfl) (hst : (assignEach [.Name x px, .Name y py, .Name z pz] X.env).findIdx? (·.1) = none := by rfl)
    (m1 : (assignEach [.Name x px, .Name y py, .Name z pz] X.env).map (·.2) = assign (.Name x px) X.env :: (assignEach [.Name y py, .Name z pz] X.env).map (·.2) := by rfl)
    (m2 : (assignEach [.Name y py, .Name z pz] X.env).map (·.2) = assign (.Name y py) X.env :: (assignEach [.Name z pz] X.env).map (·.2) := by rfl)
    (m3 : (assignEach [.Name z pz] X.env).map (·.2) = assign (.Name z pz) X.env :: (assignEach [] X.env).map (·.2) := by rfl) :
    DS X (.Assign [.Tuple [.Name x px, .Name y py, .Name z pz] kt pt] (.Tuple [a, b, c] k2 pt2) pos) (fPar3 i j l f g h) := by
  refine ps_imp (ps_asg (pe_tup (pa_cons ha (pa_cons hb (pa_cons hcc pa_nil st3) st2) st1)) (pg_tup hc (pgs_cons gx (pgs_cons gy (pgs_cons gz pgs_nil m3) m2) m1) hn hst) hs hw h1) ?_
  rintro D σ H ⟨G, ρ, o, R, hf, k⟩
  unfold fPar3 at hf
  split at hf
  · cases hf
  · rename_i ia ρ1 e1
    split at hf
    · cases hf
    · rename_i ib ρ2 e2
      split at hf
      · cases hf
      · rename_i ic ρ3 e3
        cases hf
        refine ⟨G, ρ, ρ1, ia, R, e1, fun v1 G1 H1 R1 s1 q1 => ⟨G1, ρ1, ρ2, ib, R1, e2, fun v2 G2 H2 R2 s2 q2 => ⟨G2, ρ2, ρ3, ic, R2, e3, fun v3 G3 H3 R3 s3 q3 => ?_⟩⟩⟩
        refine ⟨by show (3 : Nat) ≤ sizeLine; rw [sizeLine_eq]; omega, fun p np => ⟨p, [v1, v2, v3], rfl, .inl (.inl upd_same), rfl, ?_⟩⟩
        have a12 := q1.apart q2
        have a13 := (q1.keep s2).apart q3
        have a23 := q2.apart q3
        have p1 := (q1.keep s2).keep s3
        have p2 := (q2.keep s3).new (H0 := H) fun p n => backN s1 n
        have p3 := q3.new (H0 := H) fun p n => backN (s1.trans s2) n
        have st := (s1.trans s2).trans s3
        obtain ⟨Ra, sa, ka⟩ := ItR.store (i := i) R3 st p1
        have p2' := ka ib v2 a12 p2
        have p3' := ka ic v3 a13 p3
        obtain ⟨Rb, sb, kb⟩ := ItR.store (i := j) Ra sa p2'
        have p3'' := kb ic v3 a23 p3'
        obtain ⟨Rc, sc, _⟩ := ItR.store (i := l) Rb sb p3''
        have xm := Xt.more (p := p) (o := .tup [v1, v2, v3]) Rc.sub np
        have fin := k _ G3 _ (Rc.ext xm) (sc.trans (.ext xm))
        exact ⟨_, _, rfl, _, _, rfl, _, _, rfl, rfl, fin⟩
end
end DL
namespace DL
open PySem PySem.Spec PyProof.Rows L2 GX StX PySem.Calls
end DL
namespace DL
open PySem PySem.Spec PyProof.Rows L2 GX StX PySem.Calls
end DL
namespace BX
open PySem PySem.Spec PyProof.Rows L2 GX StX DL
variable [DL.FT]
/-- where it stands -/
def wIx (w : Str) (l : List (Option Str)) : Option Nat := l.findIdx? (· == some w)
/-- all but these are as they were -/
def Fr (as : List Addr) (H H' : Hp) : Prop := ∀ c o, c ∉ as → H c = some o → H' c = some o
theorem Fr.refl (as : List Addr) (H : Hp) : Fr as H H := fun _ _ _ h => h
theorem Fr.trans {as : List Addr} {H H1 H2 : Hp} (a : Fr as H H1) (b : Fr as H1 H2) : Fr as H H2 := fun c o n h => b c o n (a c o n h)
theorem sqT_fr {K : PySem.W.Frag} {as : List Addr} {H H' : Hp} {a : Addr} {xs : List V} (h : SqT K H a xs) (f : Fr as H H') (l : ∀ c ∈ as, ∃ ys, H c = some (.lst ys)) : SqT K H' a xs := by
  rcases h with (h | ⟨o, h⟩) | h
  · refine .inl (.inl (f _ _ (fun n => ?_) h))
    obtain ⟨ys, e⟩ := l a n
    rw [h] at e; cases e
  · refine .inl (.inr ⟨o, f _ _ (fun n => ?_) h⟩)
    obtain ⟨ys, e⟩ := l a n
    rw [h] at e; cases e
  · exact .inr h
/-- the row of a table at a state -/
structure Tb (K : PySem.W.Frag) (H : Hp) (t : Addr) (st v a : Int) (hs : List Int) : Prop where
  ex : ∃ (x : V) (rows row hh : Addr) (xs : List V), SqT K H t [x, .ref rows] ∧ SqT K H rows xs ∧ atI xs st = some (.ref row) ∧ SqT K H row [.int v, .int a, .ref hh] ∧ SqT K H hh (hs.map V.int)
theorem Bx.fresh {H : Hp} {b p q : Addr} {rs : List Addr} {ss : List Int} {ls : List (List (Option Str))} (B : Bx H b p q rs ss ls) {r : Addr} {o : HO} (n : H r = none) : Bx (upd H r o) b p q rs ss ls := by
  have ne : ∀ c ∈ b :: p :: q :: rs, c ≠ r := fun c hc e => by
    obtain ⟨xs, h⟩ := B.lists hc
    rw [e, n] at h
    cases h
  refine ⟨?_, ?_, ?_, fun k s l h1 h2 => ?_, B.l1, B.l2, B.nd⟩
  · rw [upd_ne (ne b (by simp))]; exact B.hb
  · rw [upd_ne (ne p (by simp))]; exact B.hp
  · rw [upd_ne (ne q (by simp))]; exact B.hq
  · rw [upd_ne (ne s (by simp [List.mem_of_getElem? h1]))]; exact B.hr k s l h1 h2
structure Post (H H' : Hp) (b p q : Addr) (rs : List Addr) (ss' : List Int) (ls' : List (List (Option Str))) (r : Addr) (ys : List V) : Prop where
  bx : Bx H' b p q rs ss' ls'
  new : H r = none
  at_ : H' r = some (.lst ys)
  fr : Fr (b :: p :: q :: rs) H H'
  up : ∀ c, H c ≠ none → H' c ≠ none
theorem atI_map' {α β : Type} (f : α → β) (xs : List α) {i : Nat} {x : α} (h : xs[i]? = some x) : atI (xs.map f) (i : Int) = some (f x) := by
  have hi := (List.getElem?_eq_some_iff.mp h).1
  unfold atI ixN
  rw [List.length_map, if_pos (by omega), if_pos (by omega)]
  simp [h]
end BX
namespace BX
open PySem PySem.Spec PyProof.Rows L2 GX StX DL
variable [DL.FT]
abbrev Ls : Type := List (Option Str)
def goP (v a : Int) (hs : List Int) (l : Ls) (w : Str) : Option (Bool × Option Str × Int × Ls) := match wIx w l with
  | some j => (hs[j]?).map fun h => (true, none, h, l)
  | none => (l[v.toNat]?).map fun g => (false, g, a, l.set v.toNat (some w))
/-- what the upper level gave goes below, where the name is not held there -/
def downP (v1 a1 : Int) (hs1 : List Int) (s1 : Int) (l1 : Ls) (w : Str) (gone : Option Str) : Option (Int × Ls) := match wIx w l1 with
  | some j => (match hs1[j]? with
    | some h => some (h, l1.set j gone)
    | none => none)
  | none => (match gone with
    | some g => (match goP v1 a1 hs1 l1 g with
      | some (_, _, s', l') => some (s', l')
      | none => none)
    | none => some (s1, l1))
def inclP (mode : Str) (out : Option Str) (l0 : Ls) : Ls := if mode = ("inclusive" : Str) then (match out with | some x => (match wIx x l0 with | some i => l0.set i none | none => l0) | none => l0) else l0
def askP (mode : Str) (v0 a0 : Int) (hs0 : List Int) (v1 a1 : Int) (hs1 : List Int) (s0 s1 : Int) (l0 l1 : Ls) (w : Str) : Option (Int × Int × Ls × Ls) := match goP v0 a0 hs0 l0 w with
  | none => none
  | some (true, _, s, l) => some (s, s1, l, l1)
  | some (false, gone, s, l) => if mode = ("victim" : Str) then (match downP v1 a1 hs1 s1 l1 w gone with
      | some (s', l') => some (s, s', l, l')
      | none => none)
    else (match goP v1 a1 hs1 l1 w with
      | some (_, out, s', l') => some (s, s', inclP mode out l, l')
      | none => none)
structure PostA (H H' : Hp) (b p q : Addr) (rs : List Addr) (ss' : List Int) (ls' : List Ls) : Prop where
  bx : Bx H' b p q rs ss' ls'
  fr : Fr (b :: p :: q :: rs) H H'
  up : ∀ c, H c ≠ none → H' c ≠ none
theorem Post.a {H H' : Hp} {b p q : Addr} {rs : List Addr} {ss' : List Int} {ls' : List Ls} {r : Addr} {ys : List V} (h : Post H H' b p q rs ss' ls' r ys) : PostA H H' b p q rs ss' ls' := ⟨h.bx, h.fr, h.up⟩
theorem PostA.trans {H H1 H2 : Hp} {b p q : Addr} {rs : List Addr} {ss1 ss2 : List Int} {ls1 ls2 : List Ls} (x : PostA H H1 b p q rs ss1 ls1) (y : PostA H1 H2 b p q rs ss2 ls2) : PostA H H2 b p q rs ss2 ls2 := ⟨y.bx, x.fr.trans y.fr, fun c h => y.up c (x.up c h)⟩
theorem Tb.fr {K : PySem.W.Frag} {H H' : Hp} {t : Addr} {s v a : Int} {hs : List Int} {as : List Addr} (T : Tb K H t s v a hs) (f : Fr as H H') (l : ∀ c ∈ as, ∃ ys, H c = some (.lst ys)) : Tb K H' t s v a hs := by
  obtain ⟨x, rows, row, hh, xs, q1, q2, e, q3, q4⟩ := T
  exact ⟨x, rows, row, hh, xs, sqT_fr q1 f l, sqT_fr q2 f l, e, sqT_fr q3 f l, sqT_fr q4 f l⟩
end BX
namespace BX
open PySem PySem.Spec PyProof.Rows L2 GX StX DL
variable [DL.FT]
section
variable {K : PySem.W.Frag} {H : Hp} {D : Ends} {rg b p q r0 r1 t1 t2 : Addr} {mode w : Str} {ss : List Int} {l0 l1 : Ls}
theorem Bx.same {b p q : Addr} {rs : List Addr} {ss : List Int} {ls : List Ls} {H' : Hp} (B : Bx H b p q rs ss ls) (f : Fr [] H H') : Bx H' b p q rs ss ls :=
  ⟨f _ _ (by simp) B.hb, f _ _ (by simp) B.hp, f _ _ (by simp) B.hq, fun k r l h1 h2 => f _ _ (by simp) (B.hr k r l h1 h2), B.l1, B.l2, B.nd⟩
end
end BX
namespace BX
open PySem PySem.Spec PyProof.Rows L2 GX StX DL
variable [DL.FT]
def nones (n : Int) : Ls := List.replicate n.toNat none
theorem Fr.free {H H' : Hp} (f : Fr [] H H') {c : Addr} (h : H' c = none) : H c = none := by
  cases e : H c with
  | none => rfl
  | some o => rw [f c o (by simp) e] at h; cases h
theorem Fr.ne {H : Hp} {c d : Addr} {o : HO} (h : H c = none) (g : H d = some o) : c ≠ d := fun z => by rw [z, g] at h; cases h
end BX
namespace BX
open PySem PySem.Spec PyProof.Rows L2 GX StX DL
variable [DL.FT]
def rowP (t : PyData) (st : Int) : Option (Int × Int × List Int) := match t with
  | .tuple [.int _, .tuple rows] => (match atI rows st with
    | some (.tuple [.int v, .int a, .tuple hs]) => (match intsOf hs with
      | some is => some (v, a, is)
      | none => none)
    | _ => none)
  | _ => none
def okB (v : Int) (hs : List Int) (l : Ls) : Bool := decide (0 ≤ v) && (decide (v < l.length) && (decide (l.length ≤ 1000) && decide (hs.length = l.length)))
structure St2 where
  s0 : Int
  s1 : Int
  l0 : Ls
  l1 : Ls
def stepP (mode : Str) (t1 t2 : PyData) (S : St2) (w : Str) : Option (Bool × St2) := match rowP t1 S.s0 with
  | none => none
  | some (v0, a0, hs0) => match rowP t2 S.s1 with
    | none => none
    | some (v1, a1, hs1) => if (okB v0 hs0 S.l0 && okB v1 hs1 S.l1) = true then (match askP mode v0 a0 hs0 v1 a1 hs1 S.s0 S.s1 S.l0 S.l1 w with
      | some (s0, s1, l0, l1) => some ((wIx w S.l0).isSome || (wIx w S.l1).isSome, ⟨s0, s1, l0, l1⟩)
      | none => none) else none
def strsOf : List PyData → Option (List Str)
  | [] => some []
  | .str x :: ds => match strsOf ds with
    | some xs => some (x :: xs)
    | none => none
  | _ => none
theorem strsOf_eq : ∀ {ds : List PyData} {ns : List Str}, strsOf ds = some ns → ds = ns.map PyData.str
  | [], _, h => by cases h; rfl
  | d :: ds, ns, h => by
    cases d with
    | str x =>
      unfold strsOf at h
      split at h
      · rename_i xs e
        cases h
        rw [strsOf_eq e]
        rfl
      · cases h
    | _ => cases h
theorem Bx.off {H : Hp} {b p q : Addr} {rs : List Addr} {ss : List Int} {ls : List Ls} (B : Bx H b p q rs ss ls) {D : Addr} {o : HO} (ne : ∀ c ∈ b :: p :: q :: rs, c ≠ D) : Bx (upd H D o) b p q rs ss ls := by
  refine ⟨?_, ?_, ?_, fun k s l h1 h2 => ?_, B.l1, B.l2, B.nd⟩
  · rw [upd_ne (ne b (by simp))]; exact B.hb
  · rw [upd_ne (ne p (by simp))]; exact B.hp
  · rw [upd_ne (ne q (by simp))]; exact B.hq
  · rw [upd_ne (ne s (by simp [List.mem_of_getElem? h1]))]; exact B.hr k s l h1 h2
/-- a box asked: what the parameters hold behind it -/
def F_ask : FF := fun sls => match sls with
  | [.dat (.tuple [.str _, t1]), .own true (.b p q rs [s0] [l0]), .dat (.str w)] => (match rowP t1 s0 with
    | some (v0, a0, hs0) => if okB v0 hs0 l0 = true then (match goP v0 a0 hs0 l0 w with
      | some (_, _, s, l) => some (.bool (wIx w l0).isSome, [.un, .own true (.b p q rs [s] [l]), .un])
      | none => none) else none
    | none => none)
  | [.dat (.tuple [.str mode, t1, t2]), .own true (.b p q rs [s0, s1] [l0, l1]), .dat (.str w)] => (match stepP mode t1 t2 ⟨s0, s1, l0, l1⟩ w with
    | some (h, S) => some (.bool h, [.un, .own true (.b p q rs [S.s0, S.s1] [S.l0, S.l1]), .un])
    | none => none)
  | _ => none
end BX
namespace DL
open PySem PySem.Spec PyProof.Rows L2 GX StX PySem.Calls
variable [DL.FT]
section
variable {X : Cx}
def fDic (i : Nat) : SF := fun ρ => some (.nx (ρ.set i (.own false (.k []))))
def tSubK (j : Nat) (f : EF) : GT := fun d ρ => match f ρ with
  | some (.tuple es, ρ1) => match ρ[j]?, ρ1[j]?, keyD (.tuple es) with
    | some (.own _ (.k _)), some (.own b (.k kvs)), some k => if (decide (NestedKey.depth k ≤ 8) && fits kvs.length) = true then some (ρ1.set j (.own b (.k (kPut kvs k d)))) else none
    | _, _, _ => none
  | _ => none
def fAugI (i : Nat) (f : EF) : SF := fun ρ => match ρ[i]? with
  | some (.dat (.int a)) => match f ρ with
    | some (.int b, ρ1) => some (.nx (ρ1.set i (.dat (.int (a + b)))))
    | _ => none
  | _ => none
def fPar2 (i j : Nat) (f g : IF) : SF := fun ρ => match f ρ with
  | none => none
  | some (a, ρ1) => match g ρ1 with
    | none => none
    | some (b, ρ2) => some (.nx (setX (setX ρ2 i a) j b))
theorem ds_par2 {i j : Nat} {x y : Str} {a b : Expr} {f g : IF} {px py pt pos : Pos} {kt k2 pt2} (hc : X.calm = true) (hN : X.N.Nodup) (hi : X.N[i]? = some x) (hj : X.N[j]? = some y) (hij : i ≠ j)
    (hx : X.env.scope.names.lookup x = some .local) (hy : X.env.scope.names.lookup y = some .local) (ha : DX X a f) (hb : DX X b g)
    (hw : swappedStores [.Tuple [.Name x px, .Name y py] kt pt] (.Tuple [a, b] k2 pt2) X.env = pure (some [x, y]))
    (hs : swapsWithSole [.Tuple [.Name x px, .Name y py] kt pt] (.Tuple [a, b] k2 pt2) pos.line X.env = pure false := by rfl)
    (st1 : starEach [a, b] X.env = (false, eval a X.env) :: starEach [b] X.env := by rfl) (st2 : starEach [b] X.env = (false, eval b X.env) :: starEach [] X.env := by rfl) :
    DS X (.Assign [.Tuple [.Name x px, .Name y py] kt pt] (.Tuple [a, b] k2 pt2) pos) (fPar2 i j f g) := by
  refine ps_imp (ps_par hc hN hi hj hij hx hy (pa_cons ha (pa_cons hb pa_nil st2) st1) hw hs) ?_
  rintro D σ H ⟨G, ρ, o, R, hf, k⟩
  unfold fPar2 at hf
  split at hf
  · cases hf
  · rename_i ia ρ1 e1
    split at hf
    · cases hf
    · rename_i ib ρ2 e2
      cases hf
      refine ⟨G, ρ, ρ1, ia, R, e1, fun v1 G1 H1 R1 s1 q1 => ⟨G1, ρ1, ρ2, ib, R1, e2, fun v2 G2 H2 R2 s2 q2 => ⟨v1, v2, rfl, ?_⟩⟩⟩
      have a12 := q1.apart q2
      have p1 := q1.keep s2
      have p2 := q2.new (H0 := H) fun p n => backN s1 n
      have st := s1.trans s2
      obtain ⟨Ra, sa, ka⟩ := ItR.store (i := i) R2 st p1
      have p2' := ka ib v2 a12 p2
      obtain ⟨Rb, sb, _⟩ := ItR.store (i := j) Ra sa p2'
      exact k _ G2 _ Rb sb
def gBox (i : Nat) : GF := fun ρ => match ρ[i]? with
  | some (.own _ (.b _ _ _ _ _)) => some (.v i, ρ)
  | _ => none
/-- a box as data -/
def oD : Option Str → PyData
  | none => .none
  | some x => .str x
def boxDs (ss : List Int) (ls : List (List (Option Str))) : List PyData := [.list (ss.map PyData.int), .list (ls.map fun l => .list (l.map oD))]
def boxOk (ss : List Int) (ls : List (List (Option Str))) : Bool := !PyData.hasDictAll (boxDs ss ls) && PyData.showableAll (boxDs ss ls) && decide (PyData.depthAll (boxDs ss ls) ≤ 60) && fits (listText (PyData.shownAll (boxDs ss ls))).length
def fReprB (i : Nat) : EF := fun ρ => match ρ[i]? with
  | some (.own _ (.b _ _ _ ss ls)) => if boxOk ss ls = true then some (.str (listText (PyData.shownAll (boxDs ss ls))), ρ) else none
  | _ => none
theorem de_neg {n : Int} {j p1 p2} : DE X (.UnaryOp .USub (.Constant (.int n) j p1) p2) (fC (.int (-n))) := by
  refine pe_imp (pe_un un_neg pe_int) ?_
  rintro σ H Q ⟨G, ρ, ρ', d', R, hf, k⟩
  cases hf
  exact ⟨n, rfl, k _ G H R (Sx.refl _ _ _ _) (.int _)⟩
end
end DL
namespace DL
open PySem PySem.Spec PyProof.Rows L2 GX StX PySem.Calls BX
end DL
namespace DL
open PySem PySem.Spec PyProof.Rows L2 GX StX
variable [DL.FT]
section
variable {X : Cx} {k : Nat} {C f p g : Addr} {fd : FuncData} {ps : List Str} {sp : Sp} {x m : Str} {pp pos apos : Pos} {o e : Expr} {es : List Expr} {ta : TE} {t : TA}
theorem pe_methG {pl : Sem Bool} (he : PE X o ta) (c : Cls X.K C) (hm : Meth X.K C m f) (F : FnG X.prog X.w X.K X.mg X.base k f fd ps sp) (hG : Gd X.A) (hR : Room k X.A) (hb : Binds X.K fd ps []) (ha : PA X (e :: es) t)
    (hst : starEach (e :: es) X.env = (false, eval e X.env) :: starEach es X.env := by rfl) (hpl : (backTo pos (starEach es X.env)).any (·.1) = false := by rfl)
    (ht : eval (.Call (.Attribute o m apos) (e :: es) [] pos) X.env = (do
      let ov ← eval o X.env
      standAt apos.atName
      let (f, first) ← holding [ov] (getMethod ov m pl)
      callWith pos f first (backTo pos (starEach (e :: es) X.env)) (backToKw pos (keywordEach [] X.env))) := by rfl) :
    PE X (.Call (.Attribute o m apos) (e :: es) [] pos) (tMeth C m sp [] E0 ta t) := by
  refine ⟨fun pins s σ H Q I h => ?_⟩
  refine PySem.W.methodCall_KW (pl := pl) (thn (he.run pins s σ H _ I h) fun u s1 ⟨x, H1, I1, rx, a, dx, fs, ex, ea, l, q⟩ => ?_) ht
  subst ex
  obtain rfl : u = Value.ref a := rx
  refine getmeth_ok I1 ea c hm l ?_
  refine PySem.W.callWith_K (first := [.ref a]) (h₀ := X.base) I.ok.mod.kin hm.kp (thn (ha.run pos pins s1 σ H1 _ I1 q) fun us s2 ⟨vs, H2, I2, r, q2⟩ => ⟨I2.kIn, ?_⟩) hst hpl
  exact runG (us := .ref a :: us) (vs := .ref a :: vs) F hG hR hb I2 (.cons rfl r) (by have q2 : sp (V.ref a :: (vs ++ [])) H2 Q E0 := q2; rw [List.append_nil] at q2; exact q2)
theorem gd_make {A : Around} {us : List Value} {kw : List (Str × Value)} (h : Gd A) : Gd (A.under (.builtin "type.__call__" ⟨.ref C :: us, kw⟩)) := by
  have h : A.guards = some [] := h
  show (A.under (.builtin "type.__call__" ⟨.ref C :: us, kw⟩)).guards = some []
  first
    | exact h
    | simpa [Around.under, Code.guards, guardIds] using h
    | simp [Around.under, h]
theorem pe_makeG (M : Mk X.K C f) (F : FnG X.prog X.w X.K X.mg X.base k f fd ps sp) (hG : Gd X.A) (hR : Room (k + 1) X.A) (hg : Gl X x) (hm : X.mg x = some (.ref C)) (hb : Binds X.K fd ps [])
    (ha : PA X (e :: es) t) (hdb : (x == ("__debug__" : Str)) = false := by decide) (he : starEach (e :: es) X.env = (false, eval e X.env) :: starEach es X.env := by rfl) (hpl : (backTo pos (starEach es X.env)).any (·.1) = false := by rfl) :
    PE X (.Call (.Name x pp) (e :: es) [] pos) (tMake C sp [] E0 t) := by
  refine ⟨fun pins s σ H Q I h => ?_⟩
  refine wpAny_Call_Name_kw (ld_glob I hg hm ?_ hdb)
  refine PySem.W.callWith_K (h₀ := X.base) I.ok.mod.kin M.kp (thn (ha.run pos pins s σ H _ I h) fun us s1 ⟨vs, H1, I1, r, q⟩ => ⟨I1.kIn, ?_⟩) he hpl
  have hq := q (s1.heap.objs.size + 1) s1.heap.objs.size (I1.hok.fresh (Nat.le_succ _)) (I1.hok.fresh (Nat.le_refl _)) (Nat.ne_of_lt (Nat.lt_succ_self _))
  rw [List.append_nil] at hq
  have I2 := Inv.made (C := C) I1
  have r2 : Vals (V.ref (s1.heap.objs.size + 1) :: vs) (Value.ref (s1.heap.objs.size + 1) :: us) := .cons rfl r
  have hl : ((Value.ref (s1.heap.objs.size + 1) :: us) ++ ([] : List Value)).length = ps.length := by
    rw [List.append_nil, ← r2.length]
    exact F.len _ _ _ _ hq
  have hbb := hb _ (Value.ref (s1.heap.objs.size + 1) :: us) I2.kIn hl
  rw [List.append_nil] at hbb
  refine wpAny_call (make_map (f := f) I1.kIn M.makes M.init (beq_iff_eq.mp M.fn) (codeAny_mono (F.go _ X.stack _ _ ⟨Value.ref (s1.heap.objs.size + 1) :: us, []⟩ (Value.ref (s1.heap.objs.size + 1) :: us) _ _ E0 (gd_make hG) (hR.make C us [])
    (I2.env0.make C us []) hbb r2 hq) fun res s' hq' => ?_))
  cases res with
  | error er => exact hq'.elim
  | ok fl =>
    cases fl with
    | ret u =>
      obtain ⟨v, H', I3, rv, ev, q3⟩ := I2.after hq'
      subst ev
      exact ⟨rv, ⟨V.ref (s1.heap.objs.size + 1), H', I3, rfl, q3⟩⟩
    | next => exact False.elim hq'
    | brk => exact False.elim hq'
    | cont => exact False.elim hq'
theorem gd_in1 {A : Around} (h : Gd A) : Gd A.in1 := h
theorem getpropG {a dx : Addr} {fs : List (Str × V)} {pins : List (Addr × Obj)} {σ : L2.St} {H : Hp} {s : Shared} {Q : VK} {b : Bool} {E' : Value → Shared → Prop} (I : Inv X pins σ H s) (ea : H a = some (.ins C dx fs)) (c : Cls X.K C) (hp : PropOf X.K C m p g)
    (F : FnG X.prog X.w X.K X.mg X.base k g fd ps sp) (hG : Gd X.A) (hr : Room (k + 1) X.A) (hb : Binds X.K fd ps []) (h : sp [.ref a] H Q E0) :
    wpAny (model X.prog X.w) X.A (getAttr (.ref a) m b) (EP X pins σ Q) E' s := by
  obtain ⟨mA, O, _, _, _, _⟩ := ins_get I.hok ea
  obtain ⟨od, J, _⟩ := O.look
  obtain ⟨rest, hrec⟩ := hp.rec_
  have I1 := I.tok (s.toks + 1)
  have hl : ([Value.ref a] ++ ([] : List Value)).length = ps.length := by
    rw [← F.len _ _ _ _ h]
    rfl
  have hc : (PySem.W.clsIn X.K C).isSome = true := by
    obtain ⟨cd, hc, _⟩ := PySem.W.any_some c.hd
    rw [hc]
    rfl
  refine PySem.W.get_bind I.kIn J (PySem.W.plainGet_of (c.get m)).1 (PySem.W.findObj_data hc hp.at_ hp.get hp.tak) (PySem.W.plainGet_of (c.get m)).2 (wpAny_call (PySem.W.prop_get (s := { s with toks := s.toks + 1 }) I.kIn hrec ?_))
  refine codeAny_mono (F.go X.A.in1 X.stack { s with toks := s.toks + 1 } H ⟨[.ref a], []⟩ [.ref a] [.ref a] Q E0 (gd_in1 hG) hr.in1 I1.env0.in1 (hb _ [.ref a] I1.kIn hl) (.cons rfl .nil) h) fun r s' hq => ?_
  cases r with
  | error er => exact hq.elim
  | ok fl =>
    cases fl with
    | ret u =>
      obtain ⟨v, H', I3, rv, q3⟩ := I1.after hq
      show wpAny _ _ (handedOut u) _ _ _
      rw [PySem.W.handedOut_of (handed_of rv)]
      exact wpAny_pure ⟨v, H', I3, rv, q3⟩
    | next => exact False.elim hq
    | brk => exact False.elim hq
    | cont => exact False.elim hq
theorem pe_propG (he : PE X o ta) (c : Cls X.K C) (hp : PropOf X.K C m p g) (F : FnG X.prog X.w X.K X.mg X.base k g fd ps sp) (hG : Gd X.A) (hr : Room (k + 1) X.A) (hb : Binds X.K fd ps [])
    (hab : attributeBase o m X.env (eval o X.env) = eval o X.env := by rfl) : PE X (.Attribute o m pos) (tProp C sp [] E0 ta) := by
  refine ⟨fun pins s σ H Q I h => ?_⟩
  refine attr_of hab (thn (he.run pins s σ H _ I h) fun u s1 ⟨x, H1, I1, rx, a, dx, fs, ex, ea, q⟩ => ?_)
  subst ex
  obtain rfl : u = Value.ref a := rx
  exact getpropG I1 ea c hp F hG hr hb q
end
theorem fld_get {K : PySem.W.Frag} {G : Hp} {f : Str} {d : PyData} : ∀ {xs : List (Str × V)} {fs : List (Str × PyData)}, FldA K G xs fs → fs.lookup f = some d → ∃ v, xs.lookup f = some v ∧ Da K G v d
  | _, _, .nil, h => by cases h
  | (g, v) :: xs, (g', d') :: fs, .cons ⟨e, a⟩ r, h => by
    have e : g = g' := e
    subst e
    rw [List.lookup_cons] at h ⊢
    cases c : f == g with
    | true =>
      rw [c] at h
      cases h
      exact ⟨v, rfl, a⟩
    | false =>
      rw [c] at h
      exact fld_get r h
theorem fld_non {K : PySem.W.Frag} {G : Hp} {f : Str} : ∀ {xs : List (Str × V)} {fs : List (Str × PyData)}, FldA K G xs fs → fs.lookup f = none → xs.lookup f = none
  | _, _, .nil, _ => rfl
  | (g, v) :: xs, (g', d') :: fs, .cons ⟨e, a⟩ r, h => by
    have e : g = g' := e
    subst e
    rw [List.lookup_cons] at h ⊢
    cases c : f == g with
    | true => rw [c] at h; cases h
    | false => rw [c] at h; exact fld_non r h
theorem fld_len {K : PySem.W.Frag} {G : Hp} : ∀ {xs : List (Str × V)} {fs : List (Str × PyData)}, FldA K G xs fs → xs.length = fs.length
  | _, _, .nil => rfl
  | _ :: _, _ :: _, .cons _ r => congrArg Nat.succ (fld_len r)
def putD' (f : Str) (d : PyData) : List (Str × PyData) → List (Str × PyData)
  | [] => [(f, d)]
  | (g, x) :: r => if g = f then (g, d) :: r else (g, x) :: putD' f d r
theorem fld_put {K : PySem.W.Frag} {G : Hp} {f : Str} {v : V} {d : PyData} (h : Da K G v d) : ∀ {xs : List (Str × V)} {fs : List (Str × PyData)}, FldA K G xs fs → FldA K G (putF f v xs) (putD' f d fs)
  | _, _, .nil => .cons ⟨rfl, h⟩ .nil
  | (g, x) :: xs, (g', y) :: fs, .cons ⟨e, a⟩ r => by
    have e : g = g' := e
    subst e
    unfold putF putD'
    by_cases c : g = f
    · rw [if_pos c, if_pos c]
      exact .cons ⟨rfl, h⟩ r
    · rw [if_neg c, if_neg c]
      exact .cons ⟨rfl, a⟩ (fld_put h r)
/-- an object at a slot -/
def objAt (c : Str) (i : Nat) (ρ : Rho) : Option (Bool × List (Str × PyData)) := match ρ[i]? with
  | some (.own b (.o c' fs)) => if c' = c then some (b, fs) else none
  | _ => none
theorem objAt_of {c : Str} {i : Nat} {ρ : Rho} {b : Bool} {fs : List (Str × PyData)} (h : objAt c i ρ = some (b, fs)) : ρ[i]? = some (.own b (.o c fs)) := by
  unfold objAt at h
  split at h
  · rename_i b' c' fs' e
    split at h
    · rename_i ec
      cases h
      rw [e, ec]
    · cases h
  · cases h
theorem obj_rl {ww : World} {K : PySem.W.Frag} {G H : Hp} {σ : L2.St} {ρ : Rho} (R : Rl ww K G σ ρ H) {c : Str} {C : Addr} (hC : FT.cl c = some C) {i : Nat} {b : Bool} {fs : List (Str × PyData)} (h : ρ[i]? = some (.own b (.o c fs))) : ∃ a dx xs, σ[i]? = some (some (.ref a)) ∧ G a = none ∧ H a = some (.ins C dx xs) ∧ FldA K G xs fs := by
  obtain ⟨a, ea, gp, C', dx, xs, e0, e1, e2⟩ := R.own h
  rw [hC] at e0
  cases e0
  exact ⟨a, dx, xs, ea, gp a (root a _), e1, e2⟩
section
variable {X : Cx} {c : Str} {C : Addr} {i : Nat} {x f m : Str} {p pos pos' : Pos}
/-- x.f -/
def fFld (c : Str) (i : Nat) (f : Str) : EF := fun ρ => match objAt c i ρ with
  | some (_, fs) => (match fs.lookup f with
    | some d => some (d, ρ)
    | none => none)
  | none => none
theorem de_fld (hC : FT.cl c = some C) (cl : Cls X.K C) (na : NoAttr X.K C f) (hN : X.N[i]? = some x) (hv : Vis X.env.scope x) (hd : (x == ("__debug__" : Str)) = false := by decide) (hcd : (x == ("__classdict__" : Str)) = false := by decide)
    (hb : attributeBase (.Name x p) f X.env (eval (.Name x p) X.env) = eval (.Name x p) X.env := by rfl) : DE X (.Attribute (.Name x p) f pos) (fFld c i f) := by
  refine pe_imp (pe_fld (pe_var hN hv hd hcd) hb) ?_
  rintro σ H Q ⟨G, ρ, ρ', d, R, hf, k⟩
  unfold fFld at hf
  split at hf
  · rename_i b fs e
    split at hf
    · rename_i d' e2
      cases hf
      obtain ⟨a, dx, xs, ea, _, eh, fa⟩ := obj_rl R hC (objAt_of e)
      obtain ⟨v, ev, hv⟩ := fld_get fa e2
      exact ⟨_, ea, a, C, dx, xs, v, rfl, eh, cl, na, ev, k v G H R (Sx.refl _ _ _ _) hv⟩
    · cases hf
  · cases hf
/-- x.f = e -/
def fSetF (c : Str) (i : Nat) (f : Str) (g : EF) : SF := fun ρ => match g ρ with
  | some (d, ρ1) => (match objAt c i ρ1 with
    | some (b, fs) => if fs.length < 900 then some (.nx (ρ1.set i (.own b (.o c (putD' f d fs))))) else none
    | none => none)
  | none => none
theorem ds_setF {e : Expr} {g : EF} (hC : FT.cl c = some C) (cl : Cls X.K C) (na : NoAttr X.K C f) (hN : X.N[i]? = some x) (hv : Vis X.env.scope x) (he : DE X e g) (hd : (x == ("__debug__" : Str)) = false := by decide) (hcd : (x == ("__classdict__" : Str)) = false := by decide)
    (hs : swapsWith e (some (.Attribute (.Name x p) f pos')) pos.line X.env = pure false := by rfl) : DS X (.Assign [.Attribute (.Name x p) f pos'] e pos) (fSetF c i f g) := by
  refine ps_imp (ps_fld (pe_var hN hv hd hcd) he hs) ?_
  rintro D σ H ⟨G, ρ, o, R, hf, k⟩
  unfold fSetF at hf
  split at hf
  · rename_i d ρ1 h1
    split at hf
    · rename_i b fs e1
      split at hf
      · rename_i hl
        cases hf
        refine ⟨G, ρ, ρ1, d, R, h1, fun v G1 H1 R1 s1 q1 => ?_⟩
        have eo := objAt_of e1
        obtain ⟨a, dx, xs, ea, _, eh, fa⟩ := obj_rl R1 hC eo
        have lx := fld_len fa
        obtain ⟨R2, s2⟩ := R1.mutateC (es := .o c (putD' f d fs)) (o' := .ins C dx (putF f v xs)) eo ea (fun _ => rfl) ⟨C, dx, _, hC, upd_same, fld_put q1 fa⟩
        exact ⟨_, ea, a, C, dx, xs, rfl, eh, cl, na, by omega, k _ _ _ R2 (s1.trans s2)⟩
      · cases hf
    · cases hf
  · cases hf
/-- x.f += e, numbers -/
def fAddF (c : Str) (i : Nat) (f : Str) (g : EF) : SF := fun ρ => match objAt c i ρ with
  | some (_, fs0) => (match fs0.lookup f, g ρ with
    | some (.int n), some (.int m, ρ1) => (match objAt c i ρ1 with
      | some (b, fs) => if fs.length < 900 then some (.nx (ρ1.set i (.own b (.o c (putD' f (.int (n + m)) fs))))) else none
      | none => none)
    | _, _ => none)
  | none => none
theorem ds_addF {e : Expr} {g : EF} {tpos : Pos} (hC : FT.cl c = some C) (cl : Cls X.K C) (na : NoAttr X.K C f) (hN : X.N[i]? = some x) (hv : Vis X.env.scope x) (he : DE X e g) (hd : (x == ("__debug__" : Str)) = false := by decide) (hcd : (x == ("__classdict__" : Str)) = false := by decide) :
    DS X (.AugAssign (.Attribute (.Name x p) f tpos) .Add e pos) (fAddF c i f g) := by
  refine ps_imp (ps_fldaug (pe_var hN hv hd hcd) he in_add) ?_
  rintro D σ H ⟨G, ρ, o, R, hf, k⟩
  unfold fAddF at hf
  split at hf
  · rename_i b0 fs0 e0
    split at hf
    · rename_i n m ρ1 e2 h1
      split at hf
      · rename_i b fs e1
        split at hf
        · rename_i hl
          cases hf
          obtain ⟨a0, dx0, xs0, ea0, _, eh0, fa0⟩ := obj_rl R hC (objAt_of e0)
          obtain ⟨v0, ev0, hv0⟩ := fld_get fa0 e2
          cases hv0
          refine ⟨_, ea0, a0, C, dx0, xs0, _, rfl, eh0, cl, na, ev0, G, ρ, ρ1, .int m, R, h1, fun v G1 H1 R1 s1 q1 => ?_⟩
          cases q1
          have eo := objAt_of e1
          obtain ⟨a, dx, xs, ea, _, eh, fa⟩ := obj_rl R1 hC eo
          rw [ea0] at ea
          cases ea
          have lx := fld_len fa
          obtain ⟨R2, s2⟩ := R1.mutateC (es := .o c (putD' f (.int (n + m)) fs)) (o' := .ins C dx (putF f (.int (n + m)) xs)) eo ea0 (fun _ => rfl) ⟨C, dx, _, hC, upd_same, fld_put (.int _) fa⟩
          exact ⟨n, m, rfl, rfl, dx, xs, eh, by omega, k _ _ _ R2 (s1.trans s2)⟩
        · cases hf
      · cases hf
    · cases hf
  · cases hf
end
/-- a method that is known -/
def CalM (P : Program) (w : World) (K : PySem.W.Frag) (mg : Str → Option Value) (base : Heap) (k : Nat) (C : Addr) (m : Str) (ps : List Str) (sp : Sp) : Prop :=
  ∃ f fd, FnG P w K mg base k f fd ps sp ∧ Meth K C m f ∧ Binds K fd ps []
theorem CalM.mono {P : Program} {w : World} {K : PySem.W.Frag} {mg : Str → Option Value} {base : Heap} {j k : Nat} {C : Addr} {m : Str} {ps : List Str} {sp : Sp} (c : CalM P w K mg base j C m ps sp) (h : j ≤ k) : CalM P w K mg base k C m ps sp :=
  let ⟨f, fd, F, a, d⟩ := c
  ⟨f, fd, F.mono h, a, d⟩
def CalP (P : Program) (w : World) (K : PySem.W.Frag) (mg : Str → Option Value) (base : Heap) (k : Nat) (C : Addr) (m : Str) (sp : Sp) : Prop :=
  ∃ p f fd, FnG P w K mg base k f fd ["self"] sp ∧ PropOf K C m p f ∧ Binds K fd ["self"] []
theorem CalP.mono {P : Program} {w : World} {K : PySem.W.Frag} {mg : Str → Option Value} {base : Heap} {j k : Nat} {C : Addr} {m : Str} {sp : Sp} (c : CalP P w K mg base j C m sp) (h : j ≤ k) : CalP P w K mg base k C m sp :=
  let ⟨p, f, fd, F, a, d⟩ := c
  ⟨p, f, fd, F.mono h, a, d⟩
def CalI (P : Program) (w : World) (K : PySem.W.Frag) (mg : Str → Option Value) (base : Heap) (k : Nat) (C : Addr) (ps : List Str) (sp : Sp) : Prop :=
  ∃ f fd, FnG P w K mg base k f fd ps sp ∧ Mk K C f ∧ Binds K fd ps []
theorem CalI.mono {P : Program} {w : World} {K : PySem.W.Frag} {mg : Str → Option Value} {base : Heap} {j k : Nat} {C : Addr} {ps : List Str} {sp : Sp} (c : CalI P w K mg base j C ps sp) (h : j ≤ k) : CalI P w K mg base k C ps sp :=
  let ⟨f, fd, F, a, d⟩ := c
  ⟨f, fd, F.mono h, a, d⟩
def gObj (c : Str) (i : Nat) : GF := fun ρ => match objAt c i ρ with
  | some _ => some (.v i, ρ)
  | none => none
/-- x.m(..) -/
def fMt (n : Nat) (F : FF) (c : Str) (i : Nat) (m : Str) (g : AF) : EF := fun ρ => match objAt c i ρ with
  | some (_, fs) => if fs.lookup m = none then fCa n F (aCons (gObj c i) g) ρ else none
  | none => none
theorem fMt_of {ww : World} {K : PySem.W.Frag} {n : Nat} {F : FF} {c : Str} {C : Addr} {i : Nat} {m : Str} {g : AF} (hC : FT.cl c = some C) : ∀ σ H Q, rE ww K (fMt n F c i m g) σ H Q → tMeth C m (spD ww K n F) [] E0 (tVar i) (rAs ww K g) σ H Q := by
  rintro σ H Q ⟨G, ρ, ρ', d, R, hf, k⟩
  unfold fMt at hf
  split at hf
  · rename_i b fs e
    split at hf
    · rename_i hm
      obtain ⟨a, dx, xs, ea, _, eh, fa⟩ := obj_rl R hC (objAt_of e)
      have t := tCall_of (F := F) (g := aCons (gObj c i) g) (n := n) σ H Q ⟨G, ρ, ρ', d, R, hf, k⟩
      refine ⟨_, ea, a, dx, xs, rfl, eh, fld_non fa hm, ?_⟩
      obtain ⟨G0, ρ0, ρ1, as, R0, h1, q⟩ := t
      unfold aCons at h1
      split at h1
      · cases h1
      · rename_i a0 ρ2 e1
        split at h1
        · cases h1
        · rename_i as' ρ3 e2
          cases h1
          unfold gObj at e1
          split at e1
          · rename_i z e3
            cases e1
            obtain ⟨b3, fs3⟩ := z
            obtain ⟨a3, _, _, ea3, _⟩ := obj_rl R0 hC (objAt_of e3)
            refine ⟨G0, ρ0, _, as', R0, e2, fun vs G1 H1 R1 s1 q1 => ?_⟩
            rw [ea] at ea3
            exact q (.ref a :: vs) G1 H1 R1 s1 (.cons ea q1)
          · cases e1
    · cases hf
  · cases hf
section
variable {X : Cx} {k n : Nat} {c : Str} {C : Addr} {i : Nat} {x m : Str} {ps : List Str} {p pos apos : Pos} {e : Expr} {es : List Expr} {g : AF} {F : FF}
theorem mcall {pl : Sem Bool} (c_ : CalM X.prog X.w X.K X.mg X.base k C m ps (spD X.w X.K n F)) (hG : Gd X.A) (hR : Room k X.A) (hC : FT.cl c = some C) (cl : Cls X.K C) (hN : X.N[i]? = some x) (hv : Vis X.env.scope x) (ha : DAs X (e :: es) g)
    (hd : (x == ("__debug__" : Str)) = false := by decide) (hcd : (x == ("__classdict__" : Str)) = false := by decide)
    (hst : starEach (e :: es) X.env = (false, eval e X.env) :: starEach es X.env := by rfl) (hpl : (backTo pos (starEach es X.env)).any (·.1) = false := by rfl)
    (ht : eval (.Call (.Attribute (.Name x p) m apos) (e :: es) [] pos) X.env = (do
      let ov ← eval (.Name x p) X.env
      standAt apos.atName
      let (f, first) ← holding [ov] (getMethod ov m pl)
      callWith pos f first (backTo pos (starEach (e :: es) X.env)) (backToKw pos (keywordEach [] X.env))) := by rfl) :
    DE X (.Call (.Attribute (.Name x p) m apos) (e :: es) [] pos) (fMt n F c i m g) := by
  obtain ⟨f, fd, Fk, hm, hb⟩ := c_
  exact pe_imp (pe_methG (pe_var hN hv hd hcd) cl hm Fk hG hR hb ha hst hpl ht) (fMt_of hC)
/-- x.m, a property -/
def fPr (F : FF) (c : Str) (i : Nat) : EF := fCa 1 F (aCons (gObj c i) aNil)
theorem de_prop (c_ : CalP X.prog X.w X.K X.mg X.base k C m (spD X.w X.K 1 F)) (hG : Gd X.A) (hR : Room (k + 1) X.A) (hC : FT.cl c = some C) (cl : Cls X.K C) (hN : X.N[i]? = some x) (hv : Vis X.env.scope x)
    (hd : (x == ("__debug__" : Str)) = false := by decide) (hcd : (x == ("__classdict__" : Str)) = false := by decide)
    (hab : attributeBase (.Name x p) m X.env (eval (.Name x p) X.env) = eval (.Name x p) X.env := by rfl) : DE X (.Attribute (.Name x p) m pos) (fPr F c i) := by
  obtain ⟨pa, f, fd, Fk, hp, hb⟩ := c_
  refine pe_imp (pe_propG (pe_var hN hv hd hcd) cl hp Fk hG hR hb hab) ?_
  rintro σ H Q ⟨G, ρ, ρ', d, R, hf, k⟩
  obtain ⟨G0, ρ0, ρ1, as, R0, h1, q⟩ := tCall_of (F := F) (g := aCons (gObj c i) aNil) (n := 1) σ H Q ⟨G, ρ, ρ', d, R, hf, k⟩
  unfold aCons at h1
  split at h1
  · cases h1
  · rename_i a0 ρ2 e1
    split at h1
    · cases h1
    · rename_i as' ρ3 e2
      cases h1
      cases e2
      unfold gObj at e1
      split at e1
      · rename_i z e3
        cases e1
        obtain ⟨b3, fs3⟩ := z
        obtain ⟨a, dx, xs, ea, _, eh, fa⟩ := obj_rl R0 hC (objAt_of e3)
        exact ⟨_, ea, a, dx, xs, rfl, eh, q [.ref a] G0 H R0 (Sx.refl _ _ _ _) (.cons ea .nil)⟩
      · cases e1
end
def agNe (j : Nat) : Ag → Bool
  | .v i => decide (i ≠ j)
  | .d _ => true
def fMk (j : Nat) (c : Str) (n : Nat) (F : FF) (g : AF) : SF := fun ρ => match g ρ with
  | some (as, ρ1) => if (as.all (agNe j) && decide (as.length + 1 = n)) = true ∧ j < ρ1.length then (match fCall F (fun ρ => some (.v j :: as, ρ)) (ρ1.set j (.own false (.o c []))) with
    | some (.none, ρ2) => some (.nx ρ2)
    | _ => none) else none
  | none => none
section
variable {X : Cx} {k n : Nat} {c : Str} {C : Addr} {j : Nat} {x y : Str} {ps : List Str} {p py pos spos : Pos} {e : Expr} {es : List Expr} {g : AF} {F : FF}
theorem ds_mk (c_ : CalI X.prog X.w X.K X.mg X.base k C ps (spD X.w X.K n F)) (hG : Gd X.A) (hR : Room (k + 1) X.A) (hC : FT.cl c = some C) (hg : Gl X x) (hm : X.mg x = some (.ref C)) (hN : X.N.Nodup) (hj : X.N[j]? = some y) (hy : Loc X.env.scope y) (ha : DAs X (e :: es) g)
    (hdb : (x == ("__debug__" : Str)) = false := by decide) (he : starEach (e :: es) X.env = (false, eval e X.env) :: starEach es X.env := by rfl) (hpl : (backTo pos (starEach es X.env)).any (·.1) = false := by rfl)
    (hs : swapsWith (.Call (.Name x p) (e :: es) [] pos) (some (.Name y py)) spos.line X.env = pure false := by rfl)
    (hf : X.fn y = true ∨ X.env.scope.names.lookup y = some .local := by first | exact .inl rfl | exact .inr rfl | assumption) :
    DS X (.Assign [.Name y py] (.Call (.Name x p) (e :: es) [] pos) spos) (fMk j c n F g) := by
  obtain ⟨f, fd, Fk, M, hb⟩ := c_
  refine ps_imp (ps_set hN hj hy (pe_makeG M Fk hG hR hg hm hb ha hdb he hpl) hs hf) ?_
  rintro D σ H ⟨G, ρ, o, R, hf, q⟩
  unfold fMk at hf
  split at hf
  · rename_i as ρ1 h1
    split at hf
    · rename_i hc
      obtain ⟨hc, hj1⟩ := hc
      rw [Bool.and_eq_true, decide_eq_true_eq] at hc
      obtain ⟨hne, hn⟩ := hc
      split at hf
      · rename_i ρ2 h2
        cases hf
        refine ⟨G, ρ, ρ1, as, R, h1, fun vs G1 H1 R1 s1 q1 a dx na ndx ne => ?_⟩
        have n2 : upd H1 dx (.own a) a = none := by rw [upd_ne (Ne.symm ne)]; exact na
        have kp : ∀ b o, H1 b = some o → upd (upd H1 dx (.own a)) a (.ins C dx []) b = some o := fun b o e => by
          rw [upd_ne (fun z => by rw [z, na] at e; cases e), upd_ne (fun z => by rw [z, ndx] at e; cases e)]
          exact e
        have x1 : Xt G1 H1 G1 (upd (upd H1 dx (.own a)) a (.ins C dx [])) := by
          refine ⟨fun b o e _ => kp b o e, fun b h z => ?_, fun t => t.step (Same.refl _) fun P ps h1 h2 => ⟨h2, kp _ _ h1⟩, R1.sub.trans kp, Same.refl _, fun b h => .inl h⟩
          cases q : H1 b with
          | none => exact h q
          | some o => rw [kp b o q] at z; cases z
        have ea : upd (upd H1 dx (.own a)) a (.ins C dx []) a = some (.ins C dx []) := upd_same
        have ga : G1 a = none := Same.free R1.sub na
        have no : ¬ Ow σ ρ1 a := fun o => (R1.at o).2.1 na
        generalize upd (upd H1 dx (.own a)) a (.ins C dx []) = Hn at kp x1 ea
        have R2 := R1.ext x1
        have hjs : j < σ.length := by rw [R1.len]; exact hj1
        have Rj := R2.holdC (i := j) (p := a) (ds := .o c []) (fun b hb => by rw [List.mem_singleton.mp hb]; exact ga) (fun b hb => by rw [List.mem_singleton.mp hb]; exact no) ⟨C, dx, [], hC, ea, .nil⟩
        have ejs : (σ.set j (some (.ref a)))[j]? = some (some (.ref a)) := List.getElem?_set_self hjs
        have q1' : Paired (AgR X.K G1 (σ.set j (some (.ref a)))) (.v j :: as) (.ref a :: vs) := by
          refine .cons ejs ?_
          have go : ∀ {as : List Ag} {vs : List V}, Paired (AgR X.K G1 σ) as vs → as.all (agNe j) = true → Paired (AgR X.K G1 (σ.set j (some (.ref a)))) as vs := fun {as vs} h => by
            induction h with
            | nil => exact fun _ => .nil
            | @cons a0 v0 _ _ h0 _ ih =>
              intro hh
              rw [List.all_cons, Bool.and_eq_true] at hh
              refine .cons ?_ (ih hh.2)
              cases a0 with
              | d z => exact h0
              | v i =>
                have : i ≠ j := of_decide_eq_true hh.1
                show (σ.set j (some (.ref a)))[i]? = _
                rw [List.getElem?_set_ne (Ne.symm this)]
                exact h0
          exact go q1 hne
        unfold fCall at h2
        dsimp only at h2
        split at h2
        · rename_i nd
          split at h2
          · cases h2
          · rename_i d' ss h3
            split at h2
            · rename_i hl
              obtain ⟨rfl, rfl⟩ := Prod.mk.inj (Option.some.inj h2)
              show spD X.w X.K n F (.ref a :: (vs ++ [])) Hn _ E0
              rw [List.append_nil]
              refine ⟨by rw [List.length_cons, ← paired_len q1]; exact hn, G1, _, ss, _, call_in Rj q1' nd, h3, fun v G2 H2 R3 s3 hd => ?_⟩
              cases hd
              refine ⟨rfl, ?_⟩
              obtain ⟨R4, s4⟩ := call_out Rj q1' hl.symm R3 s3
              have sj : Sx G1 σ ρ1 H1 G1 (σ.set j (some (.ref a))) (ρ1.set j (.own false (.o c []))) Hn := by
                refine ⟨Same.refl _, fun _ h => .inl h, fun b o e _ _ => kp b o e, fun b ⟨i, c', ds, r, h1, h2, h3⟩ => ?_, fun b h z => ?_, fun i ds h => ?_⟩
                · rcases set_get h1 with ⟨z1, z2, _⟩ | ⟨z, h1⟩
                  · cases z2
                    rw [z1, ejs] at h2
                    cases h2
                    rw [List.mem_singleton.mp h3]
                    exact .inr na
                  · rw [List.getElem?_set_ne (Ne.symm z)] at h2
                    exact .inl ⟨i, c', ds, r, h1, h2, h3⟩
                · cases q : H1 b with
                  | none => exact h q
                  | some o => rw [kp b o q] at z; cases z
                · rcases set_get h with ⟨_, z, _⟩ | ⟨z, h⟩
                  · cases z
                  · exact ⟨⟨_, h, fun _ => rfl⟩, List.getElem?_set_ne (Ne.symm z)⟩
              exact q _ _ _ R4 ((s1.trans sj).trans s4)
            · cases h2
        · cases h2
      · cases hf
    · cases hf
  · cases hf
end
end DL
namespace DL
open PySem PySem.Spec PyProof.Rows L2 GX StX PySem.Calls
variable [DL.FT]
def zipD (xs ys : List PyData) : List PyData := List.zipWith (fun x y => PyData.tuple [x, y]) xs ys
def iZipD (f g : EF) : LF := fun ρ => match f ρ with
  | some (.list xs, ρ1) => (match g ρ1 with
    | some (.list ys, ρ2) => some (zipD xs ys, ρ2)
    | _ => none)
  | some (.tuple xs, ρ1) => (match g ρ1 with
    | some (.tuple ys, ρ2) => some (zipD xs ys, ρ2)
    | _ => none)
  | _ => none
end DL
namespace DL
open PySem PySem.Spec PyProof.Rows L2 GX StX NdefX
variable [DL.FT]
theorem prd_at {α β : Type} {R : α → β → Prop} : ∀ {xs : List α} {ys : List β} {i : Nat} {x : α}, Paired R xs ys → xs[i]? = some x → ∃ y, ys[i]? = some y ∧ R x y
  | _, _, _, _, .nil, e => by simp at e
  | _, _, 0, _, .cons h _, e => by
    simp at e; subst e
    exact ⟨_, rfl, h⟩
  | _, _, i + 1, _, .cons _ t, e => by
    obtain ⟨y, h1, h2⟩ := prd_at (i := i) t (by simpa using e)
    exact ⟨y, by simpa using h1, h2⟩
theorem prd_len {α β : Type} {R : α → β → Prop} : ∀ {xs : List α} {ys : List β}, Paired R xs ys → xs.length = ys.length
  | _, _, .nil => rfl
  | _, _, .cons _ t => congrArg Nat.succ (prd_len t)
theorem celsH_mem {H : Hp} {cs : List Addr} {ws : List V} (h : CelsH H cs ws) {c : Addr} (hc : c ∈ cs) : ∃ v, CelH H c v := by
  obtain ⟨i, hi⟩ := List.mem_iff_getElem?.mp hc
  obtain ⟨v, _, z⟩ := prd_at h hi
  exact ⟨v, z⟩
/-- the tracked cells are put back -/
def put (X : Hp) (cs : List Addr) (Y : Hp) : Hp := fun b => if b ∈ cs then Y b else X b
theorem put_in {X Y : Hp} {cs : List Addr} {b : Addr} (h : b ∈ cs) : put X cs Y b = Y b := if_pos h
theorem put_out {X Y : Hp} {cs : List Addr} {b : Addr} (h : b ∉ cs) : put X cs Y b = X b := if_neg h
section
variable {P : Program} {w : World} {H H' : Hp} {h h' : Heap} {cs : List Addr} {fs : List Addr}
def Frz (H : Hp) (cs : List Addr) : Prop := ∀ c ∈ cs, ∃ o, H c = some (.frz o (.own c))
theorem CelsH.frz {ws : List V} (x : CelsH H cs ws) : Frz H cs := fun c hc => by
  obtain ⟨v, o, u, e, _⟩ := celsH_mem x hc
  exact ⟨o, e⟩
theorem HOk.drp (ok : HOk P w H h) (z : Frz H cs) : HOk P w (DL.drp H cs) h := fun a o e => by
  obtain ⟨_, e⟩ := drp_some e
  refine (ok a o e).stay (fun b u _ q => q) (fun b q => ?_) fun b xs q => ?_
  · rw [drp_out fun hb => ?_]; exact q
    obtain ⟨o, e⟩ := z b hb
    rw [e] at q; cases q
  · rw [drp_out fun hb => ?_]; exact q
    obtain ⟨o, e⟩ := z b hb
    rw [e] at q; cases q
theorem env0_drp {K : PySem.W.Frag} {mg : Str → Option Value} {base : Heap} {A : Around} {outer : List Env} {s : Shared} (e : Env0 P w K mg base A outer s H) (z : Frz H cs) : Env0 P w K mg base A outer s (drp H cs) := by
  have n : ∀ b, H b = none → drp H cs b = none := fun b q => by
    by_cases hb : b ∈ cs
    · exact drp_in hb
    · rw [drp_out hb]; exact q
  exact ⟨e.frames, e.mod, fun b o q => ⟨(e.bs b o q).1, n b (e.bs b o q).2⟩, e.bsz, e.funs, fun b q => n b (e.frf b q), HOk.drp e.hok z, e.bare⟩
/-- the cells are as they were -/
theorem un_put (u : Un fs [] (drp H cs) H' h h') (ok : HOk P w H h) (ok' : HOk P w H' h') (z : Frz H cs) (nf : ∀ b ∈ fs, H b = none) : Un fs [] H (put H' cs H) h h' ∧ HOk P w (put H' cs H) h' ∧ ∀ c ∈ cs, H' c = none := by
  have nx : ∀ b : Addr, b ∉ ([] : List Addr) := fun b q => by simp at q
  have obj : ∀ c ∈ cs, ∃ o, H c = some (.frz o (.own c)) ∧ h.get? c = some o := fun c hc => by
    obtain ⟨o, e⟩ := z c hc
    exact ⟨o, e, (ok c _ e).1⟩
  have no : ∀ c ∈ cs, H' c = none := fun c hc => by
    obtain ⟨o, _, e⟩ := obj c hc
    exact u.free c o e (drp_in hc) (nx c)
  have outs : ∀ b, H b = none → b ∉ cs := fun b q hb => by
    obtain ⟨o, e⟩ := z b hb
    rw [e] at q; cases q
  have tag : ∀ b o, H b = some o → (∀ ob, o ≠ .frz ob (.own b)) → b ∉ cs := fun b o q n hb => by
    obtain ⟨ob, e⟩ := z b hb
    rw [e] at q
    exact n ob (Option.some.inj q).symm
  refine ⟨⟨fun b o e n hf hx => u.keep b o e (by rw [drp_out (outs b n)]; exact n) hf hx, fun b o e n hf hx => u.slot b o e (by rw [drp_out (outs b n)]; exact n) hf hx,
    fun b o e n hx => by rw [put_out (outs b n)]; exact u.free b o e (by rw [drp_out (outs b n)]; exact n) hx, u.there, fun b xs q => ?_, fun b o v q => ?_, fun b ps q => ?_⟩, fun a o e => ?_, no⟩
  · have hb := tag b _ q (fun ob => by intro y; cases y)
    rw [put_out hb]; exact u.tups b xs (by rw [drp_out hb]; exact q)
  · by_cases hb : b ∈ cs
    · rw [put_in hb]; exact q
    · rw [put_out hb]; exact u.frzs b o v (by rw [drp_out hb]; exact q)
  · have hb := tag b _ q (fun ob => by intro y; cases y)
    rw [put_out hb]; exact u.tbls b ps (by rw [drp_out hb]; exact q)
  · have st : ∀ b u, H' b = some u → put H' cs H b = some u := fun b v q => by
      rw [put_out fun hb => by rw [no b hb] at q; cases q]
      exact q
    by_cases hb : a ∈ cs
    · rw [put_in hb] at e
      obtain ⟨ob, e1, e2⟩ := obj a hb
      rw [e1] at e; cases e
      have k : h'.get? a = some ob := u.keep a ob e2 (drp_in hb) (fun q => by rw [nf a q] at e1; cases e1) (nx a)
      exact ⟨k, ob, k⟩
    · rw [put_out hb] at e
      exact (ok' a o e).stay (fun _ _ _ q => q) (fun b q => st b _ q) fun b xs q => st b _ q
end
mutual
def noF : PyData → Bool
  | .list ds => noFs ds
  | .tuple ds => noFs ds
  | .dict [] => true
  | .dict _ => false
  | _ => true
def noFs : List PyData → Bool
  | [] => true
  | d :: ds => noF d && noFs ds
end
section
variable {K : PySem.W.Frag} {G : Hp} {cs : List Addr}
theorem out_of (z : Frz G cs) {b : Addr} {o : HO} (e : G b = some o) (n : ∀ ob, o ≠ .frz ob (.own b)) : b ∉ cs := fun hb => by
  obtain ⟨ob, q⟩ := z b hb
  rw [q] at e
  exact n ob (Option.some.inj e).symm
mutual
theorem Da.drp (z : Frz G cs) : ∀ {d : PyData} {v : V}, Da K G v d → noF d = true → Da K (DL.drp G cs) v d
  | .none, _, h, _ => by cases h; exact .non
  | .bool _, _, h, _ => by cases h; exact .bl _
  | .int _, _, h, _ => by cases h; exact .int _
  | .str _, _, h, _ => by cases h; exact .str _
  | .list ds, _, h, c => by
    cases h with
    | lst hs ha => exact .lst (by rw [drp_out (out_of z hs (fun ob y => by cases y))]; exact hs) (DaA.drp z ha (by simpa [noF] using c))
  | .tuple ds, _, h, c => by
    cases h with
    | tup hs ha =>
      refine .tup ?_ (DaA.drp z ha (by simpa [noF] using c))
      rcases hs with ⟨o, e, q⟩ | y
      · exact .inl ⟨o, by rw [drp_out (out_of z e (fun ob y => by cases y))]; exact e, q⟩
      · exact .inr y
  | .dict [], _, h, _ => by
    cases h with
    | dic hd => exact .dic (by rw [drp_out (out_of z hd (fun ob y => by cases y))]; exact hd)
  | .dict (_ :: _), _, h, c => by simp [noF] at c
theorem DaA.drp (z : Frz G cs) : ∀ {ds : List PyData} {vs : List V}, DaA K G vs ds → noFs ds = true → DaA K (DL.drp G cs) vs ds
  | [], _, h, _ => by cases h; exact .nil
  | d :: ds, _, h, c => by
    simp only [noFs, Bool.and_eq_true] at c
    cases h with
    | cons h1 h2 => exact .cons (Da.drp z h1 c.1) (DaA.drp z h2 c.2)
end
theorem TbG.drp {H : Hp} (t : TbG G H) (z : Frz G cs) : TbG (DL.drp G cs) (DL.drp H cs) := fun p hp => by
  obtain ⟨g, ps, h1, h2, h3⟩ := t p hp
  have no : p.1 ∉ cs := fun m => by
    obtain ⟨o, e⟩ := z _ m
    rw [g] at e; cases e
  refine ⟨by rw [drp_out no]; exact g, ps, by rw [drp_out no]; exact h1, h2, fun pos cv hc => ?_⟩
  obtain ⟨c, e1, e2⟩ := h3 pos cv hc
  have nc : c ∉ cs := fun m => by
    obtain ⟨o, e⟩ := z _ m
    rw [e2] at e; cases e
  exact ⟨c, e1, by rw [drp_out nc]; exact e2⟩
theorem TbG.put {G0 H0 G' H' : Hp} (t : TbG G' H') (ng : ∀ c ∈ cs, G' c = none) (nt : ∀ c ∈ cs, ∀ ps, H' c ≠ some (.tbl ps)) (n0 : ∀ p ∈ FT.tabs, p.1 ∉ cs) : TbG (DL.put G' cs G0) (DL.put H' cs H0) := fun p hp => by
  obtain ⟨g, ps, h1, h2, h3⟩ := t p hp
  have no := n0 p hp
  refine ⟨by rw [put_out no]; exact g, ps, by rw [put_out no]; exact h1, h2, fun pos cv hc => ?_⟩
  obtain ⟨c, e1, e2⟩ := h3 pos cv hc
  have nc : c ∉ cs := fun m => by
    rw [ng _ m] at e2; cases e2
  exact ⟨c, e1, by rw [put_out nc]; exact e2⟩
theorem xt_put {H G' H' : Hp} (z : Frz G cs) (sub : Same G H) (x : Xt (DL.drp G cs) (DL.drp H cs) G' H') (no : ∀ c ∈ cs, H' c = none) : Xt G H (put G' cs G) (put H' cs H) ∧ Same G' (put G' cs G) := by
  have ng : ∀ c ∈ cs, G' c = none := fun c hc => Same.free x.gh (no c hc)
  have zH : Frz H cs := fun c hc => let ⟨o, e⟩ := z c hc; ⟨o, sub _ _ e⟩
  have hh : ∀ (A A' : Hp), Same (DL.drp A cs) A' → Same A (put A' cs A) := fun A A' y b o e => by
    by_cases hb : b ∈ cs
    · rw [put_in hb]; exact e
    · rw [put_out hb]; exact y b o (by rw [drp_out hb]; exact e)
  refine ⟨⟨fun b o e t => ?_, fun b h => ?_, fun t => ?_, fun b o e => ?_, hh _ _ x.gg, fun b h => ?_⟩, fun b o e => ?_⟩
  · by_cases hb : b ∈ cs
    · rw [put_in hb]; exact e
    · rw [put_out hb]; exact x.hh b o (by rw [drp_out hb]; exact e) t
  · by_cases hb : b ∈ cs
    · rw [put_in hb]; exact h
    · rw [put_out hb]; exact x.al b (by rw [drp_out hb]; exact h)
  · exact (x.tt (t.drp z)).put ng (fun c hc ps e => by rw [no c hc] at e; cases e) fun p hp m => by
      obtain ⟨o, e⟩ := z _ m
      rw [(t p hp).1] at e; cases e
  · by_cases hb : b ∈ cs
    · rw [put_in hb] at e ⊢; exact sub _ _ e
    · rw [put_out hb] at e ⊢; exact x.gh _ _ e
  · by_cases hb : b ∈ cs
    · rw [put_in hb] at h; exact .inl h
    · rw [put_out hb] at h
      rcases x.nw b h with y | y
      · rw [drp_out hb] at y; exact .inl y
      · rw [drp_out hb] at y; exact .inr y
  · rw [put_out fun hb => by rw [ng b hb] at e; cases e]
    exact e
end
abbrev MF := List PyData → List PyData → Option PyData
structure CloG (P : Program) (w : World) (K : PySem.W.Frag) (mg : Str → Option Value) (base : Heap) (k : Nat) (t : Str) (n : Nat) (M : MF) : Prop where
  fn : ∀ (G H : Hp) (h : Heap) (a : Addr) (ds : List PyData), HOk P w H h → K.In h → Same G H → Da K G (.ref a) (fnD t ds) → PySem.W.FnAt a h
  run : ∀ (A : Around) (outer : List Env) (s : Shared) (G H : Hp) (a : Addr) (us : List Value) (vs : List V) (ds as : List PyData) (r : PyData) (Q : VK), Gd A → Room k A → Env0 P w K mg base A outer s H → Same G H → TbG G H → Da K G (.ref a) (fnD t ds) →
    Vals vs us → DaA K G vs as → noFs as = true → as.length = n → M ds as = some r → (∀ v G' H', Xt G H G' H' → Da K G' v r → Q v H') → codeAny (model P w) A (.call (.ref a) ⟨us, []⟩) (CR CX0 outer P w H s Q E0) s
theorem CloG.mono {P : Program} {w : World} {K : PySem.W.Frag} {mg : Str → Option Value} {base : Heap} {j k : Nat} {t : Str} {n : Nat} {M : MF} (c : CloG P w K mg base j t n M) (h : j ≤ k) : CloG P w K mg base k t n M :=
  ⟨c.fn, fun A outer s G H a us vs ds as r Q hG hR => c.run A outer s G H a us vs ds as r Q hG (hR.mono h)⟩
theorem dats_at {es : List PyData} {m i : Nat} {s : Sl} (h : (es.map Sl.dat ++ List.replicate m Sl.un)[i]? = some s) : s = .un ∨ ∃ d, s = .dat d ∧ es[i]? = some d := by
  by_cases hl : i < es.length
  · rw [List.getElem?_append_left (by simpa using hl), List.getElem?_map] at h
    cases e : es[i]? with
    | none => rw [e] at h; cases h
    | some d => rw [e] at h; cases h; exact .inr ⟨d, rfl, rfl⟩
  · rw [List.getElem?_append_right (by simpa using hl)] at h
    exact .inl (not_un h)
theorem rl_dats {ww : World} {K : PySem.W.Frag} {G H : Hp} {xs : List V} {es : List PyData} (m : Nat) (sub : Same G H) (t : TbG G H) (h : DaA K G xs es) : Rl ww K G (xs.map some ++ List.replicate m none) (es.map Sl.dat ++ List.replicate m Sl.un) H where
  len := by simp [h.len]
  sub := sub
  dat := fun {i d} q => by
    rcases dats_at q with e | ⟨d', e, e2⟩
    · cases e
    · cases e
      obtain ⟨v, e3, hv⟩ := h.get e2
      have hl : i < xs.length := (List.getElem?_eq_some_iff.mp e3).1
      exact ⟨v, by rw [List.getElem?_append_left (by simpa using hl), List.getElem?_map, e3]; rfl, hv⟩
  own := fun q => by rcases dats_at q with e | ⟨_, e, _⟩ <;> cases e
  dis := fun q => by rcases dats_at q with e | ⟨_, e, _⟩ <;> cases e
  scr := fun q => by rcases dats_at q with e | ⟨_, e, _⟩ <;> cases e
  tb := t
theorem xt_dats {G G' H H' : Hp} {ww : World} {K : PySem.W.Frag} {σ σ' : L2.St} {es : List PyData} {m : Nat} {ρ' : Rho} (R' : Rl ww K G' σ' ρ' H') (s : Sx G σ (es.map Sl.dat ++ List.replicate m Sl.un) H G' σ' ρ' H') : Xt G H G' H' := by
  have no : ∀ b, ¬ Ow σ (es.map Sl.dat ++ List.replicate m Sl.un) b := fun b ⟨i, c, ds, r, h, _⟩ => by rcases dats_at h with e | ⟨_, e, _⟩ <;> cases e
  exact ⟨fun b o e t => s.fr b o e t (no b), s.al, fun _ => R'.tb, R'.sub, s.gr, fun b h => by
    rcases s.new b h with z | z | z
    · exact .inl z
    · exact .inr z
    · exact (no b z).elim⟩
theorem zip_lk : ∀ {fr : List Str} {cs : List Addr} {i : Nat} {y : Str} {c : Addr}, fr.Nodup → fr[i]? = some y → cs[i]? = some c → (fr.zip cs).lookup y = some c
  | [], _, _, _, _, _, h, _ => by simp at h
  | _ :: _, [], _, _, _, _, _, h => by simp at h
  | x :: fr, a :: cs, 0, y, c, nd, h1, h2 => by
    simp at h1 h2
    subst h1 h2
    simp [List.lookup]
  | x :: fr, a :: cs, i + 1, y, c, nd, h1, h2 => by
    have h1' : fr[i]? = some y := by simpa using h1
    have ne : (y == x) = false := beq_eq_false_iff_ne.mpr fun z => (List.nodup_cons.mp nd).1 (z ▸ List.mem_of_getElem? h1')
    rw [List.zip_cons_cons, List.lookup_cons, ne]
    exact zip_lk (i := i) (List.nodup_cons.mp nd).2 h1' (by simpa using h2)
theorem zip_mem : ∀ {fr : List Str} {cs : List Addr} {y : Str} {c : Addr}, (fr.zip cs).lookup y = some c → ∃ i : Nat, fr[i]? = some y ∧ cs[i]? = some c := fun {fr cs y c} h => by
  obtain ⟨i, hi⟩ := List.mem_iff_getElem?.mp (PySem.mem_of_lookup h)
  rw [List.getElem?_zip_eq_some] at hi
  exact ⟨i, hi.1, hi.2⟩
theorem cells_at {P : Program} {w : World} {H : Hp} {h : Heap} {fr : List Str} {cs : List Addr} {ws : List V} (ok : HOk P w H h) (nf : fr.Nodup) (nc : cs.Nodup) (hl : cs.length = fr.length) (x : CelsH H cs ws) : CellsAt (fr.zip cs) fr (ws.map some) h (drp H cs) := by
  have cell : ∀ c v, CelH H c v → ∃ u, L2.RelV v u ∧ h.IsCell c (some u) := fun c v ⟨o, u, e, d, r⟩ => ⟨u, r, o, (ok c _ e).1, d⟩
  refine ⟨by rw [List.length_map, ← hl, prd_len x], fun y c e => ?_, fun y z c e1 e2 => ?_, fun i y e => ?_⟩
  · obtain ⟨i, _, hi⟩ := zip_mem e
    have hc := List.mem_of_getElem? hi
    obtain ⟨v, hv⟩ := celsH_mem x hc
    obtain ⟨u, _, z⟩ := cell c v hv
    exact ⟨drp_in hc, _, z⟩
  · obtain ⟨i, h1, h2⟩ := zip_mem e1
    obtain ⟨j, h3, h4⟩ := zip_mem e2
    have li := (List.getElem?_eq_some_iff.mp h2).1
    have e : i = j := (List.getElem?_inj li nc).mp (h2.trans h4.symm)
    subst e
    rw [h1] at h3
    exact Option.some.inj h3
  · have li : i < cs.length := by rw [hl]; exact (List.getElem?_eq_some_iff.mp e).1
    have ec : cs[i]? = some cs[i] := List.getElem?_eq_getElem li
    refine ⟨cs[i], zip_lk nf e ec, fun v ev => ?_⟩
    obtain ⟨v', e1, hv⟩ := prd_at x ec
    rw [List.getElem?_map, e1] at ev
    cases ev
    exact cell _ _ hv
end DL
namespace DL
open PySem PySem.Spec PyProof.Rows L2 GX StX NdefX
variable [DL.FT]
/-- the cells at cs as they stand -/
def gho (h : Heap) (cs : List Addr) (H : Hp) : Hp := fun b => if b ∈ cs then (match h.get? b with | some o => some (.frz o (.own b)) | none => H b) else H b
theorem gho_out {h : Heap} {cs : List Addr} {H : Hp} {b : Addr} (n : b ∉ cs) : gho h cs H b = H b := if_neg n
theorem gho_in {h : Heap} {cs : List Addr} {H : Hp} {b : Addr} {o : Obj} (i : b ∈ cs) (e : h.get? b = some o) : gho h cs H b = some (.frz o (.own b)) := by
  unfold gho
  rw [if_pos i, e]
section
variable {X : Cx} {pins : List (Addr × Obj)} {σ : L2.St} {H : Hp} {s s' : Shared} {cs : List Addr}
/-- cells of the running frame's own -/
def OwnCs (X : Cx) (cs : List Addr) : Prop := ∀ c ∈ cs, ∃ y, X.env.cells.lookup y = some c ∧ X.fn y = true
theorem own_free (I : Inv X pins σ H s) (z : OwnCs X cs) {c : Addr} (hc : c ∈ cs) : H c = none ∧ (∃ o, s.heap.get? c = some o) ∧ X.s_0.heap.objs.size ≤ c ∧ c ≠ X.env.locals := by
  obtain ⟨y, e, f⟩ := z c hc
  obtain ⟨v, o, ho, _⟩ := I.cell y c e
  exact ⟨I.freeC y c e, ⟨o, ho⟩, I.ok.cab y c f e, I.cne y c e⟩
theorem gho_same (I : Inv X pins σ H s) (z : OwnCs X cs) {G : Hp} (sub : Same G H) : Same G (gho s.heap cs G) := fun b o e => by
  rw [gho_out fun hb => ?_]; exact e
  have n := (own_free I z hb).1
  rw [sub _ _ e] at n; cases n
theorem gho_frz (I : Inv X pins σ H s) (z : OwnCs X cs) {G : Hp} : Frz (gho s.heap cs G) cs := fun c hc => by
  obtain ⟨_, ⟨o, e⟩, _⟩ := own_free I z hc
  exact ⟨o, gho_in hc e⟩
theorem env0_gho (I : Inv X pins σ H s) (z : OwnCs X cs) : Env0 X.prog X.w X.K X.mg X.base X.A X.stack s (gho s.heap cs H) := by
  have e := I.env0
  refine ⟨e.frames, e.mod, fun b o q => ⟨(e.bs b o q).1, ?_⟩, e.bsz, e.funs, fun b q => ?_, fun b o q => ?_, e.bare⟩
  · rw [gho_out fun hb => ?_]; exact (e.bs b o q).2
    exact absurd (Nat.lt_of_lt_of_le (Heap.lt_size q) (Nat.le_trans I.ok.bsz (own_free I z hb).2.2.1)) (Nat.lt_irrefl _)
  · rw [gho_out fun hb => ?_]; exact e.frf b q
    obtain ⟨_, _, le, ne⟩ := own_free I z hb
    rcases List.mem_cons.mp (I.stkSub b q) with y | y
    · exact ne y
    · obtain ⟨_, o, ho, _⟩ := I.ok.funs.mem y
      exact absurd (Nat.lt_of_lt_of_le (Heap.lt_size ho) le) (Nat.lt_irrefl _)
  · by_cases hb : b ∈ cs
    · obtain ⟨_, ⟨ob, eo⟩, _⟩ := own_free I z hb
      rw [gho_in hb eo] at q; cases q
      exact ⟨eo, ob, eo⟩
    · rw [gho_out hb] at q
      exact (e.hok b o q).stay (fun _ _ _ y => y) (fun c y => gho_same I z (fun _ _ q => q) c _ y) fun c xs y => gho_same I z (fun _ _ q => q) c _ y
theorem ce_gho {Q : VK} {u : Value} (I : Inv X pins σ H s) (z : OwnCs X cs) (h : CE X.stack X.prog X.w (gho s.heap cs H) s (fun v H' => Q v (drp H' cs)) u s') : CE X.stack X.prog X.w H s Q u s' := by
  obtain ⟨v, H', os, bare, un, hok, r, q⟩ := h
  have nx : ∀ b : Addr, b ∉ ([] : List Addr) := fun b q => by simp at q
  have at_ : ∀ c ∈ cs, ∃ o, s.heap.get? c = some o ∧ H' c = some (.frz o (.own c)) := fun c hc => by
    obtain ⟨_, ⟨o, e⟩, _⟩ := own_free I z hc
    exact ⟨o, e, un.frzs c o _ (gho_in hc e)⟩
  have zf : Frz H' cs := fun c hc => let ⟨o, _, e⟩ := at_ c hc; ⟨o, e⟩
  have known : ∀ b o, H b = some o → b ∉ cs := fun b o e hb => by
    rw [(own_free I z hb).1] at e; cases e
  refine ⟨v, drp H' cs, os, bare, ⟨fun b o e n hf hx => ?_, fun b o e n hf hx => ?_, fun b o e n hx => ?_, un.there, fun b xs y => ?_, fun b o v y => ?_, fun b ps y => ?_⟩, HOk.drp hok zf, r, q⟩
  · by_cases hb : b ∈ cs
    · obtain ⟨o', e', z'⟩ := at_ b hb
      rw [e] at e'; cases e'
      exact (hok b _ z').1
    · exact un.keep b o e (by rw [gho_out hb]; exact n) hf hx
  · by_cases hb : b ∈ cs
    · obtain ⟨o', e', z'⟩ := at_ b hb
      rw [e] at e'; cases e'
      exact ⟨o.slots, (hok b _ z').1⟩
    · exact un.slot b o e (by rw [gho_out hb]; exact n) hf hx
  · by_cases hb : b ∈ cs
    · exact drp_in hb
    · rw [drp_out hb]; exact un.free b o e (by rw [gho_out hb]; exact n) hx
  · have hb := known _ _ y
    rw [drp_out hb]; exact un.tups b xs (by rw [gho_out hb]; exact y)
  · have hb := known _ _ y
    rw [drp_out hb]; exact un.frzs b o v (by rw [gho_out hb]; exact y)
  · have hb := known _ _ y
    rw [drp_out hb]; exact un.tbls b ps (by rw [gho_out hb]; exact y)
end
section
variable {X : Cx} {pins : List (Addr × Obj)} {σ : L2.St} {G H G' H' : Hp} {s s' : Shared} {cs : List Addr}
theorem TbG.gho (t : TbG G H) (sub : Same G H) (I : Inv X pins σ H s) (z : OwnCs X cs) : TbG (gho s.heap cs G) (gho s.heap cs H) := fun p hp => by
  obtain ⟨g, ps, h1, h2, h3⟩ := t p hp
  have no : p.1 ∉ cs := fun m => by
    rw [(own_free I z m).1] at h1; cases h1
  refine ⟨by rw [gho_out no]; exact g, ps, by rw [gho_out no]; exact h1, h2, fun pos cv hc => ?_⟩
  obtain ⟨c, e1, e2⟩ := h3 pos cv hc
  by_cases hb : c ∈ cs
  · have n := (own_free I z hb).1
    rw [sub _ _ e2] at n; cases n
  · exact ⟨c, e1, by rw [gho_out hb]; exact e2⟩
theorem xt_gho (I : Inv X pins σ H s) (z : OwnCs X cs) (sub : Same G H) (x : Xt (gho s.heap cs G) (gho s.heap cs H) G' H') : Xt G H (drp G' cs) (drp H' cs) := by
  have hh : ∀ (A A' : Hp), Same A H → Same (gho s.heap cs A) A' → Same A (drp A' cs) := fun A A' y1 y b o e => by
    have hb : b ∉ cs := fun hb => by
      have n := (own_free I z hb).1
      rw [y1 _ _ e] at n; cases n
    rw [drp_out hb]
    exact y b o (by rw [gho_out hb]; exact e)
  have out : ∀ {b o}, H b = some o → b ∉ cs := fun {b o} e hb => by
    rw [(own_free I z hb).1] at e; cases e
  refine ⟨fun b o e t => ?_, fun b h => ?_, fun t => ?_, Same.drp x.gh cs, hh _ _ sub x.gg, fun b h => ?_⟩
  · rw [drp_out (out e)]; exact x.hh b o (by rw [gho_out (out e)]; exact e) t
  · cases e : H b with
    | none => exact (h e).elim
    | some o => rw [drp_out (out e)]; exact x.al b (by rw [gho_out (out e), e]; simp)
  · exact (x.tt (t.gho sub I z)).drp fun c hc => let ⟨o, e⟩ := gho_frz I z (G := G) c hc; ⟨o, x.gg _ _ e⟩
  by_cases hb : b ∈ cs
  · rw [drp_in hb] at h; exact (h rfl).elim
  · rw [drp_out hb] at h
    rcases x.nw b h with y | y
    · rw [gho_out hb] at y; exact .inl y
    · rw [gho_out hb] at y; exact .inr y
end
end DL
namespace DL
open PySem PySem.Spec PyProof.Rows L2 GX StX NdefX
variable [DL.FT]
/-- the object at f is the lambda F (its statements are not looked at) with the value e -/
def LamO (F : NF) (e : Expr) (f : Addr) : HO := .ext fun h => ∃ (od : Option Addr) (sl : Array (Option Value)) (pm ctv : Value), h.get? f = some (⟨.type "function", od, .func (PySem.W.kla_fn "<lambda>" F.qual F.params e F.scope F.cl pm (.ref F.c) ctv), sl⟩ : Obj)
theorem lamO_at {P : Program} {w : World} {H : Hp} {h : Heap} {f : Addr} {F : NF} {e : Expr} (hok : HOk P w H h) (z : H f = some (LamO F e f)) : ∃ (od : Option Addr) (sl : Array (Option Value)) (pm ctv : Value), h.get? f = some (⟨.type "function", od, .func (PySem.W.kla_fn "<lambda>" F.qual F.params e F.scope F.cl pm (.ref F.c) ctv), sl⟩ : Obj) := by
  obtain ⟨z, _, _⟩ := hok f _ z
  exact z
section
variable {X : Cx} {pins : List (Addr × Obj)} {σ : L2.St} {H : Hp} {s : Shared}
theorem inv_lam {F : NF} {e : Expr} {o : Obj} {t' : Nat} {pm ctv : Value} (I : Inv X pins σ H s) (ho : o = { cls := .type "function", data := .func (PySem.W.kla_fn "<lambda>" F.qual F.params e F.scope F.cl pm (.ref F.c) ctv) }) :
    Inv X pins σ (upd H s.heap.objs.size (LamO F e s.heap.objs.size)) { s with heap := s.heap.push o, toks := t' } := by
  subst ho
  refine I.laid (a := s.heap.objs.size) (fun b u e => Heap.get?_push_of_some _ e) (Nat.le_refl _) ?_
  have z : (s.heap.push ({ cls := .type "function", data := .func (PySem.W.kla_fn "<lambda>" F.qual F.params e F.scope F.cl pm (.ref F.c) ctv) } : Obj)).get? s.heap.objs.size = some ({ cls := .type "function", data := .func (PySem.W.kla_fn "<lambda>" F.qual F.params e F.scope F.cl pm (.ref F.c) ctv) } : Obj) := Heap.get?_push_size _ rfl
  exact ⟨⟨_, _, pm, ctv, z⟩, ⟨_, z⟩, fun h1 h2 ⟨od, sl, p, t, z⟩ st => ⟨od, sl, p, t, st _ z⟩⟩
end
def mFunE (m : Nat) (g : EF) : MF := fun ds as => match g ((as ++ ds).map Sl.dat ++ List.replicate m Sl.un) with
  | some (d, _) => some d
  | none => none
section
variable {P : Program} {w : World} {K : PySem.W.Frag} {mg : Str → Option Value} {base : Heap}
theorem clo_ofE {k : Nat} {t : Str} {mk : Addr → List Addr → NF} {e : Expr} {N ps fr : List Str} {sc : Scope} {g : EF} (hnf : ∀ c cs φ, FT.nf t c cs = some φ → cs.length = fr.length ∧ φ = LamO (mk c cs) e) (hgl : FT.gl t = none) (hcl : ∀ c cs, (mk c cs).cl = fr.zip cs) (hsc : ∀ c cs, (mk c cs).scope = sc)
    (hcd : ∀ c cs, (mk c cs).c = c ∧ (mk c cs).qual = FT.qn t) (hfr : fr.Nodup) (S : NScope N ps fr sc)
    (hb : ∀ (c : Addr) (cs : List Addr) (pm ctv : Value) (us : List Value), us.length = ps.length → bindArgs (PySem.W.kla_fn "<lambda>" (mk c cs).qual (mk c cs).params e (mk c cs).scope (mk c cs).cl pm (.ref (mk c cs).c) ctv) ⟨us, []⟩ = pure (ps.zip us))
    (body : ∀ (c : Addr) (cs : List Addr) (f : Addr) (A : Around) (outer : List PySem.Env) (s : Shared) (H : Hp), Gd (A.deeper (envF (mk c cs) f s.heap.objs.size)) → Room k (A.deeper (envF (mk c cs) f s.heap.objs.size)) → DE (ncx CX0 P w K mg base N (mk c cs) f A outer s H E0) e g) :
    CloG P w K mg base (k + 1) t ps.length (mFunE (N.length - ps.length - fr.length) g) := by
  refine ⟨fun G H h a ds ok _ sub hd => ?_, fun A outer s G H a us vs ds as r Q hG hR e0 sub tb hd rv ha hno hl hM hQ => ?_⟩
  · cases hd with
    | @fn _ _ c φ _ cs ws _ h1 h2 hco h3 h4 h5 =>
      obtain ⟨lc, rfl⟩ := hnf c cs φ h1
      obtain ⟨od, sl, pm, ctv, ho⟩ := lamO_at (F := mk c cs) ok (sub _ _ h2)
      exact ⟨_, od, _, sl, ho⟩
    | glo g => rw [hgl] at g; cases g
  cases hd with
  | glo g => rw [hgl] at g; cases g
  | @fn _ _ c φ _ cs ws _ h1 h2 hco h3 h4 h5 =>
    obtain ⟨lc, rfl⟩ := hnf c cs φ h1
    have zG : Frz G cs := h3.frz
    have h3H : CelsH H cs ws := h3.same sub
    have zH : Frz H cs := h3H.frz
    have e1 := env0_drp e0 zH
    have C := cells_at e0.hok hfr h4 lc h3H
    have vl : vs.length = ps.length := by rw [ha.len, hl]
    have wl : ws.length = fr.length := by rw [← lc, ← prd_len h3]
    have KX : K.In s.heap := e0.mod.kin.keeps fun b o e => (e0.bs b o e).1
    have lim : s.heap.NoLimit := e0.mod.nolimit.keeps fun b o e => (e0.bs b o e).1
    obtain ⟨od, sl, pm, ctv, ho⟩ := lamO_at (F := mk c cs) e0.hok (sub _ _ h2)
    have Ss : NScope N ps fr (mk c cs).scope := by rw [hsc c cs]; exact S
    have C' : CellsAt (mk c cs).cl fr (ws.map some) s.heap (drp H cs) := by rw [hcl c cs]; exact C
    refine PySem.W.kla_callFunE hR.depth ho rfl Ss.co Ss.gen rfl (by show s.heap.CodeRec (.ref (mk c cs).c) (mk c cs).qual; rw [(hcd c cs).1, (hcd c cs).2]; exact codeO_at e0.hok (sub _ _ hco)) ?_
    rw [hb c cs pm ctv us (by rw [← rv.length]; exact vl)]
    refine wpAny_pure (wpAny_newFunctionEnv Ss.nocell (fun ⟨n, _⟩ hy => Ss.par n (List.of_mem_zip hy).1) (fun h₁ hns hsb => ⟨lim.fresh _ hsb, ?_⟩) Ss.kind)
    show codeAny _ _ (.expr e (envF (mk c cs) a s.heap.objs.size)) _ _
    have kp : ∀ b o, s.heap.get? b = some o → h₁.get? b = some o := fun b o e => hsb.extBut b o (Nat.ne_of_lt (Heap.lt_size e)) (Heap.get?_push_of_some _ e)
    have I : Inv (ncx CX0 P w K mg base N (mk c cs) a A outer s (drp H cs) E0) [] (startF N vs (ws.map some)) (drp H cs) { s with heap := h₁, toks := s.toks + (ps.zip us).length } := inv_startN Ss hR.hd e1 vl rv C' hns kp
    have es : startF N vs (ws.map some) = (vs ++ ws).map some ++ List.replicate (N.length - ps.length - fr.length) none := by
      unfold startF
      rw [List.map_append, List.append_assoc, List.length_map, vl, wl]
    have R0 : Rl w K (drp G cs) (startF N vs (ws.map some)) ((as ++ ds).map Sl.dat ++ List.replicate (N.length - ps.length - fr.length) .un) (drp H cs) := by
      rw [es]
      exact rl_dats _ (Same.drp sub cs) (tb.drp zG) ((DaA.drp zG ha hno).app h5)
    unfold mFunE at hM
    have B := body c cs a A outer s (drp H cs) (by exact hG) (hR.deeper _)
    split at hM
    · rename_i d ρ' eg
      cases hM
      refine PySem.W.kla_codeExpr (wpAny_mono (B.run [] _ (startF N vs (ws.map some)) (drp H cs) (fun v H' => ∃ G' ρ', Rl w K G' (startF N vs (ws.map some)) ρ' H' ∧ Sx (drp G cs) (startF N vs (ws.map some)) ((as ++ ds).map Sl.dat ++ List.replicate (N.length - ps.length - fr.length) .un) (drp H cs) G' (startF N vs (ws.map some)) ρ' H' ∧ Da K G' v r) I
        ⟨drp G cs, _, _, _, R0, eg, fun v G' H' R' s' q => ⟨G', _, R', s', q⟩⟩) (fun u s' hs => ?_) fun e s' hs => hs)
      obtain ⟨v, H', J, ru, G', ρ2, R', sx, hv⟩ := hs
      obtain ⟨q1, q2, q3⟩ := un_put J.base e0.hok J.hok zH e0.frf
      obtain ⟨x1, x2⟩ := xt_put zG sub (xt_dats R' sx) q3
      exact ⟨v, put H' cs H, J.os, J.bare, q1, q2, ru, hQ v _ _ x1 (hv.same x2)⟩
    · cases hM
end
end DL
namespace DL
open PySem PySem.Spec PyProof.Rows L2 GX StX NdefX LamX
variable [DL.FT]
section
variable {G H : Hp}
/-- a table tells one more code object, that is known -/
theorem Xt.tbl {P c : Addr} {nm : Nat → Nat → Str} {ps : Array Value} {pos : Pos} (t : TbG G H) (sub : Same G H) (hm : (P, nm) ∈ FT.tabs) (hu : ∀ p ∈ FT.tabs, p.1 = P → p.2 = nm) (hP : H P = some (.tbl ps)) (hc : G c = some (CodeO c (nm pos.line pos.col))) :
    Xt G H G (upd H P (.tbl (ps ++ #[rawInt pos.line, rawInt pos.col, .ref c]))) := by
  have gP : G P = none := (t _ hm).1
  have eL : (ps ++ #[rawInt pos.line, rawInt pos.col, .ref c]).toList = ps.toList ++ [rawInt pos.line, rawInt pos.col, .ref c] := by simp
  refine ⟨fun b o e n => ?_, fun b h => ?_, fun _ => fun p hp => ?_, fun b o e => ?_, Same.refl _, fun b h => .inl h⟩
  · rw [upd_ne (fun z => n ps (Option.some.inj (e.symm.trans (by rw [z]; exact hP))))]
    exact e
  · by_cases z : b = P
    · rw [z, upd_same]; simp
    · rw [upd_ne z]; exact h
  · obtain ⟨g, ps', a1, a2, a3⟩ := t p hp
    by_cases hb : p.1 = P
    · rw [hb, hP] at a1
      cases a1
      refine ⟨g, _, by rw [hb, upd_same], by rw [eL]; exact PySem.TriplesOk_snoc _ _ _ _ a2, fun p' cv hcv => ?_⟩
      rw [eL] at hcv
      rcases among_app2 _ a2 hcv with z | ⟨z, z1, z2⟩
      · exact a3 p' cv z
      · refine ⟨c, z, ?_⟩
        rw [hu p hp hb, ← z1, ← z2]
        exact hc
    · exact ⟨g, ps', by rw [upd_ne hb]; exact a1, a2, a3⟩
  · rw [upd_ne (fun z => by rw [z, gP] at e; cases e)]
    exact sub b o e
end
/-- a lambda is made: the table at P tells its code object, or it is new -/
def tLamT (P : Addr) (q : Str) (pos : Pos) (F : Addr → NF) (e : Expr) : TE := fun σ H Q => ∃ ps : Array Value, H P = some (.tbl ps) ∧ TriplesOk ps.toList ∧ (∀ cv, codeAmong pos ps.toList = some cv → ∃ c, cv = .ref c ∧ H c = some (CodeO c q)) ∧
  (∀ f c, codeAmong pos ps.toList = some (.ref c) → H f = none → Q (.ref f) (upd H f (LamO (F c) e f))) ∧
  (∀ f c, H c = none → f ≠ P → f ≠ c → P ≠ c → H f = none → Q (.ref f) (upd (upd (upd H c (CodeO c q)) P (.tbl (ps ++ #[rawInt pos.line, rawInt pos.col, .ref c]))) f (LamO (F c) e f)))
section
variable {X : Cx}
theorem upd_comm {H : Hp} {a b : Addr} {o u : HO} (n : a ≠ b) : upd (upd H a o) b u = upd (upd H b u) a o := by
  funext c
  by_cases h1 : c = b
  · subst h1
    rw [upd_same, upd_ne (Ne.symm n), upd_same]
  · rw [upd_ne h1]
    by_cases h2 : c = a
    · subst h2
      rw [upd_same, upd_same]
    · rw [upd_ne h2, upd_ne h2, upd_ne h1]
theorem pe_lamT {c P : Addr} {params : Arguments} {e : Expr} {scope : Scope} {pos : Pos} (TB : LamX.TabB X.base X.mg c P) (hcode : X.env.code = .ref c)
    (hfree : ∀ y ∈ scope.names, y.2 = .free → X.env.scope.names.lookup y.1 = some .cell ∨ X.env.scope.names.lookup y.1 = some .free) (hdef : defaultsOf params X.env = ([], [])) :
    PE X (.Lambda params e scope pos) (tLamT P (X.env.qual ++ "<lambda>") pos (fun c' => ⟨"<lambda>", X.env.qual ++ "<lambda>", params, [], scope, cloFrom X.env.cells scope.names [], c'⟩) e) := by
  refine ⟨fun pins s σ H Q I h => ?_⟩
  obtain ⟨ps, hP, ht, ha, k1, k2⟩ := h
  refine PySem.W.kla_eval hdef ?_
  have bP : s.heap.BuiltinsAt X.mg P := TB.bm.keeps I.bk
  have hP' : s.heap.get? P = some { cls := .none, data := .fields ps } := I.hok P _ hP
  have hfr : ∀ y ∈ scope.names, y.2 = .free → ∃ c, X.env.cells.lookup y.1 = some c := fun y hy e => (hfree y hy e).elim (fun z => I.ok.has _ (.inl z)) fun z => I.ok.has _ (.inr z)
  cases hc : codeAmong pos ps.toList with
  | none =>
    refine PySem.W.kla_makeFunction (mg := X.mg) (c := c) (P := P) (ps := ps) (closure_ok hfr) I.ok.glob (I.mod.glob.keeps I.bk) hcode (TB.code.keeps I.bk) hP' ht hc TB.gP bP fun c' ctv h' tk hx hge hlt hrec htb => ?_
    obtain ⟨c2, oc, vs, t, e2, hoc, hd, hv⟩ := hrec
    cases e2
    have hsz : s.heap.objs.size ≤ h'.objs.size := Nat.le_trans hge (Nat.le_of_lt hlt)
    have nC : H c' = none := I.hok.fresh hge
    have nPc : P ≠ c' := ne_of_none hP nC
    have n1 : h'.objs.size ≠ c' := Nat.ne_of_gt hlt
    have n2 : h'.objs.size ≠ P := Nat.ne_of_gt (Nat.lt_of_lt_of_le (Heap.lt_size hP') hsz)
    have I1 := inv_table (t' := tk) (more := #[rawInt pos.line, rawInt pos.col, .ref c']) (h' := h') I hP hx htb hge ⟨oc, vs, t, hoc, hd, hv⟩
    rw [upd_comm nPc] at I1
    have I2 := inv_lam (F := ⟨"<lambda>", X.env.qual ++ "<lambda>", params, [], scope, cloFrom X.env.cells scope.names [], c'⟩) (e := e) (t' := tk) (pm := (X.mg "__name__").getD .none) (ctv := ctv) I1 rfl
    exact ⟨.ref h'.objs.size, _, I2, rfl, k2 h'.objs.size c' nC n2 n1 nPc (I.hok.fresh hsz)⟩
  | some cv =>
    obtain ⟨c', e', hco⟩ := ha cv hc
    subst e'
    refine PySem.W.kla_makeFunctionHit (mg := X.mg) (c := c) (P := P) (ps := ps) (closure_ok hfr) I.ok.glob (I.mod.glob.keeps I.bk) hcode (TB.code.keeps I.bk) hP' ht hc bP fun ctv h' tk hx hsz => ?_
    have I1 : Inv X pins σ H { s with heap := h', toks := tk } := I.kept hx
    have nF : H h'.objs.size = none := I1.hok.fresh (Nat.le_refl _)
    have I2 := inv_lam (F := ⟨"<lambda>", X.env.qual ++ "<lambda>", params, [], scope, cloFrom X.env.cells scope.names [], c'⟩) (e := e) (t' := tk) (pm := (X.mg "__name__").getD .none) (ctv := ctv) I1 rfl
    exact ⟨.ref h'.objs.size, _, I2, rfl, k1 h'.objs.size c' hc nF⟩
end
/-- what is known then -/
theorem mk_lam {ww : World} {K : PySem.W.Frag} {G H : Hp} {σ : L2.St} {ρ : Rho} {P : Addr} {nm : Nat → Nat → Str} {q : Str} {pos : Pos} {F : Addr → NF} {e : Expr} {Q : V → Hp → Prop} (R : Rl ww K G σ ρ H) (hm : (P, nm) ∈ FT.tabs) (hu : ∀ p ∈ FT.tabs, p.1 = P → p.2 = nm) (hq : nm pos.line pos.col = q)
    (k : ∀ (a c : Addr) (G' H' : Hp), Xt G H G' H' → G' a = some (LamO (F c) e a) → G' c = some (CodeO c q) → Q (.ref a) H') : tLamT P q pos F e σ H Q := by
  subst hq
  obtain ⟨gP, ps, hP, ht, ha⟩ := R.tb _ hm
  refine ⟨ps, hP, ht, fun cv hc => ?_, fun f c hc nf => ?_, fun f c nc n1 n2 n3 nf => ?_⟩
  · obtain ⟨c, e1, e2⟩ := ha _ _ hc
    exact ⟨c, e1, R.sub _ _ e2⟩
  · obtain ⟨c', e1, e2⟩ := ha _ _ hc
    cases e1
    have x := Xt.new (o := LamO (F c) e f) R.sub nf
    exact k f c _ _ x upd_same (x.gg _ _ e2)
  · have x1 := Xt.new (o := CodeO c (nm pos.line pos.col)) R.sub nc
    have R1 := R.ext x1
    have x2 := Xt.tbl (ps := ps) R1.tb R1.sub hm hu (by rw [upd_ne n3]; exact hP) (upd_same (H := G) (a := c) (o := CodeO c (nm pos.line pos.col)))
    have R2 := R1.ext x2
    have x3 := Xt.new (p := f) (o := LamO (F c) e f) R2.sub (by rw [upd_ne n1, upd_ne n2]; exact nf)
    exact k f c _ _ ((x1.trans x2).trans x3) upd_same (by rw [upd_ne (Ne.symm n2)]; exact upd_same)
end DL
namespace DL
open PySem PySem.Spec PyProof.Rows L2 GX StX NdefX
variable [DL.FT]
/-- what the slots hold -/
def capD (ρ : Rho) : List Nat → Option (List PyData)
  | [] => some []
  | j :: js => match ρ[j]? with
    | some (.dat d) => match capD ρ js with
      | some ds => some (d :: ds)
      | none => none
    | _ => none
theorem cap_of {ww : World} {K : PySem.W.Frag} {G H : Hp} {σ : L2.St} {ρ : Rho} (R : Rl ww K G σ ρ H) : ∀ {js : List Nat} {ds : List PyData}, capD ρ js = some ds → ∃ ws, DaA K G ws ds ∧ js.map (slotAt σ) = ws.map some
  | [], _, h => by cases h; exact ⟨[], .nil, rfl⟩
  | j :: js, _, h => by
    unfold capD at h
    split at h
    · rename_i d e
      split at h
      · rename_i ds e2
        cases h
        obtain ⟨v, ev, hv⟩ := R.dat e
        obtain ⟨ws, hw, ew⟩ := cap_of R e2
        refine ⟨v :: ws, .cons hv hw, ?_⟩
        rw [List.map_cons, List.map_cons, slotAt_of ev, ew]
      · cases h
    · cases h
theorem prd_of {α β : Type} {R : α → β → Prop} : ∀ {xs : List α} {ys : List β}, xs.length = ys.length → (∀ (i : Nat) (x : α) (y : β), xs[i]? = some x → ys[i]? = some y → R x y) → Paired R xs ys
  | [], [], _, _ => .nil
  | [], _ :: _, h, _ => by cases h
  | _ :: _, [], h, _ => by cases h
  | x :: xs, y :: ys, h, k => .cons (k 0 x y rfl rfl) (prd_of (by simpa using h) fun i a b e1 e2 => k (i + 1) a b (by simpa using e1) (by simpa using e2))
theorem zip_unz : ∀ l : List (Str × Addr), l = (l.map (·.1)).zip (l.map (·.2))
  | [] => rfl
  | y :: l => by rw [List.map_cons, List.map_cons, List.zip_cons_cons, ← zip_unz l]
section
variable {X : Cx} {pins : List (Addr × Obj)} {σ : L2.St} {G H : Hp} {s : Shared} {fr : List Str} {cs : List Addr} {js : List Nat}
/-- a function whose cells are this frame's, as a datum -/
theorem da_gho {t : Str} {φ : Addr → HO} {a cc : Addr} {ρ : Rho} {ds : List PyData} (I : Inv X pins σ H s) (R : Rl X.w X.K G σ ρ H) (C : Caps X (fr.zip cs) fr js) (z : OwnCs X cs) (nf : fr.Nodup) (hl : cs.length = fr.length) (h1 : FT.nf t cc cs = some φ) (h2 : G a = some (φ a)) (hco : G cc = some (LamX.CodeO cc (FT.qn t))) (hc : capD ρ js = some ds) : Da X.K (gho s.heap cs G) (.ref a) (fnD t ds) := by
  have ca := cells_of I C
  obtain ⟨ws, hw, ew⟩ := cap_of R hc
  rw [ew] at ca
  have wl : ws.length = cs.length := by rw [← List.length_map (f := some), ca.len, hl]
  have at_ : ∀ (i : Nat) (c : Addr), cs[i]? = some c → ∃ y, fr[i]? = some y ∧ (fr.zip cs).lookup y = some c := fun i c e => by
    have li : i < fr.length := by rw [← hl]; exact (List.getElem?_eq_some_iff.mp e).1
    exact ⟨fr[i], List.getElem?_eq_getElem li, zip_lk nf (List.getElem?_eq_getElem li) e⟩
  have sg := gho_same I z R.sub
  have nd : cs.Nodup := by
    refine List.pairwise_iff_getElem.mpr fun i j hi hj hij e => ?_
    obtain ⟨y1, e1, l1⟩ := at_ i _ (List.getElem?_eq_getElem hi)
    obtain ⟨y2, e2, l2⟩ := at_ j _ (List.getElem?_eq_getElem hj)
    rw [e] at l1
    have q := ca.inj _ _ _ l1 l2
    subst q
    have := (List.getElem?_inj (by rw [← hl]; exact hi) nf).mp (e1.trans e2.symm)
    omega
  refine .fn (cs := cs) (ws := ws) h1 (sg _ _ h2) (sg _ _ hco) (prd_of wl.symm fun i c v e1 e2 => ?_) nd (DaA.same hw fun b o e => ?_)
  · obtain ⟨y, ey, l⟩ := at_ i c e1
    obtain ⟨c', l', hv⟩ := ca.has i y ey
    rw [l] at l'; cases l'
    obtain ⟨u, ru, o, ho, hd⟩ := hv v (by rw [List.getElem?_map, e2]; rfl)
    exact ⟨o, u, gho_in (List.mem_of_getElem? e1) ho, hd, ru⟩
  · rw [drp_out fun hb => ?_]
    · exact sg _ _ e
    · have n := (own_free I z hb).1
      rw [R.sub _ _ e] at n; cases n
end
end DL
namespace DL
open PySem PySem.Spec PyProof.Rows L2 GX StX NdefX
variable [DL.FT]
/-- how a function of this frame stands: its cells' names, their slots, its tag -/
structure FnS (X : Cx) (cs0 : List (Str × Addr)) (φ : Addr → Addr → HO) (t : Str) (fr : List Str) (js : List Nat) : Prop where
  nf : ∀ c, FT.nf t c (cs0.map (·.2)) = some (φ c)
  cl : cs0.map (·.1) = fr
  caps : X.Ok → Caps X cs0 fr js
  nd : fr.Nodup
theorem FnS.own {X : Cx} {cl : List (Str × Addr)} {φ : Addr → Addr → HO} {t : Str} {fr : List Str} {js : List Nat} (S : FnS X cl φ t fr js) (ok : X.Ok) (hfn : ∀ y, X.fn y = true) : OwnCs X (cl.map (·.2)) := fun c hc => by
  obtain ⟨i, hi⟩ := List.mem_iff_getElem?.mp hc
  have hl : (cl.map (·.2)).length = fr.length := by rw [← S.cl, List.length_map, List.length_map]
  have li : i < fr.length := by rw [← hl]; exact (List.getElem?_eq_some_iff.mp hi).1
  have l := zip_lk S.nd (List.getElem?_eq_getElem li) hi
  have ez : fr.zip (cl.map (·.2)) = cl := by
    rw [← S.cl]
    exact (zip_unz _).symm
  rw [ez] at l
  exact ⟨_, (S.caps ok).sub _ _ l, hfn _⟩
end DL
namespace DL
open PySem PySem.Spec PyProof.Rows L2 GX StX
variable [DL.FT]
theorem foldl_ge : ∀ (ns : List Int) (n y : Int), (y = n ∨ y ∈ ns) → y ≤ ns.foldl max n
  | [], n, y, h => by
    rcases h with h | h
    · rw [h]; exact Int.le_refl _
    · simp at h
  | a :: ns, n, y, h => by
    rw [List.foldl_cons]
    rcases h with h | h
    · exact Int.le_trans (by rw [h]; exact Int.le_max_left _ _) (foldl_ge ns (max n a) _ (.inl rfl))
    · rcases List.mem_cons.mp h with h | h
      · exact Int.le_trans (by rw [h]; exact Int.le_max_right _ _) (foldl_ge ns (max n a) _ (.inl rfl))
      · exact foldl_ge ns _ y (.inr h)
theorem foldl_in : ∀ (ns : List Int) (n : Int), ns.foldl max n = n ∨ ns.foldl max n ∈ ns
  | [], n => .inl rfl
  | a :: ns, n => by
    rw [List.foldl_cons]
    rcases foldl_in ns (max n a) with h | h
    · rw [h]
      by_cases c : n ≤ a
      · rw [Int.max_eq_right c]; exact .inr List.mem_cons_self
      · rw [Int.max_eq_left (by omega)]; exact .inl rfl
    · exact .inr (List.mem_cons_of_mem _ h)
/-- of a list of integers, or of two -/
def maxD : OpN
  | [.int i, .int j] => some (.int (if j > i then j else i))
  | [.list ds] => match intsOf ds with
    | some (n :: ns) => some (.int (ns.foldl max n))
    | _ => none
  | _ => none
section
variable {X : Cx}
theorem cl_max (hc : X.calm = true) : CallR X (.builtin "max") (rCl X.w X.K maxD) := by
  refine CallR.imp (L2.CallR.or (call_max2 hc) (cr_max hc)) ?_
  rintro xs H Q ⟨G, ds, r, sub, hd, h, k⟩
  unfold maxD at h
  split at h
  · cases h
    obtain ⟨v, u, rfl, hv, hu⟩ := pair2 hd
    rw [bo_int hv, bo_int hu]
    exact .inl ⟨_, _, rfl, k _ G H (Xt.refl sub) (.int _)⟩
  · split at h
    · rename_i ds' n ns e
      cases h
      obtain ⟨v, rfl, hv⟩ := pair1 hd
      obtain ⟨p, ys, rfl, hp, ha⟩ := bo_list hv sub
      rw [intsOf_eq e] at ha
      rw [ha.ints] at hp
      refine .inr ⟨p, n :: ns, rfl, .inl (.inl hp), by simp, fun m hm hy => ?_⟩
      have e1 : m = ns.foldl max n := by
        refine Int.le_antisymm (foldl_ge ns n m (List.mem_cons.mp hm)) (hy _ ?_)
        rcases foldl_in ns n with z | z
        · rw [z]; exact List.mem_cons_self
        · exact List.mem_cons_of_mem _ z
      rw [e1]
      exact k _ G H (Xt.refl sub) (.int _)
    · cases h
  · cases h
end
end DL
namespace DL
open PySem PySem.Spec PyProof.Rows L2 GX StX
end DL
namespace DL
open PySem PySem.Spec PyProof.Rows L2 GX StX
variable [DL.FT]
section
variable {X : Cx}
theorem dn_kP {es : List Expr} {kk n : Nat} {own : List (Str × Nat)} {elt iter : Expr} {ifs : List Expr} {scope : Scope} {pos p : Pos} {it : LF} {c : TF} {f : EF} {ks : List Nat} (hk : own.map (·.2) = ks) (hc : X.calm = true) (hN : X.N.Nodup) (hi : DIP X (.Tuple es kk p) iter it) (ok : BlkOk X.N X.env.scope scope own)
    (hg : ∀ (s : Shared) (H : Hp) (C : Addr) (cl : List (Str × Addr)) (fp : List Addr), PG (X.blk s H scope (compEnvC scope cl C X.env) fp) (.Tuple es kk p) (gTup X.K n (gNames ks)))
    (ht : ∀ (s : Shared) (H : Hp) (C : Addr) (cl : List (Str × Addr)) (fp : List Addr), DC (X.blk s H scope (compEnvC scope cl C X.env) fp) ifs c)
    (he : ∀ (s : Shared) (H : Hp) (C : Addr) (cl : List (Str × Addr)) (fp : List Addr), DE (X.blk s H scope (compEnvC scope cl C X.env) fp) elt f) (hs : ∀ x, foldedSetIterable iter X.env x = pure x := by intro _; rfl) :
    DN X (.ListComp elt [⟨.Tuple es kk p, iter, ifs, 0⟩] scope pos) (fComp it ks (tTupT n (ks.map tName)) c f) := by
  subst hk
  exact dn_compP hc hN hi ok hg ht he hs
theorem dn_kT {es : List Expr} {kk n : Nat} {own : List (Str × Nat)} {elt iter : Expr} {ifs : List Expr} {scope : Scope} {pos p : Pos} {it : LF} {c : TF} {f : EF} {ks : List Nat} (hk : own.map (·.2) = ks) (hc : X.calm = true) (hN : X.N.Nodup) (hi : DI X (.Tuple es kk p) iter it) (ok : BlkOk X.N X.env.scope scope own)
    (hg : ∀ (s : Shared) (H : Hp) (C : Addr) (cl : List (Str × Addr)) (fp : List Addr), PG (X.blk s H scope (compEnvC scope cl C X.env) fp) (.Tuple es kk p) (gTup X.K n (gNames ks)))
    (hg2 : ∀ (s : Shared) (H : Hp) (C : Addr) (cl : List (Str × Addr)) (fp : List Addr), PG (X.blk s H scope (compEnvC scope cl C X.env) fp) (.Tuple es kk p) (gUnl X.K n (gNames ks)))
    (ht : ∀ (s : Shared) (H : Hp) (C : Addr) (cl : List (Str × Addr)) (fp : List Addr), DC (X.blk s H scope (compEnvC scope cl C X.env) fp) ifs c)
    (he : ∀ (s : Shared) (H : Hp) (C : Addr) (cl : List (Str × Addr)) (fp : List Addr), DE (X.blk s H scope (compEnvC scope cl C X.env) fp) elt f) (hs : ∀ x, foldedSetIterable iter X.env x = pure x := by intro _; rfl) :
    DN X (.ListComp elt [⟨.Tuple es kk p, iter, ifs, 0⟩] scope pos) (fComp it ks (tTupT n (ks.map tName)) c f) := by
  subst hk
  exact dn_compT hc hN hi ok hg hg2 ht he hs
end
end DL
namespace DL
open PySem PySem.Spec PyProof.Rows L2 GX StX
variable [DL.FT]
section
variable {X : Cx}
def fListC (f : AF) : LF := fun ρ => match f ρ with
  | none => none
  | some (as, ρ1) => match looks ρ1 as with
    | some [.list ds] => some (ds, ρ1)
    | some [.tuple ds] => some (ds, ρ1)
    | _ => none
theorem dn_listC {e : Expr} {f : AF} {p pos : Pos} (hg : Gl X "list") (hm : X.mg "list" = none) (hv : bootBuiltins "list" = some (.type "list")) (ha : DAs X [e] f)
    (he : starEach [e] X.env = (false, eval e X.env) :: starEach [] X.env := by rfl) (hpl : (backTo pos (starEach [] X.env)).any (·.1) = false := by rfl) : DN X (.Call (.Name "list" p) [e] [] pos) (fListC f) := by
  refine pe_imp (pe_callTy call_list_of hg hm hv ha (by decide) (by decide) he hpl) ?_
  rintro σ H Q ⟨G, ρ, ρ', d, R, hf, k⟩
  unfold fListC at hf
  split at hf
  · cases hf
  · rename_i as ρ1 h1
    have fin : ∀ {vs : List V} {G1 H1 : Hp} {ys : List V} {q : Addr}, Rl X.w X.K G1 σ ρ1 H1 → Sx G σ ρ H G1 σ ρ1 H1 → DaA X.K G1 ys d → H1 q = none → ρ' = ρ1 → Q (.ref q) (upd H1 q (.lst ys)) := by
      intro vs G1 H1 ys q R1 s1 hA n e
      subst e
      have x := Xt.more (p := q) (o := .lst ys) R1.sub n
      exact k q ys G1 _ (R1.ext x) (s1.trans (.ext x)) upd_same (Same.free R1.sub n) (noOw R1 n) (backN s1 n) hA
    refine ⟨G, ρ, ρ1, as, R, h1, fun vs G1 H1 R1 s1 q1 => ?_⟩
    split at hf
    · rename_i ds h2
      cases hf
      obtain ⟨v, rfl, hv⟩ := pair1 (looks_bo R1 q1 h2)
      obtain ⟨p, ys, rfl, hp, hA⟩ := bo_list hv R1.sub
      exact ⟨p, ys, rfl, .inl (.inl (.inl hp)), fun q n => fin (vs := []) R1 s1 hA n rfl⟩
    · rename_i ds h2
      cases hf
      obtain ⟨v, rfl, hv⟩ := pair1 (looks_bo R1 q1 h2)
      obtain ⟨p, ys, rfl, hp, hA⟩ := bo_tup hv
      exact ⟨p, ys, rfl, .inr (hp.same R1.sub).sq, fun q n => fin (vs := []) R1 s1 hA n rfl⟩
    · cases hf
def isNotBD : Op2
  | .bool a, .bool b => some (.bool (!decide (a = b)))
  | _, _ => none
theorem bl_beq (a b : Bool) : (Value.bool a == Value.bool b) = decide (a = b) := by cases a <;> cases b <;> rfl
theorem op_isNotBD : OpR X (compareOp .IsNot) (rOp X.w X.K isNotBD) := by
  intro pins s σ H x y v u Q I rx ry ⟨G, d, e, r, sub, hd, he, h, k⟩
  unfold isNotBD at h
  split at h
  · cases h
    cases bo_bool hd
    cases bo_bool he
    cases (show v = Value.bool _ from rx)
    cases (show u = Value.bool _ from ry)
    exact wpAny_isNot_plain rfl (fin_bl I (k _ G H (Xt.refl sub) (.bl _)) (congrArg not (bl_beq _ _).symm))
  · cases h
end
end DL
namespace DL
open PySem PySem.Spec PyProof.Rows L2 GX StX PySem.Calls
end DL
namespace DL
open PySem PySem.Spec PyProof.Rows L2 GX StX PySem.Calls
variable [DL.FT]
def fCaN (F : FF) (f : LF) : EF := fun ρ => match f ρ with
  | none => none
  | some (ds, ρ1) => match F [.own true (.l ds)] with
    | none => none
    | some (d, _) => some (d, ρ1)
theorem ow1 {p a : Addr} {c : Cn} (h : Ow [some (.ref p)] [.own true c] a) : a ∈ reg p c := by
  obtain ⟨i, b, ds, r, e1, e2, e3⟩ := h
  match i, e1 with
  | 0, e1 => cases e1; cases e2; exact e3
  | i + 1, e1 => simp at e1
theorem rl1 {ww : World} {K : PySem.W.Frag} {G H : Hp} {p : Addr} {xs : List V} {ds : List PyData} (sub : Same G H) (t : TbG G H) (hp : H p = some (.lst xs)) (gp : G p = none) (hd : DaA K G xs ds) : Rl ww K G ([V.ref p].map some) [.own true (.l ds)] H := by
  refine ⟨rfl, sub, fun {i d} e => ?_, fun {i b c} e => ?_, fun {i j b c ds es p q a} e1 e2 _ _ _ _ => ?_, fun {i ns} e => ?_, t⟩
  · match i, e with
    | 0, e => cases e
    | i + 1, e => simp at e
  · match i, e with
    | 0, e =>
      cases e
      exact ⟨p, rfl, fun a ha => by simp only [reg, List.mem_singleton] at ha; rw [ha]; exact gp, xs, hp, hd⟩
    | i + 1, e => simp at e
  · match i, j, e1, e2 with
    | 0, 0, _, _ => rfl
    | 0, j + 1, _, e2 => simp at e2
    | i + 1, _, e1, _ => simp at e1
  · match i, e with
    | 0, e => cases e
    | i + 1, e => simp at e
section
variable {X : Cx} {k : Nat} {x : Str} {ps : List Str} {p pos : Pos} {e : Expr} {f : LF} {F : FF}
theorem de_callN (c : Cal X.prog X.w X.K X.mg X.base k x ps (spD X.w X.K 1 F)) (hG : Gd X.A) (hR : Room k X.A) (h : DN X e f) (hg : Gl X x := by rfl) (hdb : (x == ("__debug__" : Str)) = false := by decide)
    (he : starEach [e] X.env = (false, eval e X.env) :: starEach [] X.env := by rfl) (hpl : (backTo pos (starEach [] X.env)).any (·.1) = false := by rfl) : DE X (.Call (.Name x p) [e] [] pos) (fCaN F f) := by
  obtain ⟨fa, fd, Fk, hm, hk, hb⟩ := c
  refine pe_imp (pe_callG Fk hG hR hg hm hk hb (pa_cons h pa_nil he) hdb he hpl) ?_
  rintro σ H Q ⟨G, ρ, ρ', d, R, hf, kk⟩
  unfold fCaN at hf
  split at hf
  · cases hf
  · rename_i ds ρ1 h1
    split at hf
    · cases hf
    · rename_i d' sls' eF
      cases hf
      refine ⟨G, ρ, ρ', ds, R, h1, fun a xs G1 H1 R1 s1 hp gp no n q1 => ?_⟩
      refine ⟨rfl, G1, [.own true (.l ds)], sls', d, rl1 R1.sub R1.tb hp gp q1, eF, fun v G' H' R' s' hd => ?_⟩
      have ow : ∀ b, Ow [some (V.ref a)] [.own true (.l ds)] b → b = a := fun b hb => by
        have z := ow1 hb
        simpa [reg] using z
      have back : ∀ c, H1 c = none → H c = none ∨ Ow σ ρ c := fun c h => by
        cases e : H c with
        | none => exact .inl rfl
        | some o =>
          by_cases q : Ow σ ρ c
          · exact .inr q
          · exact (s1.al c (by rw [e]; simp) h).elim
      refine kk v G' H' ⟨R1.len, R'.sub, fun {i d} e => ?_, fun {i b c} e => ?_, R1.dis, fun {i ns} e => ?_, R'.tb⟩ ⟨s1.gr.trans s'.gr, fun b hb => ?_, fun b o e1 t e2 => ?_, s1.ow, fun b hb => s'.al b (s1.al b hb), s1.par⟩ hd
      · obtain ⟨v, e1, d1⟩ := R1.dat e
        exact ⟨v, e1, d1.same s'.gr⟩
      · obtain ⟨q, e1, g1, c1⟩ := R1.own e
        have na : ∀ b ∈ reg q c, b ≠ a := fun b hb z => no ⟨i, _, c, q, e, e1, z ▸ hb⟩
        refine ⟨q, e1, fun b hb => ?_, c1.step s'.gr fun b hb => ?_⟩
        · cases z : G' b with
          | none => rfl
          | some u =>
            rcases s'.new b (by rw [z]; simp) with y | y | y
            · exact (y (g1 b hb)).elim
            · exact (c1.ne hb y).elim
            · exact (na b hb (ow b y)).elim
        · cases z : H1 b with
          | none => exact (c1.ne hb z).elim
          | some o => exact s'.fr b o z (c1.noT hb z) fun y => na b hb (ow b y)
      · obtain ⟨q, e1, s2⟩ := R1.scr e
        refine ⟨q, e1, ?_⟩
        rcases s2 with ⟨o, s2⟩ | s2
        · exact .inl ⟨o, s'.fr _ _ s2 (fun _ z => nomatch z) fun y => by rw [ow q y, hp] at s2; cases s2⟩
        · exact .inr s2
      · rcases s'.new b hb with y | y | y
        · exact s1.new b y
        · exact .inr (back b y)
        · rw [ow b y]; exact .inr (.inl n)
      · refine s'.fr b o (s1.fr b o e1 t e2) t fun y => ?_
        rw [ow b y, n] at e1
        cases e1
end
end DL
namespace DL
open PySem PySem.Spec PyProof.Rows L2 GX StX PySem.Calls
variable [DL.FT]
def keyP : PyData → Option Key
  | .int i => some (.inl i)
  | .str x => some (.inr x)
  | _ => none
theorem keyP_da {K : PySem.W.Frag} {G : Hp} {v : V} {d : PyData} {k : Key} (h : Da K G v d) (e : keyP d = some k) : v = kV k := by
  cases d with
  | int i => cases e; cases h; rfl
  | str x => cases e; cases h; rfl
  | none => cases e
  | bool _ => cases e
  | list _ => cases e
  | tuple _ => cases e
  | dict _ => cases e
def valD (kvs : List (Key × PyData)) (k : Key) : Option PyData := (kvs.find? fun kv => decide (kv.1 = k)).map (·.2)
def putD (kvs : List (Key × PyData)) (k : Key) (d : PyData) : List (Key × PyData) := if (kvs.any fun kv => decide (kv.1 = k)) = true then kvs.map fun kv => if kv.1 = k then (kv.1, d) else kv else kvs ++ [(k, d)]
section
variable {K : PySem.W.Frag} {G : Hp}
theorem DdK.val {xs : List (Key × V)} {kvs : List (Key × PyData)} (h : DdK K G xs kvs) (k : Key) : (∃ v d, valV xs k = some v ∧ valD kvs k = some d ∧ Da K G v d) ∨ (valV xs k = none ∧ valD kvs k = none) := by
  induction h with
  | nil => exact .inr ⟨rfl, rfl⟩
  | @cons x y xs ys h1 _ ih =>
    obtain ⟨e, hd⟩ := h1
    by_cases c : x.1 = k
    · have c' : y.1 = k := e ▸ c
      exact .inl ⟨x.2, y.2, by simp [valV, c], by simp [valD, c'], hd⟩
    · have c' : ¬ y.1 = k := e ▸ c
      rcases ih with ⟨v, d, h1, h2, h3⟩ | ⟨h1, h2⟩
      · exact .inl ⟨v, d, by rw [valV_neg c]; exact h1, by simp only [valD, List.find?_cons, c', decide_false] at h2 ⊢; exact h2, h3⟩
      · exact .inr ⟨by rw [valV_neg c]; exact h1, by simp only [valD, List.find?_cons, c', decide_false] at h2 ⊢; exact h2⟩
theorem DdK.any {xs : List (Key × V)} {kvs : List (Key × PyData)} (h : DdK K G xs kvs) (k : Key) : (xs.any fun kv => decide (kv.1 = k)) = kvs.any fun kv => decide (kv.1 = k) := by
  induction h with
  | nil => rfl
  | @cons x y xs ys h1 _ ih =>
    rw [List.any_cons, List.any_cons, ih, h1.1]
theorem DdK.len {xs : List (Key × V)} {kvs : List (Key × PyData)} (h : DdK K G xs kvs) : xs.length = kvs.length := prd_len h
theorem DdK.repl {xs : List (Key × V)} {kvs : List (Key × PyData)} (h : DdK K G xs kvs) (k : Key) {v : V} {d : PyData} (hd : Da K G v d) : DdK K G (xs.map fun kv => if kv.1 = k then (kv.1, v) else kv) (kvs.map fun kv => if kv.1 = k then (kv.1, d) else kv) := by
  induction h with
  | nil => exact .nil
  | @cons x y xs ys h1 _ ih =>
    rw [List.map_cons, List.map_cons]
    refine .cons ?_ ih
    by_cases c : x.1 = k
    · rw [if_pos c, if_pos (h1.1 ▸ c)]
      exact ⟨h1.1, hd⟩
    · rw [if_neg c, if_neg (h1.1 ▸ c)]
      exact h1
theorem DdK.app {xs ys : List (Key × V)} {kvs kws : List (Key × PyData)} (h : DdK K G xs kvs) (g : DdK K G ys kws) : DdK K G (xs ++ ys) (kvs ++ kws) := by
  induction h with
  | nil => exact g
  | cons h1 _ ih => exact .cons h1 ih
theorem DdK.put {xs : List (Key × V)} {kvs : List (Key × PyData)} (h : DdK K G xs kvs) (k : Key) {v : V} {d : PyData} (hd : Da K G v d) : DdK K G (putK xs k v) (putD kvs k d) := by
  unfold putK putD
  rw [h.any k]
  split
  · exact h.repl k hd
  · exact h.app (.cons ⟨rfl, hd⟩ .nil)
end
section
variable {X : Cx}
def fDicP (i : Nat) : SF := fun ρ => some (.nx (ρ.set i (.own false (.d []))))
theorem ds_dicP (i : Nat) {x : Str} {dpos pos pos' : Pos} (nd : X.N.Nodup) (hN : X.N[i]? = some x := by rfl) (hx : Loc X.env.scope x := by first | exact Or.inl rfl | exact Or.inr rfl)
    (hs : swapsWith (.Dict [] [] dpos) (some (.Name x pos')) pos.line X.env = pure false := by rfl) (hf : X.fn x = true ∨ X.env.scope.names.lookup x = some .local := by first | exact .inl rfl | exact .inr rfl) :
    DS X (.Assign [.Name x pos'] (.Dict [] [] dpos) pos) (fDicP i) := by
  refine ps_imp (ps_set nd hN hx pe_dnewK hs hf) ?_
  rintro D σ H ⟨G, ρ, o, R, hf, k⟩
  cases hf
  intro p n
  have x1 := Xt.more (p := p) (o := .dK []) R.sub n
  have R1 := R.ext x1
  have one : ∀ {A : Addr → Prop}, A p → ∀ a ∈ reg p (.d []), A a := fun {A} h a ha => by
    simp only [reg, List.mem_singleton] at ha
    rw [ha]; exact h
  exact k _ G _ (R1.holdC (ds := .d []) (one (Same.free R.sub n)) (one (noOw R n)) ⟨[], upd_same, .nil⟩) (Sx.holdC (ds := .d []) (Sx.ext x1) (one n))
theorem set_P (hu : X.A.units + 1 < cLine) : PSet X (fun o i v H Q => ∃ a H', o = .ref a ∧ DPut H a i v H' ∧ Q H') := by
  intro pins s σ H o i v ov iv u Q I ro ri rv h
  obtain ⟨a, H', rfl, g, q⟩ := h
  cases ro
  exact d_setItem hu I g ri rv fun s' I' => ⟨H', I', q⟩
def tSubP (j : Nat) (f : EF) : GT := fun d ρ => match f ρ with
  | some (e, ρ1) => match ρ[j]?, ρ1[j]?, keyP e with
    | some (.own _ (.d _)), some (.own b (.d kvs)), some k => if fits (kvs.length + 1) = true then some (ρ1.set j (.own b (.d (putD kvs k d)))) else none
    | _, _, _ => none
  | none => none
theorem dtg_subP (hu : X.A.units + 64 < cLine) (j : Nat) {x : Str} {i : Expr} {f : EF} {p pos : Pos} (hi : DE X i f) (hN : X.N[j]? = some x := by rfl) (hv : Vis X.env.scope x := by first | exact Or.inl rfl | exact Or.inr (Or.inl rfl) | exact Or.inr (Or.inr rfl)) (hd : (x == ("__debug__" : Str)) = false := by decide) (hcd : (x == ("__classdict__" : Str)) = false := by decide)
    (ha : ∀ v, assign (.Subscript (.Name x p) i pos) X.env v = (do
      let ov ← holding [v] (eval (.Name x p) X.env)
      let iv ← holding [v, ov] (eval i X.env)
      standAt pos
      holding [v, ov, iv] (setItem ov iv v)
      release [v, ov, iv] []) := by intro _; rfl) : DTg X (.Subscript (.Name x p) i pos) (tSubP j f) := by
  refine pg_imp (pg_sub (pe_var hN hv hd hcd) hi (set_P (by omega)) ha) ?_
  rintro v σ H Q ⟨G, ρ, ρ', d, R, hd, ht, k⟩
  unfold tSubP at ht
  split at ht
  · rename_i e ρ1 h1
    split at ht
    · rename_i c kvs0 b kvs key e0 e1 e2
      split at ht
      · rename_i hz
        cases ht
        obtain ⟨p, ep, _, _⟩ := R.own e0
        refine ⟨_, ep, ⟨G, ρ, ρ1, e, R, h1, fun w G1 H1 R1 s1 q1 => ?_⟩⟩
        obtain ⟨p', ep', gp, xs, hp, hx⟩ := R1.own e1
        rw [ep] at ep'
        cases ep'
        have ew := keyP_da q1 e2
        subst ew
        have hl : xs.length < sizeLine := by rw [hx.len]; exact fits_lt hz
        obtain ⟨R2, s2⟩ := R1.mutateC (es := .d (putD kvs key d)) (o' := .dK (putK xs key v)) e1 ep (fun _ => rfl) ⟨_, upd_same, hx.put key (hd.same s1.gr)⟩
        exact ⟨p, _, rfl, DPut.k hp hl, k _ _ _ R2 (s1.trans s2)⟩
      · cases ht
    · cases ht
  · cases ht
def fGetP (j : Nat) (f : EF) : EF := fun ρ => match f ρ with
  | some (e, ρ1) => match ρ[j]?, ρ1[j]?, keyP e with
    | some (.own _ (.d _)), some (.own _ (.d kvs)), some k => some ((valD kvs k).getD .none, ρ1)
    | _, _, _ => none
  | none => none
theorem de_getP (hu : X.A.units + 64 < cLine) (j : Nat) {x : Str} {e : Expr} {f : EF} {p apos cpos : Pos} (he : DE X e f) (hN : X.N[j]? = some x := by rfl) (hv : Vis X.env.scope x := by first | exact Or.inl rfl | exact Or.inr (Or.inl rfl) | exact Or.inr (Or.inr rfl)) (hd : (x == ("__debug__" : Str)) = false := by decide) (hcd : (x == ("__classdict__" : Str)) = false := by decide)
    (m : M1 X (.Name x p) "get" apos e cpos := by exact ⟨rfl, rfl, rfl, rfl⟩) : DE X (.Call (.Attribute (.Name x p) "get" apos) [e] [] cpos) (fGetP j f) := by
  refine pe_imp (pe_dget1 (by omega) (pe_var hN hv hd hcd) he m) ?_
  rintro σ H Q ⟨G, ρ, ρ', d, R, hf, k⟩
  unfold fGetP at hf
  split at hf
  · rename_i e ρ1 h1
    split at hf
    · rename_i c kvs0 b kvs key e0 e1 e2
      cases hf
      obtain ⟨p, ep, _, xs0, hp0, _⟩ := R.own e0
      refine ⟨_, ep, p, rfl, .inl ⟨xs0, .inl hp0⟩, ⟨G, ρ, _, e, R, h1, fun w G1 H1 R1 s1 q1 => ?_⟩⟩
      obtain ⟨p', ep', gp, xs, hp, hx⟩ := R1.own e1
      rw [ep] at ep'
      cases ep'
      have ew := keyP_da q1 e2
      subst ew
      refine ⟨valV xs key, DGet.k hp, ?_⟩
      rcases hx.val key with ⟨v, d, z1, z2, z3⟩ | ⟨z1, z2⟩
      · rw [z1]
        rw [z2] at k
        exact k v G1 H1 R1 s1 z3
      · rw [z1]
        rw [z2] at k
        exact k .non G1 H1 R1 s1 .non
    · cases hf
  · cases hf
def fIxP (j : Nat) (f : EF) : EF := fun ρ => match f ρ with
  | some (e, ρ1) => match ρ[j]?, ρ1[j]?, keyP e with
    | some (.own _ (.d _)), some (.own _ (.d kvs)), some k => (valD kvs k).map fun d => (d, ρ1)
    | _, _, _ => none
  | none => none
def fPop (j : Nat) (f : EF) : EF := fun ρ => match f ρ with
  | some (.int i, ρ1) => match ρ[j]?, ρ1[j]? with
    | some (.own _ (.l _)), some (.own b (.l ds)) => if 0 ≤ i ∧ i.toNat < ds.length ∧ i < 1000000 then (ds[i.toNat]?).map fun d => (d, ρ1.set j (.own b (.l (ds.eraseIdx i.toNat)))) else none
    | _, _ => none
  | _ => none
theorem DaA.erase {K : PySem.W.Frag} {H : Hp} : ∀ {ds : List PyData} {vs : List V} (i : Nat), DaA K H vs ds → DaA K H (vs.eraseIdx i) (ds.eraseIdx i)
  | [], _, _, h => by cases h; exact .nil
  | _ :: _, _, 0, h => by cases h with | cons _ h2 => exact h2
  | _ :: _, _, i + 1, h => by cases h with | cons h1 h2 => exact .cons h1 (DaA.erase i h2)
def fRevL (f : GF) : LF := fun ρ => match f ρ with
  | some (a, ρ1) => match look ρ1 a with
    | some (.list ds) => some (ds.reverse, ρ1)
    | _ => none
  | none => none
theorem dn_revL {e : Expr} {f : GF} {k : Nat} {p1 p2 p3 pos : Pos} (he : DG X e f) : DN X (.Subscript e (.Slice none none (some (.UnaryOp .USub (.Constant (.int 1) k p1) p2)) p3) pos) (fRevL f) := by
  refine pe_imp (pe_revL he) ?_
  rintro σ H Q ⟨G, ρ, ρ', d, R, hf, kk⟩
  unfold fRevL at hf
  split at hf
  · rename_i a ρ1 h1
    split at hf
    · rename_i ds h2
      cases hf
      refine ⟨G, ρ, _, a, R, h1, fun v G1 H1 R1 s1 q1 => ?_⟩
      obtain ⟨q, xs, rfl, hp, ha⟩ := bo_list (look_bo R1 q1 h2) R1.sub
      refine ⟨q, xs, rfl, SqL.of hp, fun p n => ?_⟩
      have x := Xt.more (p := p) (o := .lst xs.reverse) R1.sub n
      exact kk p _ G1 _ (R1.ext x) (s1.trans (.ext x)) upd_same (Same.free R1.sub n) (noOw R1 n) (backN s1 n) ha.rev
    · cases hf
  · cases hf
def fLstRg (f : EF) : LF := fun ρ => match f ρ with
  | some (.int n, ρ') => if 0 ≤ n ∧ n ≤ 100000 then some (rangeD 0 n.toNat, ρ') else none
  | _ => none
def revD (n : Nat) : List PyData := (List.range n).map fun i => .int ((n : Int) - 1 - ((i : Nat) : Int))
theorem jd_rev {K : PySem.W.Frag} {G : Hp} (n : Nat) : JD K G (Itc ((n : Int) - 1) (-1) n) (revD n) := by
  refine ⟨fun i H _ hi => ?_, fun i H _ hi => ?_, fun i G1 H x H' d _ _ hy hd => ?_⟩
  · have z : i < n := by simpa [revD] using hi
    exact z
  · have z : n ≤ i := by simpa [revD] using hi
    exact z
  · obtain ⟨e, rfl⟩ := hy
    unfold revD at hd
    rw [List.getElem?_map] at hd
    cases q : (List.range n)[i]? with
    | none => rw [q] at hd; cases hd
    | some j =>
      rw [q] at hd
      cases hd
      obtain ⟨hl, z⟩ := List.getElem?_eq_some_iff.mp q
      rw [List.getElem_range] at z
      subst z
      refine ⟨e, ?_⟩
      have w : (n : Int) - 1 + ((i : Nat) : Int) * (-1) = (n : Int) - 1 - ((i : Nat) : Int) := by omega
      rw [w]
      exact .int _
def iRev (f : EF) : LF := fun ρ => match f ρ with
  | some (.int j, ρ') => if 0 ≤ j ∧ j ≤ 1000000 then some (revD j.toNat, ρ') else none
  | _ => none
theorem di_rev {tg e : Expr} {f : EF} {p p2 pos pos2 : Pos} (hg : Gl X "reversed") (hm : X.mg "reversed" = none) (hg2 : Gl X "range") (hm2 : X.mg "range" = none) (he : DE X e f)
    (na : starEach [e] X.env = (false, eval e X.env) :: starEach [] X.env := by rfl) (na2 : starEach [.Call (.Name "range" p2) [e] [] pos2] X.env = (false, eval (.Call (.Name "range" p2) [e] [] pos2) X.env) :: starEach [] X.env := by rfl) :
    DI X tg (.Call (.Name "reversed" p) [.Call (.Name "range" p2) [e] [] pos2] [] pos) (iRev f) := by
  refine pi_imp (pi_revR hg hm (prg_1 hg2 hm2 he na) na2) ?_
  rintro σ H Q ⟨G, ρ, ρ', d, R, hf, k⟩
  unfold iRev at hf
  split at hf
  · rename_i n ρ1 h1
    split at hf
    · rename_i hz
      cases hf
      refine ⟨G, ρ, _, _, R, h1, fun v G1 H1 R1 s1 q1 => ?_⟩
      cases q1
      obtain ⟨z0, z1⟩ := hz
      refine ⟨n, rfl, by omega, by omega, by omega, by omega, k _ _ _ R1 s1 ?_⟩
      have e1 : (0 : Int) + (((n - 0).toNat : Nat) : Int) - 1 = ((n.toNat : Nat) : Int) - 1 := by omega
      have e2 : (n - 0).toNat = n.toNat := by omega
      rw [e2] at e1
      rw [e2, e1]
      exact jd_rev n.toNat
    · cases hf
  · cases hf
end
end DL
namespace DL
open PySem PySem.Spec PyProof.Rows L2 GX StX PySem.Calls
variable [DL.FT]
section
variable {X : Cx}
def iEnumL (f : EF) : LF := fun ρ => match f ρ with
  | some (.list ds, ρ') => some (pairsD ds, ρ')
  | _ => none
theorem dip_enumL {e : Expr} {f : EF} {p pos tpos : Pos} {elts : List Expr} {kk : Nat} (hg : Gl X "enumerate") (hm : X.mg "enumerate" = none) (ha : DE X e f) (hs : starEach [e] X.env = [(false, eval e X.env)] := by rfl) :
    DIP X (.Tuple elts kk tpos) (.Call (.Name "enumerate" p) [e] [] pos) (iEnumL f) := by
  refine pi_imp (pi_enum hg hm (pa_cons ha pa_nil hs) hs) ?_
  rintro σ H R ⟨G, ρ, ρ', ds, Rr, hf, k⟩
  unfold iEnumL at hf
  split at hf
  · rename_i es ρ1 e1
    cases hf
    refine ⟨G, ρ, _, _, Rr, e1, fun v G1 H1 R1 s1 q1 => ?_⟩
    cases q1 with
    | @lst _ a xs _ hs ha =>
      have hl : (pairsD es).length = es.length := by simp [pairsD]
      have sq : ∀ {H2 : Hp}, Same G1 H2 → SqL X.K H2 a xs := fun sm => SqL.of (sm _ _ hs)
      refine ⟨a, xs, rfl, sq R1.sub, k _ _ _ R1 s1 ⟨fun i H2 sm hi => ?_, fun i H2 sm hi => ?_, fun i G2 H2 x H3 d sm sm2 hy hd => ?_⟩⟩
      · rw [hl] at hi
        obtain ⟨v, ev, _⟩ := ha.get (List.getElem?_eq_getElem hi)
        exact ⟨xs, v, sq sm, ev⟩
      · rw [hl] at hi
        exact ⟨xs, sq sm, by rw [ha.len]; exact hi⟩
      · obtain ⟨T, x', rfl, nT, rfl, hy⟩ := hy
        unfold pairsD at hd
        rw [List.getElem?_mapIdx] at hd
        cases q : es[i]? with
        | none => rw [q] at hd; cases hd
        | some d0 =>
          rw [q] at hd
          cases hd
          obtain ⟨v, ev, hv⟩ := ha.get q
          have z := hy xs (sq (sm.trans sm2))
          rw [ev] at z
          cases z
          exact ⟨T, _, _, rfl, nT, rfl, rfl, .cons (.int _) (.cons (hv.same sm) .nil)⟩
  · cases hf
end
end DL
namespace DL
open PySem PySem.Spec PyProof.Rows L2 GX StX
end DL
namespace DL
open PySem PySem.Spec PyProof.Rows L2 GX
variable [DL.FT]
theorem sp_scr {ww : World} {K : PySem.W.Frag} {F : FF} {ns : List Int} {H : Hp} {a : Addr} {sls : List Sl} (h : F [.scr ns] = some (.bool true, sls)) (hS : ScrL K H a ns) (t : TbG (fun _ => none) H) : spD ww K 1 F [.ref a] H (fun v _ => v = .bl true) E0 := by
  refine ⟨rfl, fun _ => none, [.scr ns], sls, .bool true, ⟨rfl, fun _ _ e => (nomatch e), ?_, ?_, ?_, ?_, t⟩, h, fun v G' H' _ _ hd => ?_⟩
  · intro i d e
    match i, e with
    | 0, e => cases e
    | i + 1, e => cases e
  · intro i b ds e
    match i, e with
    | 0, e => cases e
    | i + 1, e => cases e
  · intro i j b c ds es p q a0 e
    match i, e with
    | 0, e => cases e
    | i + 1, e => cases e
  · intro i ms e
    match i, e with
    | 0, e =>
      cases e
      exact ⟨a, rfl, hS⟩
    | i + 1, e => cases e
  · cases hd
    rfl
end DL
namespace DL
open PySem PySem.Spec PyProof.Rows L2 GX
variable [DL.FT]
section
variable {P : Program} {w : World} {K : PySem.W.Frag} {mg mb : Str → Option Value} {k : Nat} {fL a : Addr} {fd : FuncData} {x : Str} {pr : Sp} {s₁ : Shared} {vs : List Value} {ns : List Int} {cs : List (Addr × Addr)} {H : Hp}
/-- what may be tracked when the law is called: the script's list and the tables -/
structure Start (K : PySem.W.Frag) (h : Heap) (H : Hp) (a : Addr) (vs : List Value) (cs : List (Addr × Addr)) : Prop where
  ha : h.get? a = some { cls := .type "list", data := .seq vs.toArray }
  tab : ∀ p ∈ cs, h.get? p.2 = some { cls := .none, data := .fields #[] } ∧ H p.2 = some (.tbl #[]) ∧ K.lookup p.2 = none ∧ PySem.W.CodeHd h p.1 p.2
  at_ : ∀ b, H b ≠ none → b = a ∨ ∃ p ∈ cs, b = p.2
  lst : H a ≠ none → K.lookup a = none ∧ ∃ o xs, H a = some (.frz o (.lst xs))
theorem Start.off {h : Heap} (S : Start K h H a vs cs) {b : Addr} {o : Obj} (e : h.get? b = some o) (n1 : ∀ us m, o.data ≠ .seq us m) (n2 : o.data ≠ .fields #[]) : H b = none := by
  by_cases q : H b = none
  · exact q
  · exfalso
    rcases S.at_ b q with z | ⟨p, hp, z⟩
    · subst z
      rw [S.ha] at e
      cases e
      exact n1 _ _ rfl
    · subst z
      rw [(S.tab p hp).1] at e
      cases e
      exact n2 rfl
theorem Start.nsp {h : Heap} (S : Start K h H a vs cs) {b : Addr} {m : Str → Option Value} (n : h.Ns b m) : (hidT h H).Ns b m := by
  obtain ⟨o, es, ep, e, d, r⟩ := n
  exact ⟨o, es, ep, hidT_get e (S.off e (by rw [d]; exact fun _ _ z => nomatch z) (by rw [d]; exact fun z => nomatch z)), d, r⟩
theorem Start.kin {h : Heap} (S : Start K h H a vs cs) (KX : K.In h) : K.In (hidT h H) := fun b o e => by
  refine hidT_get (KX b o e) ?_
  by_cases q : H b = none
  · exact q
  · exfalso
    rcases S.at_ b q with z | ⟨p, hp, z⟩
    · subst z
      rw [(S.lst q).1] at e; cases e
    · subst z
      rw [(S.tab p hp).2.2.1] at e; cases e
theorem Start.tb {h : Heap} (S : Start K h H a vs cs) (hns : h.Ns mainGlobals mg) (hbm : ∃ (bm : Addr) (ob : Obj), mg "__builtins__" = some (.ref bm) ∧ bm ≠ builtinsNs ∧ h.get? bm = some ob ∧ ob.cls = .type "module" ∧ ob.dict = some builtinsNs ∧ ob.data = .plain) (p : Addr × Addr) (hp : p ∈ cs) : LamX.TabB (hidT h H) mg p.1 p.2 := by
  obtain ⟨t1, _, _, o, us, file, tf, flags, tg, inF, text, tt, e1, r1, r2, r3, r⟩ := S.tab p hp
  obtain ⟨bm, ob, b1, b2, b3, b4, b5, b6⟩ := hbm
  obtain ⟨og, es, ep, eg, dg, _⟩ := hns
  have nz : us ≠ #[] := fun z => by rw [z] at r3; simp at r3
  have gP : mainGlobals ≠ p.2 := fun z => by
    rw [z, t1] at eg
    cases eg
    cases dg
  have ne1 : bm ≠ mainGlobals := fun z => by
    rw [z, eg] at b3
    cases b3
    rw [dg] at b6; cases b6
  have ne2 : bm ≠ p.2 := fun z => by
    rw [z, t1] at b3
    cases b3
    cases b6
  refine ⟨⟨o, us, file, tf, flags, tg, inF, text, tt, hidT_get e1 (S.off e1 (by rw [r2]; exact fun _ _ z => nomatch z) (by rw [r2]; exact fun z => nz (by cases z; rfl))), r1, r2, r3, r⟩, ⟨bm, ob, b1, b2, ne1, ne2, hidT_get b3 (S.off b3 (by rw [b6]; exact fun _ _ z => nomatch z) (by rw [b6]; exact fun z => nomatch z)), b4, b5, b6⟩, gP⟩
theorem core_callT (S : Start K s₁.heap H a vs cs) (KX : K.In s₁.heap) (atG : s₁.heap.Ns mainGlobals mg) (atB : s₁.heap.Ns builtinsNs mb) (isB : ∀ x : Str, x ≠ "__name__" → mb x = bootBuiltins x) (hlim : s₁.heap.NoLimit) (hg : s₁.gens = #[])
    (hbm : ∃ (bm : Addr) (ob : Obj), mg "__builtins__" = some (.ref bm) ∧ bm ≠ builtinsNs ∧ s₁.heap.get? bm = some ob ∧ ob.cls = .type "module" ∧ ob.dict = some builtinsNs ∧ ob.data = .plain)
    (hr : Room k callerA) (F : ∀ base : Heap, K.In base → base.Ns mainGlobals mg → (∀ p ∈ cs, LamX.TabB base mg p.1 p.2) → FnG P w K mg base k fL fd [x] pr) (hbind : ∀ (s : Shared) (u : Value), BindsTo s fd ⟨[u], []⟩ [(x, u)])
    (hok : HOk P w H s₁.heap) (hq : pr [.ref a] H (fun v _ => v = .bl true) E0) :
    codeAny (model P w) callerA (.call (.ref fL) ⟨[.ref a], []⟩) (fun r sE => r = .ok (.ret (.bool true)) ∧ OldK s₁.heap sE.heap ∧ sE.os = s₁.os ∧ AllBare sE.gens) s₁ := by
  have kin := S.kin KX
  have hM : Mod K mg (hidT s₁.heap H) := ⟨kin, S.nsp atG, ⟨mb, S.nsp atB, isB⟩, let ⟨mc, h1, h2⟩ := hlim; ⟨mc, S.nsp h1, h2⟩⟩
  have e0 : Env0 P w K mg (hidT s₁.heap H) callerA [] s₁ H := ⟨rfl, hM, fun b o e => of_hidT e, Nat.le_of_eq (hidT_size _ _), trivial, (fun b z => absurd (show b ∈ ([] : List Addr) from z) (by simp)), hok, .of_eq hg⟩
  refine codeAny_mono ((F _ kin (S.nsp atG) (S.tb atG hbm)).go callerA [] s₁ H ⟨[.ref a], []⟩ [.ref a] [.ref a] _ _ rfl hr e0 (hbind s₁ (.ref a)) (.cons rfl .nil) hq) ?_
  intro r sE z
  cases r with
  | error e => exact False.elim z
  | ok fl =>
    cases fl with
    | next => exact z.elim
    | brk => exact z.elim
    | cont => exact z.elim
    | ret u =>
      obtain ⟨v, H', os, bare, un, hok', ru, q⟩ := z
      have ev : v = .bl true := q
      rw [ev] at ru
      obtain rfl : u = Value.bool true := ru
      have same : ∀ b o, (∀ p ∈ cs, b ≠ p.2) → s₁.heap.get? b = some o → sE.heap.get? b = some o := fun b o nb e => by
        by_cases n : H b = none
        · exact un.keep b o e n (fun y => absurd (show b ∈ ([] : List Addr) from y) (by simp)) (by simp)
        · rcases S.at_ b n with y | ⟨p, hp, y⟩
          · subst y
            obtain ⟨_, ob, xs, y⟩ := S.lst n
            obtain ⟨e1, _⟩ := hok b _ y
            obtain ⟨e2, _⟩ := hok' b _ (un.frzs b ob _ y)
            rw [e] at e1
            rw [Option.some.inj e1]
            exact e2
          · exact (nb p hp y).elim
      have more : ∀ p ∈ cs, ∃ us : Array Value, sE.heap.get? p.2 = some { cls := .none, data := .fields us } := fun p hp => by
        obtain ⟨us, y⟩ := un.tbls p.2 #[] (S.tab p hp).2.1
        exact ⟨_, hok' p.2 _ y⟩
      refine ⟨rfl, ⟨fun b o e => ?_, fun b o e => ?_⟩, os, bare⟩
      · by_cases hb : ∃ p ∈ cs, b = p.2
        · obtain ⟨p, hp, rfl⟩ := hb
          obtain ⟨us, hm⟩ := more p hp
          have t := S.tab p hp
          rw [t.1] at e
          cases e
          exact .inr (.inl ⟨(t.2.2.2.tab t.1).isCodeTable, rfl, #[], us, rfl, by rw [Array.empty_append]; exact hm⟩)
        · exact .inl (same b o (fun p hp z => hb ⟨p, hp, z⟩) e)
      · by_cases hb : ∃ p ∈ cs, b = p.2
        · obtain ⟨p, hp, rfl⟩ := hb
          obtain ⟨us, hm⟩ := more p hp
          exact ⟨_, hm⟩
        · exact ⟨o, same b o (fun p hp z => hb ⟨p, hp, z⟩) e⟩
theorem law_goT (KX : K.In s₁.heap) (atG : s₁.heap.Ns mainGlobals mg) (atB : s₁.heap.Ns builtinsNs mb) (isB : ∀ x : Str, x ≠ "__name__" → mb x = bootBuiltins x) (hlim : s₁.heap.NoLimit) (hg : s₁.gens = #[])
    (hbm : ∃ (bm : Addr) (ob : Obj), mg "__builtins__" = some (.ref bm) ∧ bm ≠ builtinsNs ∧ s₁.heap.get? bm = some ob ∧ ob.cls = .type "module" ∧ ob.dict = some builtinsNs ∧ ob.data = .plain)
    (hT : ∀ p ∈ cs, s₁.heap.get? p.2 = some { cls := .none, data := .fields #[] }) (nT : ∀ p ∈ cs, K.lookup p.2 = none) (C : ∀ p ∈ cs, PySem.W.CodeHd s₁.heap p.1 p.2)
    (ha : s₁.heap.get? a = some { cls := .type "list", data := .seq vs.toArray }) (hi : IntsAre vs ns) (hl : ns.length ≤ sizeLine) (hr : Room k callerA)
    (F : ∀ base : Heap, K.In base → base.Ns mainGlobals mg → (∀ p ∈ cs, LamX.TabB base mg p.1 p.2) → FnG P w K mg base k fL fd [x] pr) (hbind : ∀ (s : Shared) (u : Value), BindsTo s fd ⟨[u], []⟩ [(x, u)])
    (hsp : ∀ H : Hp, ScrL K H a ns → (∀ p ∈ cs, H p.2 = some (.tbl #[])) → pr [.ref a] H (fun v _ => v = .bl true) E0) :
    codeAny (model P w) callerA (.call (.ref fL) ⟨[.ref a], []⟩) (fun r sE => r = .ok (.ret (.bool true)) ∧ OldK s₁.heap sE.heap ∧ sE.os = s₁.os ∧ AllBare sE.gens) s₁ := by
  have rv := vals_ints hi
  have len0 := hi.length
  have aT : ∀ p ∈ cs, a ≠ p.2 := fun p hp z => by
    have q := hT p hp
    rw [← z, ha] at q
    cases q
  let tb : Hp := fun b => if ∃ p ∈ cs, b = p.2 then some (.tbl #[]) else none
  have tb1 : ∀ p ∈ cs, tb p.2 = some (.tbl #[]) := fun p hp => if_pos ⟨p, hp, rfl⟩
  have tb2 : ∀ b u, tb b = some u → (∃ p ∈ cs, b = p.2) ∧ u = .tbl #[] := fun b u e => by
    by_cases h : ∃ p ∈ cs, b = p.2
    · have z := (if_pos h : tb b = some (.tbl #[])).symm.trans e
      cases z
      exact ⟨h, rfl⟩
    · have z := (if_neg h : tb b = none).symm.trans e
      cases z
  have tba : tb a = none := if_neg fun ⟨p, hp, z⟩ => aT p hp z
  cases hk : K.lookup a with
  | some o =>
    have e := KX a o hk
    rw [ha] at e
    have e2 := Option.some.inj e
    subst e2
    have hS : ScrL K tb a ns := .inr ⟨_, vs.toArray, _, hk, rfl, rfl, rfl, by rw [List.size_toArray, len0]; exact hl, by simpa using rv⟩
    exact core_callT (H := tb) ⟨ha, fun p hp => ⟨hT p hp, tb1 p hp, nT p hp, C p hp⟩, fun b n => .inr (by
      cases e : tb b with
      | none => exact (n e).elim
      | some u => exact (tb2 b u e).1), fun n => (n tba).elim⟩ KX atG atB isB hlim hg hbm hr F hbind (fun b u e => by
      obtain ⟨⟨p, hp, z⟩, y⟩ := tb2 b u e
      subst y
      rw [z]
      exact hT p hp) (hsp _ hS tb1)
  | none =>
    let hh : Hp := fun b => if b = a then some (.frz { cls := .type "list", data := .seq vs.toArray } (.lst (ns.map V.int))) else tb b
    have h1 : hh a = some (.frz { cls := .type "list", data := .seq vs.toArray } (.lst (ns.map V.int))) := if_pos rfl
    have h2 : ∀ b, b ≠ a → hh b = tb b := fun b n => if_neg n
    have h3 : ∀ p ∈ cs, hh p.2 = some (.tbl #[]) := fun p hp => (h2 _ (Ne.symm (aT p hp))).trans (tb1 p hp)
    exact core_callT (H := hh) ⟨ha, fun p hp => ⟨hT p hp, h3 p hp, nT p hp, C p hp⟩, fun b n => by
      by_cases q : b = a
      · exact .inl q
      · rw [h2 b q] at n
        cases e : tb b with
        | none => exact (n e).elim
        | some u => exact .inr (tb2 b u e).1, fun _ => ⟨hk, _, _, h1⟩⟩ KX atG atB isB hlim hg hbm hr F hbind (fun b u e => by
      by_cases q : b = a
      · subst q
        have z := h1.symm.trans e
        cases z
        exact ⟨ha, by rw [List.length_map]; exact hl, vs, _, rv, ha⟩
      · rw [h2 b q] at e
        obtain ⟨⟨p, hp, z⟩, y⟩ := tb2 b u e
        subst y
        rw [z]
        exact hT p hp) (hsp _ (.inl ⟨_, h1⟩) h3)
end
/-- empty tables -/
theorem tb_empty {H : Hp} (h : ∀ p ∈ FT.tabs, H p.1 = some (.tbl #[])) : TbG (fun _ => none) H := fun p hp => ⟨rfl, #[], h p hp, True.intro, fun pos cv hc => by
  have z : codeAmong pos [] = some cv := hc
  simp [codeAmong] at z⟩
end DL
namespace DL
open PySem PySem.Spec PyProof.Rows L2 GX
theorem walk_TF {l : PySem.W.OpenLaw} {n k : Nat} {q : Program} {loose : List Str} {XP : (Str → Option Value) → Heap → Prop} {YP : World → Heap → Prop} {d : DefRec} {x : Str}
    (hn : l.most = some n) (small : n ≤ sizeLine) (noDef : d.params.defaults = []) (hr : Room k callerA)
    (F : ∀ (w : World) (mg : Str → Option Value) (fL : Addr) (h : Heap), YP w h → h.Ns mainGlobals mg → mg d.name = some (.ref fL) →
      ∃ (_ : DL.FT) (K : PySem.W.Frag) (fd : FuncData) (pr : Sp) (cs : List (Addr × Addr)), K.In h ∧ (∀ p ∈ cs, h.get? p.2 = some { cls := .none, data := .fields #[] }) ∧ (∀ p ∈ cs, K.lookup p.2 = none) ∧ (∀ p ∈ cs, PySem.W.CodeHd h p.1 p.2) ∧ (∀ (s : Shared) (u : Value), BindsTo s fd ⟨[u], []⟩ [(x, u)]) ∧
        (∀ (H : Hp) (a : Addr) (ns : List Int), ns.length ≤ n → ScrL K H a ns → (∀ p ∈ cs, H p.2 = some (.tbl #[])) → pr [.ref a] H (fun v _ => v = .bl true) E0) ∧
        ∀ base : Heap, K.In base → base.Ns mainGlobals mg → (∀ p ∈ cs, LamX.TabB base mg p.1 p.2) → FnG l.prog w K mg base k fL fd [x] pr) :
    PySem.W.WalkO q loose XP YP l.row.toRowW d []
      (fun f vs => PySem.call f vs) := by
  refine Att.attach_callB hn noDef ?_
  intro w s₀ s₁ mg mb fL o pm cd doc a vs ns G Y ho hd hcd hmg hobj hints len0 hbits hg
  obtain ⟨ft, K, fd, pr, cs, KX, hT, nT, C, atB, hsp, hF⟩ := F w mg fL _ Y G.T.g hmg
  exact law_goT KX G.T.g G.T.b G.T.builtins G.T.nolimit hg G.T.bmain hT nT C hobj hints (Nat.le_trans len0 small) hr hF atB fun H hS hH => hsp H a ns len0 hS hH
end DL
namespace DL
open PySem PySem.Spec PyProof.Rows L2 GX StX NdefX
end DL
namespace DL
open PySem PySem.Spec PyProof.Rows L2 GX StX
variable [DL.FT]
/-- one of several: a datum or a new container -/
inductive Itc where
  | d (x : PyData) | c (k : Cn)
def CtR (ww : World) (K : PySem.W.Frag) (G H : Hp) (σ : L2.St) (ρ : Rho) (H0 : Hp) : Itc → V → Prop
  | .d x, v => Da K G v x
  | .c k, v => ∃ p, v = .ref p ∧ (∀ a ∈ reg p k, G a = none ∧ ¬ Ow σ ρ a ∧ H0 a = none) ∧ Cr ww K G H p k
section
variable {ww : World} {K : PySem.W.Frag} {G G' H H' H0 H1 : Hp} {σ σ' : L2.St} {ρ ρ' : Rho} {a : Itc} {v : V}
theorem CtR.keep (h : CtR ww K G H σ ρ H0 a v) (s : Sx G σ ρ H G' σ' ρ' H') : CtR ww K G' H' σ' ρ' H0 a v := by
  cases a with
  | d x => exact Da.same h s.gr
  | c k =>
    obtain ⟨p, rfl, h1, h2⟩ := h
    refine ⟨p, rfl, fun b hb => ?_, h2.step s.gr fun b hb => ?_⟩
    · obtain ⟨g, no, n⟩ := h1 b hb
      have ne := h2.ne hb
      refine ⟨?_, fun z => ?_, n⟩
      · cases q : G' b with
        | none => rfl
        | some u =>
          rcases s.new b (by rw [q]; simp) with z | z | z
          · exact (z g).elim
          · exact (ne z).elim
          · exact (no z).elim
      · rcases s.ow b z with y | y
        · exact no y
        · exact ne y
    · obtain ⟨g, no, n⟩ := h1 b hb
      cases q : H b with
      | none => exact (h2.ne hb q).elim
      | some o => exact s.fr b o q (h2.noT hb q) no
theorem CtR.new (h : CtR ww K G H σ ρ H1 a v) (b : ∀ p, H1 p = none → H0 p = none) : CtR ww K G H σ ρ H0 a v := by
  cases a with
  | d x => exact h
  | c k =>
    obtain ⟨p, rfl, h1, h2⟩ := h
    exact ⟨p, rfl, fun a ha => ⟨(h1 a ha).1, (h1 a ha).2.1, b _ (h1 a ha).2.2⟩, h2⟩
/-- where it stands -/
def reg1 : Itc → V → List Addr
  | .c k, .ref p => reg p k
  | _, _ => []
theorem CtR.at_ (h : CtR ww K G H σ ρ H0 a v) {b : Addr} (hb : b ∈ reg1 a v) : H b ≠ none ∧ H0 b = none := by
  cases a with
  | d x => cases v <;> cases hb
  | c k =>
    obtain ⟨p, rfl, h1, h2⟩ := h
    exact ⟨h2.ne hb, (h1 b hb).2.2⟩
/-- several of them, apart -/
inductive CtRs (ww : World) (K : PySem.W.Frag) (G H : Hp) (σ : L2.St) (ρ : Rho) (H0 : Hp) : List Itc → List V → Prop
  | nil : CtRs ww K G H σ ρ H0 [] []
  | cons {a : Itc} {v : V} {as : List Itc} {vs : List V} : CtR ww K G H σ ρ H0 a v → (∀ (i : Nat) (b : Itc) (u : V), as[i]? = some b → vs[i]? = some u → ∀ x ∈ reg1 a v, x ∉ reg1 b u) → CtRs ww K G H σ ρ H0 as vs → CtRs ww K G H σ ρ H0 (a :: as) (v :: vs)
theorem CtRs.map {as : List Itc} {vs : List V} (h : CtRs ww K G H σ ρ H0 as vs) (k : ∀ (i : Nat) (b : Itc) (u : V), as[i]? = some b → vs[i]? = some u → CtR ww K G H σ ρ H0 b u → CtR ww K G' H' σ' ρ' H1 b u) : CtRs ww K G' H' σ' ρ' H1 as vs := by
  induction h with
  | nil => exact .nil
  | cons h1 h2 h3 ih => exact .cons (k 0 _ _ rfl rfl h1) h2 (ih fun i b u e1 e2 => k (i + 1) b u (by simpa using e1) (by simpa using e2))
theorem CtRs.get {as : List Itc} {vs : List V} (h : CtRs ww K G H σ ρ H0 as vs) {i : Nat} {b : Itc} {u : V} (e1 : as[i]? = some b) (e2 : vs[i]? = some u) : CtR ww K G H σ ρ H0 b u := by
  induction h generalizing i with
  | nil => simp at e1
  | cons h1 h2 h3 ih =>
    cases i with
    | zero => simp at e1 e2; subst e1 e2; exact h1
    | succ i => exact ih (by simpa using e1) (by simpa using e2)
theorem CtRs.len {as : List Itc} {vs : List V} (h : CtRs ww K G H σ ρ H0 as vs) : vs.length = as.length := by
  induction h with
  | nil => rfl
  | cons _ _ _ ih => simp [ih]
end
end DL
namespace DL
open PySem PySem.Spec PyProof.Rows L2 GX StX
variable [DL.FT]
theorem Vals.erase : ∀ {xs : List V} {us : List Value} (j : Nat), Vals xs us → Vals (xs.eraseIdx j) (us.eraseIdx j)
  | _, _, j, .nil => by simp; exact .nil
  | _, _, 0, .cons r h => by simpa using h
  | _, _, j + 1, .cons r h => by
    rw [List.eraseIdx_cons_succ, List.eraseIdx_cons_succ]
    exact .cons r (Vals.erase j h)
section
variable {X : Cx}
def rRemD (X : Cx) : V → List V → Hp → VK → Prop := fun x vs H Q => ∃ (G : Hp) (p : Addr) (xs : List V) (ds : List PyData) (d : PyData) (y : V) (j : Nat), x = .ref p ∧ Same G H ∧ H p = some (.lst xs) ∧ DaA X.K G xs ds ∧ vs = [y] ∧ Da X.K G y d ∧ flatD d = true ∧ ds.all flatD = true ∧ idxL d ds = some j ∧ Q .non (upd H p (.lst (xs.eraseIdx j)))
theorem mt_removeD : MtM X "list.remove" (rRemD X) := by
  intro pins s σ H x vs v us Q I rx rs h
  obtain ⟨G, p, xs, ds, d, y, j, rfl, sub, hp, ha, rfl, hy, fd, fs, hj, q⟩ := h
  obtain rfl : v = Value.ref p := rx
  obtain ⟨u, rfl, ru⟩ := rs.one
  obtain ⟨hz, its, n, rv, hl, e⟩ := I.lstM hp
  obtain ⟨j1, j2, j3⟩ := idx_facts hj
  have ll : its.length = ds.length := by rw [← hl, ha.len]
  obtain ⟨f, he, em⟩ := seen_flat (A := X.A.in1) (s := s) ru hy fd rv ha fs
  refine call_meets PySem.F.slot_list_remove ⟨_, e, rfl⟩ PySem.F.entry_list_remove (PySem.F.args_list_remove_2 _ _)
    (SeqAt.list_removeAt p its.toArray n none #[] u f j (by simp; omega) ?_ ?_ (by rw [List.size_toArray]; omega)) ⟨e, he, ?_⟩
  · have z := map_at em j (by omega) j1
    simpa [j2 j1] using z
  · intro m hm hmj
    have hm' : m < its.length := by simpa using hm
    have z := map_at em m hm' (by omega)
    rw [j3 m (by omega) hmj] at z
    simpa using z
  · refine ⟨.non, _, I.lset (its' := its.eraseIdx j) (t' := s.toks) hp e ?_ (Vals.erase j rv) ?_, rfl, q⟩
    · show its.toArray.eraseIdxIfInBounds j = (its.eraseIdx j).toArray
      rw [List.eraseIdxIfInBounds_toArray]
    · have z : (xs.eraseIdx j).length ≤ xs.length := by
        rw [List.length_eraseIdx]
        split <;> omega
      omega
end
def fRem (j : Nat) (f : EF) : SF := fun ρ => match ρ[j]? with
  | some (.own _ (.l _)) => match f ρ with
    | some (d, ρ1) => match ρ1[j]? with
      | some (.own b (.l ds)) => if (flatD d && ds.all flatD) = true then match idxL d ds with
          | some k => some (.nx (ρ1.set j (.own b (.l (ds.eraseIdx k)))))
          | none => none
        else none
      | _ => none
    | none => none
  | _ => none
section
variable {X : Cx}
theorem srem (j : Nat) {x : Str} {e : Expr} {f : EF} {p apos cpos pos : Pos} (he : DE X e f) (hN : X.N[j]? = some x := by rfl) (hv : Vis X.env.scope x := by first | exact Or.inl rfl | exact Or.inr (Or.inl rfl) | exact Or.inr (Or.inr rfl))
    (hd : (x == ("__debug__" : Str)) = false := by decide) (hcd : (x == ("__classdict__" : Str)) = false := by decide)
    (hbase : attributeBase (.Name x p) "remove" X.env (eval (.Name x p) X.env) = eval (.Name x p) X.env := by rfl)
    (hfew : ((backTo cpos (starEach [e] X.env)).all (fun x => !x.1) && (backToKw cpos (keywordEach [] X.env)).all (fun x => x.1.isSome)
      && decide ([e].length + ([] : List Keyword).length + (if ([] : List Keyword).isEmpty then 0 else 1) < 30)) = true := by rfl)
    (hline : (apos.endLine == cpos.line) = true := by rfl) (hs : starEach [e] X.env = (false, eval e X.env) :: starEach [] X.env := by rfl) (hplain : (backTo cpos (starEach [] X.env)).any (·.1) = false := by rfl)
    (hsw : swapsWith (.Call (.Attribute (.Name x p) "remove" apos) [e] [] cpos) none pos.line X.env = pure false := by rfl) :
    DS X (.Expr (.Call (.Attribute (.Name x p) "remove" apos) [e] [] cpos) pos) (fRem j f) := by
  refine ps_imp (ps_expr (pe_bm PySem.F.plainAttrs_list PySem.F.slot_list_remove PySem.F.type_list_remove mt_removeD (pe_var hN hv hd hcd) (pa_cons he pa_nil hs) hbase hfew hline hs hplain) hsw) ?_
  rintro D σ H ⟨G, ρ, o, R, hf, k⟩
  unfold fRem at hf
  split at hf
  · rename_i b0 ds0 e0
    split at hf
    · rename_i d ρ1 h1
      split at hf
      · rename_i b ds e1
        split at hf
        · rename_i hz
          split at hf
          · rename_i kk hk
            cases hf
            rw [Bool.and_eq_true] at hz
            obtain ⟨q, xs0, ep, hp0, _⟩ := R.ownL e0
            refine ⟨_, ep, .inl ⟨rfl, _, SqL.of hp0⟩, ⟨G, ρ, ρ1, d, R, h1, fun v G1 H1 R1 s1 q1 => ?_⟩⟩
            obtain ⟨q', xs, ep', hp, gp, ha⟩ := R1.ownL e1
            rw [ep] at ep'
            cases ep'
            obtain ⟨R2, s2⟩ := R1.mutate (es := ds.eraseIdx kk) e1 ep (DaA.erase kk ha)
            exact ⟨G1, q, xs, ds, d, v, kk, rfl, R1.sub, hp, ha, rfl, q1, hz.1, hz.2, hk, k _ _ _ R2 (s1.trans s2)⟩
          · cases hf
        · cases hf
      · cases hf
    · cases hf
  · cases hf
end
end DL
namespace DL
open PySem PySem.Spec PyProof.Rows L2 GX StX BX
end DL
namespace DL
open PySem PySem.Spec PyProof.Rows L2 GX StX
end DL
namespace DL
open PySem PySem.Spec PyProof.Rows L2 GX StX
end DL
namespace DL
open PySem PySem.Spec PyProof.Rows L2 GX StX NdefX
end DL
namespace DL
open PySem PySem.Spec PyProof.Rows L2 GX StX NdefX
variable [DL.FT]
/-- the keys of the items -/
def keysM (M : MF) (ds : List PyData) : List PyData → Option (List Int)
  | [] => some []
  | a :: as => match M ds [a] with
    | some (.int k) => match keysM M ds as with
      | some ks => if noF a = true then some (k :: ks) else none
      | none => none
    | _ => none
theorem keysM_at {M : MF} {ds : List PyData} : ∀ {as : List PyData} {ks : List Int}, keysM M ds as = some ks → ks.length = as.length ∧ ∀ (i : Nat) (a : PyData), as[i]? = some a → M ds [a] = some (.int (ks.getD i 0)) ∧ noF a = true
  | [], ks, h => by cases h; exact ⟨rfl, fun i a e => by simp at e⟩
  | a :: as, ks, h => by
    unfold keysM at h
    split at h
    · rename_i k e1
      split at h
      · rename_i ks' e2
        split at h
        · rename_i e3
          cases h
          obtain ⟨l, q⟩ := keysM_at e2
          refine ⟨by simp [l], fun i b e => ?_⟩
          cases i with
          | zero =>
            simp at e
            subst e
            exact ⟨e1, e3⟩
          | succ i =>
            have := q i b (by simpa using e)
            simpa using this
        · cases h
      · cases h
    · cases h
/-- the place of the first item with the greatest key -/
def btK (ks : List Int) (i j : Nat) : Bool := decide (ks.getD i 0 > ks.getD j 0)
def bestK (ks : List Int) : Nat := argBest (btK ks) (ks.length - 1)
theorem moved_eq {wr : List Addr} {s s' : Shared} (m : Moved wr (fun a b => b = a) s s') : s' = { s with heap := s'.heap, toks := s'.toks } := by
  obtain ⟨h, g, d, t, o⟩ := s'
  obtain ⟨_, e1, e2, e3, _⟩ := m
  dsimp only at e1 e2 e3
  rw [e1, e2, e3]
section
variable {X : Cx} {pins : List (Addr × Obj)} {σ : L2.St} {G H : Hp} {s : Shared} {cs : List Addr}
theorem env0_in1 {P : Program} {w : World} {K : PySem.W.Frag} {mg : Str → Option Value} {base : Heap} {A : Around} {outer : List Env} {s : Shared} {H : Hp} (e : Env0 P w K mg base A outer s H) : Env0 P w K mg base A.in1 outer s H :=
  ⟨e.frames, e.mod, e.bs, e.bsz, e.funs, e.frf, e.hok, e.bare⟩
/-- what stays while keys are asked -/
structure KJ (X : Cx) (pins : List (Addr × Obj)) (σ : L2.St) (G H : Hp) (cs : List Addr) (h0 : Heap) (S I : Addr) (s' : Shared) (G' H' : Hp) : Prop where
  inv : Inv X pins σ H' s'
  xt : Xt G H G' H'
  cz : ∀ c ∈ cs, s'.heap.get? c = h0.get? c
  fs : FpOk X pins H' S
  fi : FpOk X pins H' I
theorem KJ.moved {h0 : Heap} {S I : Addr} {s1 s2 : Shared} {G' H' : Hp} (j : KJ X pins σ G H cs h0 S I s1 G' H') (nc : ∀ c ∈ cs, c ≠ S ∧ c ≠ I) (cg : ∀ c ∈ cs, ∃ o, h0.get? c = some o) (m : Moved [S, I] (fun a b => b = a) s1 s2) : KJ X pins σ G H cs h0 S I s2 G' H' := by
  refine ⟨?_, j.xt, fun c hc => ?_, j.fs, j.fi⟩
  · rw [moved_eq m]
    exact j.inv.turnedL (ch := [S, I]) (fun b o hb e => m.heap b o hb e) fun b hb => by
      simp only [List.mem_cons, List.not_mem_nil, or_false] at hb
      rcases hb with rfl | rfl
      · exact j.fs
      · exact j.fi
  · obtain ⟨o, e⟩ := cg c hc
    obtain ⟨n1, n2⟩ := nc c hc
    rw [e]
    refine m.heap c o (fun hb => ?_) ((j.cz c hc).trans e)
    simp only [List.mem_cons, List.not_mem_nil, or_false] at hb
    rcases hb with z | z
    · exact n1 z
    · exact n2 z
theorem gho_step {h0 h1 : Heap} {G G' : Hp} {cs : List Addr} (x : Same G G') (cz : ∀ c ∈ cs, h1.get? c = h0.get? c) (cg : ∀ c ∈ cs, ∃ o, h0.get? c = some o) : Same (gho h0 cs G) (gho h1 cs G') := fun b o e => by
  by_cases hb : b ∈ cs
  · obtain ⟨ob, eo⟩ := cg b hb
    rw [gho_in hb eo] at e
    rw [gho_in hb ((cz b hb).trans eo)]
    exact e
  · rw [gho_out hb] at e ⊢
    exact x _ _ e
/-- max(l, key=q): the first item with the greatest key -/
theorem run_maxK {k : Nat} {t : Str} {M : MF} {l q : Addr} {xs : List V} {ds as : List PyData} {ks : List Int} {d : PyData} {Q : VK} (C : CloG X.prog X.w X.K X.mg X.base k t 1 M) (hG : Gd X.A) (hR : Room (k + 1) X.A)
    (I : Inv X pins σ H s) (z : OwnCs X cs) (sub : Same G H) (tb : TbG G H) (hl : H l = some (.lst xs)) (hA : DaA X.K G xs as) (hq : Da X.K (gho s.heap cs G) (.ref q) (fnD t ds)) (hk : keysM M ds as = some ks) (hb : as[bestK ks]? = some d)
    (hQ : ∀ v G' H', Xt G H G' H' → Da X.K G' v d → Q v H') :
    wpAny (model X.prog X.w) X.A (call (.builtin "max") [.ref l] [(Str.ofString "key", .ref q)]) (EP X pins σ Q) X.xe s := by
  obtain ⟨lk, hkeys⟩ := keysM_at hk
  have hne : 0 < as.length := by
    cases as with
    | nil => simp at hb
    | cons a as => simp
  obtain ⟨its, rv, hls, hz⟩ := I.list (.inl (.inl hl))
  have xl : xs.length = as.length := hA.len
  have il : its.length = as.length := by rw [← rv.length, xl]
  have hlt : l < s.heap.objs.size := by
    obtain ⟨o, n, ho, _⟩ := hls
    exact Heap.lt_size ho
  have cg : ∀ c ∈ cs, ∃ o, s.heap.get? c = some o := fun c hc => (own_free I z hc).2.1
  have hR1 : Room k X.A.in1 := hR.in1
  -- the iterator stands at the end of the heap, the list of the best one behind it
  have sz : ∀ o : Obj, (s.heap.push o).objs.size = s.heap.objs.size + 1 := fun o => size_push' ..
  have W : WalksS X.prog X.w X.A.in1 s.heap.objs.size [s.heap.objs.size, l] [s.heap.objs.size] (fun a b => b = a) as.length (fun i v => ∃ x, xs[i]? = some x ∧ RelV x v)
      (fun i s' => s'.heap.IsListIter s.heap.objs.size l i ∧ ∃ its : List Value, Vals xs its ∧ s'.heap.IsList l its.toArray) := by
    have Wi : ∀ its : List Value, WalksS X.prog X.w X.A.in1 s.heap.objs.size [s.heap.objs.size, l] [s.heap.objs.size] (fun a b => b = a) its.toArray.size (fun i v => its.toArray[i]? = some v) (fun i s' => s'.heap.IsListIter s.heap.objs.size l i ∧ s'.heap.IsList l its.toArray) :=
      fun its => (Walks.list (prog := X.prog) (w := X.w) (A := X.A.in1) hR.hd s.heap.objs.size l (Nat.ne_of_lt hlt) its.toArray).toS
    refine ⟨fun b hb => by simp at hb; simp [hb], fun _ => rfl, fun _ _ _ h1 h2 => h2.trans h1, fun i s' h' tk st le kk => ?_, fun i s' Q E hi st hQ => ?_, fun s' Q E st hQ => ?_, fun i s' Q E st hQ => wpAny_pyIter_listiter st.1 hQ⟩
    · obtain ⟨h1, its, r, h2⟩ := st
      exact ⟨((Wi its).frame i s' h' tk ⟨h1, h2⟩ le kk).1, its, r, ((Wi its).frame i s' h' tk ⟨h1, h2⟩ le kk).2⟩
    · obtain ⟨h1, its, r, h2⟩ := st
      have ll : its.toArray.size = as.length := by rw [List.size_toArray, ← r.length, xl]
      refine (Wi its).item i s' Q E (by rw [ll]; exact hi) ⟨h1, h2⟩ fun v s2 hv st' m => hQ v s2 ?_ ⟨st'.1, its, r, st'.2⟩ m
      obtain ⟨u, e1, e2⟩ := r.get (List.getElem?_eq_getElem (show i < xs.length by omega))
      refine ⟨_, List.getElem?_eq_getElem (show i < xs.length by omega), ?_⟩
      have : its[i]? = some v := by simpa using hv
      rw [this] at e1
      cases e1
      exact e2
    · obtain ⟨h1, its, r, h2⟩ := st
      have ll : its.toArray.size = as.length := by rw [List.size_toArray, ← r.length, xl]
      exact (Wi its).done s' Q E ⟨by rw [ll]; exact h1, h2⟩ hQ
  have nS : ∀ c ∈ cs, c ≠ s.heap.objs.size + 1 ∧ c ≠ s.heap.objs.size := fun c hc => by
    obtain ⟨o, e⟩ := cg c hc
    have q := Heap.lt_size e
    exact ⟨Nat.ne_of_lt (Nat.lt_succ_of_lt q), Nat.ne_of_lt q⟩
  have fS : FpOk X pins H (s.heap.objs.size + 1) := I.fpOk (Nat.le_succ _) (I.hok.fresh (Nat.le_succ _))
  have fI : FpOk X pins H s.heap.objs.size := I.fpOk (Nat.le_refl _) (I.hok.fresh (Nat.le_refl _))
  have K : KeyRun X.prog X.w X.A.in1 (.ref q) .Gt (s.heap.objs.size + 1) [s.heap.objs.size] (fun a b => b = a) as.length (fun i v => ∃ x, xs[i]? = some x ∧ RelV x v)
      (fun i s' => s'.heap.IsListIter s.heap.objs.size l i ∧ ∃ its : List Value, Vals xs its ∧ s'.heap.IsList l its.toArray)
      (fun s' => ∃ G' H', KJ X pins σ G H cs s.heap (s.heap.objs.size + 1) s.heap.objs.size s' G' H') (fun i v _ => ∃ t, v = Value.int (ks.getD i 0) t) (btK ks) := by
    refine ⟨fun s1 s2 hj m => ?_, fun _ _ _ _ h _ => h, fun i v s1 o Qf Ef hi hP hJ hst hSo hc => ?_, fun i j ki kj s1 Qf Ef _ h1 h2 hq => ?_⟩
    · obtain ⟨G', H', j⟩ := hj
      exact ⟨G', H', j.moved nS cg m⟩
    · obtain ⟨G', H', j⟩ := hJ
      obtain ⟨x, ex, rx⟩ := hP
      have ea : as[i]? = some as[i] := List.getElem?_eq_getElem hi
      obtain ⟨hM, hno⟩ := hkeys i _ ea
      have hx : Da X.K G x as[i] := by
        obtain ⟨x', ex', hx⟩ := hA.get ea
        rw [ex] at ex'
        cases ex'
        exact hx
      have z1 := z
      have sg := gho_same j.inv z1 j.xt.gh
      have subg : Same (gho s1.heap cs G') (gho s1.heap cs H') := fun b o e => by
        by_cases hb : b ∈ cs
        · obtain ⟨_, ⟨ob, eo⟩, _⟩ := own_free j.inv z1 hb
          rw [gho_in hb eo] at e ⊢; exact e
        · rw [gho_out hb] at e ⊢; exact j.xt.gh _ _ e
      have hq' : Da X.K (gho s1.heap cs G') (.ref q) (fnD t ds) := hq.same (gho_step j.xt.gg j.cz cg)
      refine wpAny_call (codeAny_mono (C.run X.A.in1 X.stack s1 (gho s1.heap cs G') (gho s1.heap cs H') q [v] [x] ds [as[i]] _ (fun v' H2 => ∃ G2, Xt G H G2 (drp H2 cs) ∧ v' = .int (ks.getD i 0)) hG hR1 (env0_in1 (env0_gho j.inv z1)) subg ((j.xt.tt tb).gho j.xt.gh j.inv z1) hq' (.cons rx .nil) (.cons (hx.same (fun b o e => sg _ _ (j.xt.gg _ _ e))) .nil) (by simp [noFs, hno]) rfl hM fun v' G2 H2 x2 hv => ?_) fun r s2 hr => ?_)
      · refine ⟨drp G2 cs, j.xt.trans (xt_gho j.inv z1 j.xt.gh x2), ?_⟩
        cases hv
        rfl
      · cases r with
        | error e => exact (show False from hr).elim
        | ok fl =>
          cases fl with
          | next => exact False.elim hr
          | brk => exact False.elim hr
          | cont => exact False.elim hr
          | ret u =>
            obtain ⟨v', H3, os, bare, un, hok3, ru, G3, x3, ev⟩ := ce_gho (Q := fun v' H2 => ∃ G2, Xt G H G2 H2 ∧ v' = .int (ks.getD i 0)) j.inv z1 hr
            have I3 : Inv X pins σ H3 s2 := j.inv.call' os un hok3 bare fun b z => absurd z (by simp)
            have nx : ∀ b : Addr, b ∉ ([] : List Addr) := fun b q => by simp at q
            have nf : ∀ b, b ≠ X.env.locals → b ∉ X.fs → b ∉ frs X.stack := fun b n1 n2 hb => by
              rcases List.mem_cons.mp (j.inv.stkSub b hb) with y | y
              · exact n1 y
              · exact n2 y
            have kS := un.keep _ o hSo j.fs.1 (nf _ j.fs.2.1 j.fs.2.2.1) (nx _)
            obtain ⟨oI, gI, c1, c2⟩ := hst.1
            have kI := un.keep _ oI gI j.fi.1 (nf _ j.fi.2.1 j.fi.2.2.1) (nx _)
            have hl3 : H3 l = some (.lst xs) := x3.hh _ _ hl (fun _ z => nomatch z)
            obtain ⟨its3, rv3, hls3, _⟩ := I3.list (.inl (.inl hl3))
            rw [ev] at ru
            refine hc u s2 ⟨G3, H3, I3, x3, fun c hc => ?_, ⟨un.free _ o hSo j.fs.1 (nx _), j.fs.2⟩, ⟨un.free _ oI gI j.fi.1 (nx _), j.fi.2⟩⟩ ⟨⟨oI, kI, c1, c2⟩, its3, rv3, hls3.isList⟩ kS ru fun _ _ h => h
            obtain ⟨n1, ⟨ob, eo⟩, le, ne⟩ := own_free j.inv z1 hc
            have k := un.keep c ob eo n1 (nf c ne fun y => by
              obtain ⟨_, o', ho', _⟩ := j.inv.ok.funs.mem y
              exact absurd (Nat.lt_of_lt_of_le (Heap.lt_size ho') le) (Nat.lt_irrefl _)) (nx _)
            rw [k, ← eo]
            exact j.cz c hc
    · obtain ⟨t1, rfl⟩ := h1
      obtain ⟨t2, rfl⟩ := h2
      exact CmpOf.ints_gt (prog := X.prog) (w := X.w) (A := X.A.in1) (P := fun i v => ∃ t, v = .int (ks.getD i 0) t) (fun i => ks.getD i 0) (fun i v h => h) i j _ _ _ _ _ ⟨t1, rfl⟩ ⟨t2, rfl⟩ hq
  refine PySem.call_max_walkK ?_
  refine wpAny_pyIter_list hls.isList ?_
  refine ⟨s.heap.objs.size, _, _, _, as.length, _, _, (fun s' => ∃ G' H', KJ X pins σ G H cs s.heap (s.heap.objs.size + 1) s.heap.objs.size s' G' H'), (fun i v _ => ∃ t, v = Value.int (ks.getD i 0) t), btK ks, rfl, W, ⟨⟨_, Heap.get?_push_size _ rfl, rfl, rfl⟩, its, rv, ?_⟩, fun b hb => ?_, hne, ?_, ⟨G, H, ?_, Xt.refl sub, fun c hc => ?_, fS, fI⟩, fun v s' hP hJ => ?_⟩
  · exact hls.isList.at fun o e => Heap.get?_push_of_some _ e
  · rw [sz]
    simp only [List.mem_cons, List.not_mem_nil, or_false] at hb
    rcases hb with rfl | rfl
    · exact Nat.lt_succ_self _
    · exact Nat.lt_succ_of_lt hlt
  · rw [sz]
    exact K
  · exact I.kept fun b o e => Heap.get?_push_of_some _ e
  · obtain ⟨o, e⟩ := cg c hc
    rw [e]
    exact Heap.get?_push_of_some _ e
  · obtain ⟨x, ex, rx⟩ := hP
    obtain ⟨G', H', j⟩ := hJ
    have eb : bestK ks = argBest (btK ks) (as.length - 1) := by unfold bestK; rw [lk]
    rw [eb] at hb
    obtain ⟨x', ex', hx⟩ := hA.get hb
    rw [ex] at ex'
    cases ex'
    exact ⟨x, H', j.inv, rx, hQ x G' H' j.xt (hx.same j.xt.gg)⟩
end
def fMaxK (M : MF) (js : List Nat) (f : GF) : EF := fun ρ => match f ρ with
  | none => none
  | some (a, ρ1) => match look ρ1 a with
    | some (.list as) => match capD ρ1 js with
      | none => none
      | some ds => match keysM M ds as with
        | none => none
        | some ks => match as[bestK ks]? with
          | some d => some (d, ρ1)
          | none => none
    | _ => none
section
variable {X : Cx} {k : Nat} {fr : List Str} {js : List Nat} {p pos kpos : Pos} {e1 lam e : Expr} {f1 : GF} {M : MF} {mk : Addr → List Addr → NF} {t : Str} {Fn : Addr → NF} {cl : List (Str × Addr)} {P : Addr} {nm : Nat → Nat → Str} {lpos : Pos} {key : Option Str}
/-- max(a, key=lambda ..) -/
theorem de_maxK (C : CloG X.prog X.w X.K X.mg X.base k t 1 M) (hG : Gd X.A) (hR : Room (k + 1) X.A) (h1 : DG X e1 f1) (hlam : PE X lam (tLamT P (FT.qn t) lpos Fn e)) (hm0 : (P, nm) ∈ FT.tabs) (hu : ∀ p ∈ FT.tabs, p.1 = P → p.2 = nm) (hq0 : nm lpos.line lpos.col = FT.qn t)
    (hnf : ∀ c cs, cs.length = fr.length → FT.nf t c cs = some (LamO (mk c cs) e)) (hFn : ∀ c, Fn c = mk c (cl.map (·.2))) (hcl : cl.map (·.1) = fr) (hC : X.Ok → Caps X cl fr js) (hfr : fr.Nodup) (hfn : ∀ y, X.fn y = true)
    (hm : X.mg "max" = none) (hg : Gl X "max" := by rfl)
    (he1 : starEach [e1] X.env = (false, eval e1 X.env) :: starEach [] X.env := by rfl) (he : backTo pos (starEach [e1] X.env) = (false, eval e1 X.env) :: backTo pos (starEach [] X.env) := by rfl) (hpl : (backTo pos (starEach [e1] X.env)).any (·.1) = false := by rfl)
    (hall : (backToKw pos (keywordEach [⟨key, lam, kpos⟩] X.env)).all (·.1.isSome) = true := by rfl) (hnone : (backToKw pos (keywordEach [⟨key, lam, kpos⟩] X.env)).any (·.1.isNone) = false := by rfl) (hks : (backToKw pos (keywordEach [⟨key, lam, kpos⟩] X.env)).filterMap (·.1) = [Str.ofString "key"] := by rfl) :
    DE X (.Call (.Name "max" p) [e1] [⟨key, lam, kpos⟩] pos) (fMaxK M js f1) := by
  refine ⟨fun pins s σ H Q I h => ?_⟩
  obtain ⟨G, ρ, ρ', d, R, hf, hq⟩ := h
  unfold fMaxK at hf
  split at hf
  · cases hf
  · rename_i a ρ1 q1
    split at hf
    · rename_i as ql
      split at hf
      · cases hf
      · rename_i ds qc
        split at hf
        · cases hf
        · rename_i ks qk
          split at hf
          · rename_i d' qb
            cases hf
            have ha : PA X [e1] (tCons (rG X.w X.K f1) tNil) := pa_cons h1 pa_nil he1
            have ht : tCons (rG X.w X.K f1) tNil σ H fun vs H1 => ∃ (v1 : V) (G1 : Hp), vs = [v1] ∧ Rl X.w X.K G1 σ ρ' H1 ∧ Sx G σ ρ H G1 σ ρ' H1 ∧ AgR X.K G1 σ a v1 :=
              ⟨G, ρ, ρ', a, R, q1, fun v1 G1 H1 R1 s1 hv1 => ⟨v1, G1, rfl, R1, s1, hv1⟩⟩
            have hk : PK X [⟨key, lam, kpos⟩] (tCons (tLamT P (FT.qn t) lpos Fn e) tNil) := pk_cons hlam pk_nil
            refine wpAny_Call_Name_kw (ld_blt I hg hm (by rfl) ?_ (by decide) (by decide))
            refine PyProof.Rows.callWith_kw (thn (ha.run pos pins s σ H _ I ht) fun us s1 ⟨vs, H1, I1, r1, v1, G1, ev, R1, sx1, hv1⟩ => ?_) he hpl hall hnone
            have ht2 : tCons (tLamT P (FT.qn t) lpos Fn e) tNil σ H1 fun zs H2 => ∃ (b c : Addr) (G2 : Hp), zs = [.ref b] ∧ Rl X.w X.K G2 σ ρ' H2 ∧ Sx G1 σ ρ' H1 G2 σ ρ' H2 ∧ G2 b = some (LamO (Fn c) e b) ∧ G2 c = some (LamX.CodeO c (FT.qn t)) :=
              mk_lam R1 hm0 hu hq0 fun b c G2 H2 xn g1 g2 => ⟨b, c, G2, rfl, R1.ext xn, Sx.ext xn, g1, g2⟩
            refine thn (hk.run pos pins s1 σ H1 _ I1 ht2) fun ws s2 ⟨zs, H2, I2, r2, b, cc, G2, ez2, R2, sx2, hla, hco⟩ => ?_
            rw [hks]
            subst ev
            subst ez2
            obtain ⟨u1, rfl, ru1⟩ := Vals.one r1
            obtain ⟨u2, rfl, ru2⟩ := Vals.one r2
            obtain rfl : u2 = Value.ref b := ru2
            have B := look_bo R2 (hv1.same sx2.gr) ql
            obtain ⟨l, xs, rfl, hl, hA⟩ := bo_list B R2.sub
            obtain rfl : u1 = Value.ref l := ru1
            have C2 := hC I2.ok
            have ez : cl = fr.zip (cl.map (·.2)) := by
              rw [← hcl]
              exact zip_unz _
            have hlen : (cl.map (·.2)).length = fr.length := by rw [← hcl, List.length_map, List.length_map]
            have own : OwnCs X (cl.map (·.2)) := fun c hc => by
              obtain ⟨i, hi⟩ := List.mem_iff_getElem?.mp hc
              have li : i < fr.length := by rw [← hlen]; exact (List.getElem?_eq_some_iff.mp hi).1
              have l := zip_lk hfr (List.getElem?_eq_getElem li) hi
              rw [← ez] at l
              exact ⟨_, C2.sub _ _ l, hfn _⟩
            have hnf' := hnf cc _ hlen
            rw [← hFn] at hnf'
            rw [ez] at C2
            have dl := da_gho I2 R2 C2 own hfr hlen hnf' hla hco qc
            exact run_maxK C hG hR I2 own R2.sub R2.tb hl hA dl qk qb fun v G' H' x hv => hq v G' H' (R2.ext x) ((sx1.trans sx2).trans (Sx.ext x)) hv
          · cases hf
    · cases hf
end
end DL
namespace DL
open PySem PySem.Spec PyProof.Rows L2 GX StX
end DL
namespace DL
open PySem PySem.Spec PyProof.Rows L2 GX StX
open PySem.W (dataLt dataLt_ii AlikeAll alike alikeAll)
end DL
namespace DL
open PySem PySem.Spec PyProof.Rows L2 GX StX PySem.Calls
end DL
namespace DL
open PySem PySem.Spec PyProof.Rows L2 GX StX PySem.Calls
variable [DL.FT]
def keyOf (es : List PyData) : Option NestedKey := match keyD (.tuple es) with
  | some k => if decide (NestedKey.depth k ≤ 8) = true then some k else none
  | none => none
theorem keyOf_is {es : List PyData} {k : NestedKey} (h : keyOf es = some k) : keyD (.tuple es) = some k ∧ NestedKey.depth k ≤ 8 := by
  unfold keyOf at h
  split at h
  · rename_i k' e
    split at h
    · rename_i z
      cases h
      exact ⟨e, of_decide_eq_true z⟩
    · cases h
  · cases h
end DL
namespace DL
open PySem PySem.Spec PyProof.Rows L2 GX StX PySem.Calls
end DL
namespace DL
open PySem PySem.Spec PyProof.Rows L2 GX StX PySem.Calls
end DL
namespace DL
open PySem PySem.Spec PyProof.Rows L2
/-- what set() lays before it is filled -/
abbrev eSet (w : World) : Obj := { cls := .type "set", dict := none, data := .set #[] 0 (.fresh 0 0 (!w.params.followText "set-order")) }
section
variable {P : Program} {w : World} {A : Around} {E : Value → Shared → Prop} {s : Shared}
/-- texts, each once -/
def ddS (xs : List Str) : List Str := xs.foldl (fun a x => if a.any (· == x) = true then a else a ++ [x]) []
theorem ddS_snoc (xs : List Str) (x : Str) : ddS (xs ++ [x]) = if (ddS xs).any (· == x) = true then ddS xs else ddS xs ++ [x] := by unfold ddS; rw [List.foldl_append]; rfl
theorem ddS_le (xs : List Str) : (ddS xs).length ≤ xs.length := by
  have z : ∀ (l a : List Str), (l.foldl (fun a x => if a.any (· == x) = true then a else a ++ [x]) a).length ≤ a.length + l.length := by
    intro l
    induction l with
    | nil => intro a; exact Nat.le_refl _
    | cons x l ih =>
      intro a
      refine Nat.le_trans (ih _) ?_
      show (if a.any (· == x) = true then a else a ++ [x]).length + l.length ≤ _
      by_cases c : a.any (· == x) = true
      · rw [if_pos c, List.length_cons]; omega
      · rw [if_neg c, List.length_append, List.length_cons, List.length_cons, List.length_nil]; omega
  have q := z xs []
  rw [List.length_nil, Nat.zero_add] at q
  exact q
theorem setOf_same {P : Program} {w : World} {h : Heap} {a : Addr} {S S' : Str → Bool} {n n' : Nat} (x : h.SetOf (PySem.strKind P w) a S n) (e : ∀ k, S k = S' k) (en : n = n') : h.SetOf (PySem.strKind P w) a S' n' := by
  obtain rfl : S = S' := funext e
  subst en; exact x
theorem setOf_keep {P : Program} {w : World} {h h' : Heap} {a : Addr} {S : Str → Bool} {n : Nat} (x : h.SetOf (PySem.strKind P w) a S n) (k : ∀ o, h.get? a = some o → h'.get? a = some o) : h'.SetOf (PySem.strKind P w) a S n := by
  obtain ⟨o, es, ep, t, ho, r⟩ := x
  exact ⟨o, es, ep, t, k o ho, r⟩
end
def SetS (P : Program) (w : World) (a : Addr) (S : Str → Bool) (n : Nat) : HO := .ext fun h => h.SetOf (PySem.strKind P w) a S n
theorem setS_new {w : World} {P : Program} {H : Hp} {h : Heap} {a : Addr} {S : Str → Bool} {n : Nat} (R : h.SetOf (PySem.strKind P w) a S n) : ObjOk P w H h a (SetS P w a S n) := by
  have ⟨o, _, _, _, ho, _⟩ := R
  exact ⟨R, ⟨o, ho⟩, fun h1 h2 p k => setOf_keep p k⟩
section
variable {X : Cx}
def rLenS (P : Program) (w : World) : List V → Hp → VK → Prop := fun vs H Q => ∃ (a : Addr) (S : Str → Bool) (n : Nat), vs = [.ref a] ∧ H a = some (SetS P w a S n) ∧ Q (.int (n : Nat)) H
theorem cr_lenS : CallR X (.builtin "len") (rLenS X.prog X.w) := by
  intro pins s σ H vs us Q I r h
  obtain ⟨a, S, n, rfl, ha, k⟩ := h
  have hS : s.heap.SetOf (PySem.strKind X.prog X.w) a S n := (I.hok a _ ha).1
  rw [Vals.ref1 r]
  obtain ⟨o, es, ep, t, ho, hex, hd, _, _, hb, hf, hn⟩ := hS
  exact call_len_set ho hex hd hf (by unfold scanBound at hb; omega) ⟨.int n, H, I.tok _, ⟨_, by rw [hn]⟩, k⟩
end
end DL
namespace DL
open PySem PySem.Spec PyProof.Rows L2 GX StX PySem.Calls
variable [DL.FT]
def insI (x : Int) : List Int → List Int
  | [] => [x]
  | y :: ys => if x < y then x :: y :: ys else if x = y then y :: ys else y :: insI x ys
def srtI (l : List Int) : List Int := l.foldr insI []
section
variable {X : Cx}
def fLenSet (f : GF) : EF := fun ρ => match f ρ with
  | some (a, ρ1) => (match look ρ1 a with
    | some (.list es) => (match BX.strsOf es with
      | some xs => if xs.length ≤ 4000 then some (.int ((ddS xs).length : Nat), ρ1) else none
      | none => none)
    | _ => none)
  | none => none
def fSortSet (f : GF) : LF := fun ρ => match f ρ with
  | some (a, ρ1) => (match look ρ1 a with
    | some (.list es) => (match intsOf es with
      | some xs => if xs.length < 64 then some ((srtI xs).map PyData.int, ρ1) else none
      | none => none)
    | _ => none)
  | none => none
end
end DL
namespace BX
open PySem PySem.Spec PyProof.Rows L2 GX StX DL
end BX
namespace DL
open PySem PySem.Spec PyProof.Rows L2 GX StX PySem.Calls BX
variable [DL.FT]
section
variable {X : Cx}
/-- tuple(box[0]) -/
def fTupB (i : Nat) : EF := fun ρ => match ρ[i]? with
  | some (.own _ (.b _ _ _ ss _)) => some (.tuple (ss.map PyData.int), ρ)
  | _ => none
end
end DL
namespace DL
open PySem PySem.Spec PyProof.Rows L2 GX StX PySem.Calls BX
end DL
namespace DL
open PySem PySem.Spec PyProof.Rows L2 GX StX PySem.Calls
variable [DL.FT]
variable {X : Cx}
def fTru (f : GF) : TF := fun ρ => match f ρ with
  | some (a, ρ1) => (match look ρ1 a with
    | some (.list ds) => some (!ds.isEmpty, ρ1)
    | some (.tuple ds) => some (!ds.isEmpty, ρ1)
    | _ => none)
  | none => none
end DL
namespace DL
open PySem PySem.Spec PyProof.Rows L2 GX StX PySem.Calls
end DL
namespace DL
open PySem PySem.Spec PyProof.Rows L2 GX StX PySem.Calls
end DL
namespace DL
open PySem PySem.Spec PyProof.Rows L2 GX StX PySem.Calls
end DL
namespace DL
open PySem PySem.Spec PyProof.Rows L2 GX StX NdefX
end DL
namespace DL
open PySem PySem.Spec PyProof.Rows L2 GX StX
end DL
namespace DL
open PySem PySem.Spec PyProof.Rows L2 GX StX
end DL
namespace DL
open PySem PySem.Spec PyProof.Rows L2 GX StX DL PySem.Calls
end DL
namespace DL
open PySem PySem.Spec PyProof.Rows L2 GX StX PySem.Calls
end DL
namespace DL
open PySem PySem.Spec PyProof.Rows L2 GX StX PySem.Calls
end DL
namespace BK
open PySem PySem.Spec PyProof.Rows L2 GX StX DL
variable [DL.FT]
def ov : Option Key → V
  | none => .non
  | some s => kV s
structure Bx (H : Hp) (b p q : Addr) (rs : List Addr) (ss : List Int) (ls : List (List (Option Key))) : Prop where
  hb : H b = some (.lst [.ref p, .ref q])
  hp : H p = some (.lst (ss.map V.int))
  hq : H q = some (.lst (rs.map V.ref))
  hr : ∀ (k : Nat) (r : Addr) (l : List (Option Key)), rs[k]? = some r → ls[k]? = some l → H r = some (.lst (l.map ov))
  l1 : rs.length = ls.length
  l2 : ss.length = ls.length
  nd : (b :: p :: q :: rs).Nodup
theorem Bx.lists {H : Hp} {b p q : Addr} {rs : List Addr} {ss : List Int} {ls : List (List (Option Key))} (B : Bx H b p q rs ss ls) {c : Addr} (h : c ∈ b :: p :: q :: rs) : ∃ xs, H c = some (.lst xs) := by
  simp only [List.mem_cons] at h
  rcases h with rfl | rfl | rfl | h
  · exact ⟨_, B.hb⟩
  · exact ⟨_, B.hp⟩
  · exact ⟨_, B.hq⟩
  · obtain ⟨k, hk, rfl⟩ := List.getElem_of_mem h
    have hk2 : k < ls.length := by rw [← B.l1]; exact hk
    exact ⟨_, B.hr k _ _ (List.getElem?_eq_getElem hk) (List.getElem?_eq_getElem hk2)⟩
theorem Bx.as {H H' : Hp} {b p q : Addr} {rs : List Addr} {ss : List Int} {ls : List (List (Option Key))} (B : Bx H b p q rs ss ls) (e : ∀ c ∈ b :: p :: q :: rs, H' c = H c) : Bx H' b p q rs ss ls :=
  ⟨(e b (by simp)).trans B.hb, (e p (by simp)).trans B.hp, (e q (by simp)).trans B.hq, fun k r l h1 h2 => (e r (by simp [List.mem_of_getElem? h1])).trans (B.hr k r l h1 h2), B.l1, B.l2, B.nd⟩
/-- all but these are as they were -/
def Fr (as : List Addr) (H H' : Hp) : Prop := ∀ c o, c ∉ as → H c = some o → H' c = some o
theorem Fr.refl (as : List Addr) (H : Hp) : Fr as H H := fun _ _ _ h => h
theorem Fr.trans {as : List Addr} {H H1 H2 : Hp} (a : Fr as H H1) (b : Fr as H1 H2) : Fr as H H2 := fun c o n h => b c o n (a c o n h)
theorem sqT_fr {K : PySem.W.Frag} {as : List Addr} {H H' : Hp} {a : Addr} {xs : List V} (h : SqT K H a xs) (f : Fr as H H') (l : ∀ c ∈ as, ∃ ys, H c = some (.lst ys)) : SqT K H' a xs := by
  rcases h with (h | ⟨o, h⟩) | h
  · refine .inl (.inl (f _ _ (fun n => ?_) h))
    obtain ⟨ys, e⟩ := l a n
    rw [h] at e; cases e
  · refine .inl (.inr ⟨o, f _ _ (fun n => ?_) h⟩)
    obtain ⟨ys, e⟩ := l a n
    rw [h] at e; cases e
  · exact .inr h
/-- the row of a table at a state -/
structure Tb (K : PySem.W.Frag) (H : Hp) (t : Addr) (st v a : Int) (hs : List Int) : Prop where
  ex : ∃ (x : V) (rows row hh : Addr) (xs : List V), SqT K H t [x, .ref rows] ∧ SqT K H rows xs ∧ atI xs st = some (.ref row) ∧ SqT K H row [.int v, .int a, .ref hh] ∧ SqT K H hh (hs.map V.int)
theorem Bx.fresh {H : Hp} {b p q : Addr} {rs : List Addr} {ss : List Int} {ls : List (List (Option Key))} (B : Bx H b p q rs ss ls) {r : Addr} {o : HO} (n : H r = none) : Bx (upd H r o) b p q rs ss ls := by
  have ne : ∀ c ∈ b :: p :: q :: rs, c ≠ r := fun c hc e => by
    obtain ⟨xs, h⟩ := B.lists hc
    rw [e, n] at h
    cases h
  refine ⟨?_, ?_, ?_, fun k s l h1 h2 => ?_, B.l1, B.l2, B.nd⟩
  · rw [upd_ne (ne b (by simp))]; exact B.hb
  · rw [upd_ne (ne p (by simp))]; exact B.hp
  · rw [upd_ne (ne q (by simp))]; exact B.hq
  · rw [upd_ne (ne s (by simp [List.mem_of_getElem? h1]))]; exact B.hr k s l h1 h2
structure Post (H H' : Hp) (b p q : Addr) (rs : List Addr) (ss' : List Int) (ls' : List (List (Option Key))) (r : Addr) (ys : List V) : Prop where
  bx : Bx H' b p q rs ss' ls'
  new : H r = none
  at_ : H' r = some (.lst ys)
  fr : Fr (b :: p :: q :: rs) H H'
  up : ∀ c, H c ≠ none → H' c ≠ none
end BK
namespace BK
open PySem PySem.Spec PyProof.Rows L2 GX StX DL
variable [DL.FT]
abbrev Ls : Type := List (Option Key)
structure PostA (H H' : Hp) (b p q : Addr) (rs : List Addr) (ss' : List Int) (ls' : List Ls) : Prop where
  bx : Bx H' b p q rs ss' ls'
  fr : Fr (b :: p :: q :: rs) H H'
  up : ∀ c, H c ≠ none → H' c ≠ none
theorem Post.a {H H' : Hp} {b p q : Addr} {rs : List Addr} {ss' : List Int} {ls' : List Ls} {r : Addr} {ys : List V} (h : Post H H' b p q rs ss' ls' r ys) : PostA H H' b p q rs ss' ls' := ⟨h.bx, h.fr, h.up⟩
theorem PostA.trans {H H1 H2 : Hp} {b p q : Addr} {rs : List Addr} {ss1 ss2 : List Int} {ls1 ls2 : List Ls} (x : PostA H H1 b p q rs ss1 ls1) (y : PostA H1 H2 b p q rs ss2 ls2) : PostA H H2 b p q rs ss2 ls2 := ⟨y.bx, x.fr.trans y.fr, fun c h => y.up c (x.up c h)⟩
theorem Tb.fr {K : PySem.W.Frag} {H H' : Hp} {t : Addr} {s v a : Int} {hs : List Int} {as : List Addr} (T : Tb K H t s v a hs) (f : Fr as H H') (l : ∀ c ∈ as, ∃ ys, H c = some (.lst ys)) : Tb K H' t s v a hs := by
  obtain ⟨x, rows, row, hh, xs, q1, q2, e, q3, q4⟩ := T
  exact ⟨x, rows, row, hh, xs, sqT_fr q1 f l, sqT_fr q2 f l, e, sqT_fr q3 f l, sqT_fr q4 f l⟩
end BK
namespace BK
open PySem PySem.Spec PyProof.Rows L2 GX StX DL
variable [DL.FT]
section
variable {K : PySem.W.Frag} {H : Hp} {D : Ends} {rg b p q r0 r1 t1 t2 : Addr} {mode : Str} {w : Key} {ss : List Int} {l0 l1 : Ls}
theorem Bx.same {b p q : Addr} {rs : List Addr} {ss : List Int} {ls : List Ls} {H' : Hp} (B : Bx H b p q rs ss ls) (f : Fr [] H H') : Bx H' b p q rs ss ls :=
  ⟨f _ _ (by simp) B.hb, f _ _ (by simp) B.hp, f _ _ (by simp) B.hq, fun k r l h1 h2 => f _ _ (by simp) (B.hr k r l h1 h2), B.l1, B.l2, B.nd⟩
end
end BK
namespace BK
open PySem PySem.Spec PyProof.Rows L2 GX StX DL
variable [DL.FT]
theorem Fr.free {H H' : Hp} (f : Fr [] H H') {c : Addr} (h : H' c = none) : H c = none := by
  cases e : H c with
  | none => rfl
  | some o => rw [f c o (by simp) e] at h; cases h
theorem Fr.ne {H : Hp} {c d : Addr} {o : HO} (h : H c = none) (g : H d = some o) : c ≠ d := fun z => by rw [z, g] at h; cases h
end BK
namespace BK
open PySem PySem.Spec PyProof.Rows L2 GX StX DL
variable [DL.FT]
theorem Bx.off {H : Hp} {b p q : Addr} {rs : List Addr} {ss : List Int} {ls : List Ls} (B : Bx H b p q rs ss ls) {D : Addr} {o : HO} (ne : ∀ c ∈ b :: p :: q :: rs, c ≠ D) : Bx (upd H D o) b p q rs ss ls := by
  refine ⟨?_, ?_, ?_, fun k s l h1 h2 => ?_, B.l1, B.l2, B.nd⟩
  · rw [upd_ne (ne b (by simp))]; exact B.hb
  · rw [upd_ne (ne p (by simp))]; exact B.hp
  · rw [upd_ne (ne q (by simp))]; exact B.hq
  · rw [upd_ne (ne s (by simp [List.mem_of_getElem? h1]))]; exact B.hr k s l h1 h2
end BK
namespace BK
open PySem PySem.Spec PyProof.Rows L2 GX StX DL
variable [DL.FT]
structure Dev (K : PySem.W.Frag) (H : Hp) (u : Addr) (ts : List Addr) (ns : List Nat) : Prop where
  sq : ∃ x, SqT K H u (x :: ts.map V.ref)
  ln : ts.length = ns.length
  at_ : ∀ (i : Nat) (t : Addr) (n : Nat), ts[i]? = some t → ns[i]? = some n → ∃ w, SqT K H t [.int (n : Nat), w]
theorem Dev.keep {K : PySem.W.Frag} {H H' : Hp} {u : Addr} {ts : List Addr} {ns : List Nat} {as : List Addr} (h : Dev K H u ts ns) (f : Fr as H H') (l : ∀ c ∈ as, ∃ ys, H c = some (.lst ys)) : Dev K H' u ts ns := by
  obtain ⟨x, sq⟩ := h.sq
  exact ⟨⟨x, sqT_fr sq f l⟩, h.ln, fun i t n h1 h2 => by
    obtain ⟨w, q⟩ := h.at_ i t n h1 h2
    exact ⟨w, sqT_fr q f l⟩⟩
end BK
namespace BK
open PySem PySem.Spec PyProof.Rows L2 GX StX DL
variable [DL.FT]
/-- what was made is frozen -/
theorem freeze {G H0 H : Hp} (as : List Addr) (sm : Same G H0) (f : Fr [] H0 H) (nw : ∀ a ∈ as, H0 a = none ∧ ∃ xs, H a = some (.lst xs)) : ∃ G', Xt G H0 G' H ∧ ∀ a ∈ as, G' a = H a := by
  have s1 : Same H0 H := fun b o e => f b o (by simp) e
  have gn : ∀ a ∈ as, G a = none := fun a ha => by
    cases q : G a with
    | none => rfl
    | some o => have := sm a o q; rw [(nw a ha).1] at this; cases this
  have gg : Same G (fun a => if a ∈ as then H a else G a) := fun b o e => by
    show (if b ∈ as then H b else G b) = some o
    rw [if_neg (fun m => by rw [gn b m] at e; cases e)]
    exact e
  refine ⟨fun a => if a ∈ as then H a else G a, ⟨fun b o e _ => s1 b o e, fun b h z => h (Same.free s1 z), fun t => ?_, fun b o e => ?_, gg, fun b h => ?_⟩, fun a ha => if_pos ha⟩
  · refine t.step gg fun P ps h1 h2 => ⟨?_, s1 _ _ h1⟩
    show (if P ∈ as then H P else G P) = none
    rw [if_neg (fun m => by rw [(nw P m).1] at h1; cases h1)]
    exact h2
  · have e : (if b ∈ as then H b else G b) = some o := e
    split at e
    · exact e
    · exact s1 b o (sm b o e)
  · have h : (if b ∈ as then H b else G b) ≠ none := h
    split at h
    · rename_i m
      exact .inr (nw b m).1
    · exact .inl h
end BK
namespace DL
open PySem PySem.Spec PyProof.Rows L2 GX StX
end DL
namespace BK
open PySem PySem.Spec PyProof.Rows L2 GX StX DL
variable [DL.FT]
abbrev Wb : Type := List (List PyData × List PyData)
structure KW (w : World) (K : PySem.W.Frag) (G0 H0 G H : Hp) (r O : Addr) (S : Wb) (xs : KX) (ps : List Addr) : Prop where
  xt : Xt G0 H0 G H
  tb : TbG G H
  dic : H r = some (.ext (DicP w r xs))
  ord : H O = some (.lst (xs.map fun x => V.ref x.2.1))
  lx : xs.length = S.length
  lp : ps.length = S.length
  row : ∀ (i : Nat) (es eg : List PyData), S[i]? = some (es, eg) → ∃ (k : NestedKey) (a p : Addr) (vs : List V), xs[i]? = some (k, a, .ref p) ∧ keyOf es = some k ∧ Da K G (.ref a) (.tuple es) ∧ ps[i]? = some p ∧ H p = some (.lst vs) ∧ DaA K G vs eg
  nd : (r :: O :: ps).Nodup
  ky : (xs.map (·.1)).Nodup
  nw : ∀ c ∈ r :: O :: ps, H0 c = none ∧ G c = none
section
variable {w : World} {K : PySem.W.Frag} {G0 H0 G H G' H' : Hp} {r O : Addr} {S : Wb} {xs : KX} {ps : List Addr}
theorem KW.live (W : KW w K G0 H0 G H r O S xs ps) {c : Addr} (h : c ∈ r :: O :: ps) : ∃ o, H c = some o ∧ NoT o := by
  simp only [List.mem_cons] at h
  rcases h with rfl | rfl | h
  · exact ⟨_, W.dic, fun _ z => nomatch z⟩
  · exact ⟨_, W.ord, fun _ z => nomatch z⟩
  · obtain ⟨i, hi⟩ := List.mem_iff_getElem?.mp h
    have il : i < S.length := by rw [← W.lp]; exact (List.getElem?_eq_some_iff.mp hi).1
    obtain ⟨k, a, p, vs, _, _, _, hp, e, _⟩ := W.row i S[i].1 S[i].2 (List.getElem?_eq_getElem il)
    rw [hi] at hp
    cases hp
    exact ⟨_, e, fun _ z => nomatch z⟩
theorem KW.call (W : KW w K G0 H0 G H r O S xs ps) (x : Xt G H G' H') : KW w K G0 H0 G' H' r O S xs ps := by
  refine ⟨W.xt.trans x, x.tt W.tb, x.hh _ _ W.dic (fun _ z => nomatch z), x.hh _ _ W.ord (fun _ z => nomatch z), W.lx, W.lp, fun i es eg h => ?_, W.nd, W.ky, fun c hc => ⟨(W.nw c hc).1, ?_⟩⟩
  · obtain ⟨k, a, p, vs, h1, h2, h3, h4, h5, h6⟩ := W.row i es eg h
    exact ⟨k, a, p, vs, h1, h2, h3.same x.gg, h4, x.hh _ _ h5 (fun _ z => nomatch z), h6.same x.gg⟩
  · cases q : G' c with
    | none => rfl
    | some o =>
      obtain ⟨o', e, _⟩ := W.live hc
      rcases x.nw c (by rw [q]; simp) with z | z
      · exact (z (W.nw c hc).2).elim
      · rw [e] at z; cases z
/-- a key more -/
theorem KW.key (W : KW w K G0 H0 G H r O S xs ps) {q a : Addr} {k : NestedKey} {es : List PyData} (nq : H q = none) (hk : keyOf es = some k) (da : Da K G (.ref a) (.tuple es)) (nk : k ∉ xs.map (·.1)) : KW w K G0 H0 G (upd (upd (upd H q (.lst [])) r (.ext (DicP w r (xs ++ [(k, a, .ref q)])))) O (.lst ((xs.map fun x => V.ref x.2.1) ++ [.ref a]))) r O (S ++ [(es, [])]) (xs ++ [(k, a, .ref q)]) (ps ++ [q]) := by
  have nd := W.nd
  simp only [List.nodup_cons, List.mem_cons, not_or] at nd
  obtain ⟨⟨rO, rp⟩, Op, ndp⟩ := nd
  have off : ∀ c ∈ r :: O :: ps, c ≠ q := fun c hc z => by
    obtain ⟨o, e, _⟩ := W.live hc
    rw [z, nq] at e; cases e
  have qr : q ≠ r := Ne.symm (off r (by simp))
  have qO : q ≠ O := Ne.symm (off O (by simp))
  have q0 : H0 q = none := by
    cases z : H0 q with
    | none => rfl
    | some o => exact (W.xt.al q (by rw [z]; simp) nq).elim
  have gq : G q = none := Same.free W.xt.gh nq
  have nr := W.nw r (by simp)
  have nO := W.nw O (by simp)
  have there : ∀ c, c ≠ q → c ≠ r → c ≠ O → upd (upd (upd H q (.lst [])) r (.ext (DicP w r (xs ++ [(k, a, .ref q)])))) O (.lst ((xs.map fun x => V.ref x.2.1) ++ [.ref a])) c = H c := fun c h1 h2 h3 => by rw [upd_ne h3, upd_ne h2, upd_ne h1]
  have keep : ∀ b o, H0 b = some o → b ≠ q ∧ b ≠ r ∧ b ≠ O := fun b o e => ⟨fun z => (by rw [z, q0] at e; cases e), fun z => (by rw [z, nr.1] at e; cases e), fun z => (by rw [z, nO.1] at e; cases e)⟩
  have tb' : TbG G (upd (upd (upd H q (.lst [])) r (.ext (DicP w r (xs ++ [(k, a, .ref q)])))) O (.lst ((xs.map fun x => V.ref x.2.1) ++ [.ref a]))) := W.tb.step (Same.refl _) fun P qs h1 h2 => ⟨h2, by
    rw [there P (fun z => by rw [z, nq] at h1; cases h1) (fun z => by rw [z, W.dic] at h1; cases h1) (fun z => by rw [z, W.ord] at h1; cases h1)]
    exact h1⟩
  refine ⟨⟨fun b o e t => ?_, fun b e z => ?_, fun t => tb', fun b o e => ?_, W.xt.gg, W.xt.nw⟩, tb', ?_, ?_, ?_, ?_, fun j es' eg' hj => ?_, ?_, ?_, fun c hc => ?_⟩
  · obtain ⟨b1, b2, b3⟩ := keep b o e
    rw [there b b1 b2 b3]
    exact W.xt.hh b o e t
  · cases q2 : H0 b with
    | none => exact e q2
    | some o =>
      obtain ⟨b1, b2, b3⟩ := keep b o q2
      rw [there b b1 b2 b3] at z
      exact W.xt.al b e z
  · rw [there b (fun z => by rw [z, gq] at e; cases e) (fun z => by rw [z, nr.2] at e; cases e) (fun z => by rw [z, nO.2] at e; cases e)]
    exact W.xt.gh b o e
  · rw [upd_ne rO, upd_same]
  · rw [upd_same, List.map_append]; rfl
  · rw [List.length_append, List.length_append, W.lx]; rfl
  · rw [List.length_append, List.length_append, W.lp]; rfl
  · by_cases c : j < S.length
    · rw [List.getElem?_append_left c] at hj
      obtain ⟨k', a', p', vs', h1, h2, h3, h4, h5, h6⟩ := W.row j es' eg' hj
      have pm := List.mem_of_getElem? h4
      refine ⟨k', a', p', vs', ?_, h2, h3, ?_, ?_, h6⟩
      · rw [List.getElem?_append_left (by rw [W.lx]; exact c)]; exact h1
      · rw [List.getElem?_append_left (by rw [W.lp]; exact c)]; exact h4
      · rw [there p' (off p' (by simp [pm])) (fun z => rp (z ▸ pm)) (fun z => Op (z ▸ pm))]
        exact h5
    · rw [List.getElem?_append_right (by omega)] at hj
      have j0 : j - S.length = 0 := by
        cases z : j - S.length with
        | zero => rfl
        | succ m => rw [z] at hj; simp at hj
      rw [j0] at hj
      cases hj
      have ej : j = S.length := by omega
      refine ⟨k, a, q, [], ?_, hk, da, ?_, ?_, .nil⟩
      · rw [List.getElem?_append_right (by rw [W.lx]; omega), W.lx, j0]; rfl
      · rw [List.getElem?_append_right (by rw [W.lp]; omega), W.lp, j0]; rfl
      · rw [upd_ne qO, upd_ne qr, upd_same]
  · simp only [List.nodup_cons, List.mem_cons, List.mem_append, List.mem_singleton, not_or, List.not_mem_nil, or_false]
    refine ⟨⟨rO, rp, Ne.symm qr⟩, ⟨Op, Ne.symm qO⟩, List.nodup_append.mpr ⟨ndp, by simp, fun x hx y hy => ?_⟩⟩
    rw [List.mem_singleton.mp hy]
    exact off x (by simp [hx])
  · rw [List.map_append]
    refine List.nodup_append.mpr ⟨W.ky, by simp, fun x hx y hy => ?_⟩
    simp at hy
    rw [hy]
    exact fun z => nk (z ▸ hx)
  · simp only [List.mem_cons, List.mem_append, List.mem_singleton, List.not_mem_nil, or_false] at hc
    rcases hc with rfl | rfl | hc | rfl
    · exact nr
    · exact nO
    · exact W.nw c (by simp [hc])
    · exact ⟨q0, gq⟩
end
end BK
namespace BK
open PySem PySem.Spec PyProof.Rows L2 GX StX DL
variable [DL.FT]
theorem daA_of {K : PySem.W.Frag} {G : Hp} : ∀ (vs : List V) (ds : List PyData), vs.length = ds.length → (∀ (i : Nat) (v : V) (d : PyData), vs[i]? = some v → ds[i]? = some d → Da K G v d) → DaA K G vs ds
  | [], [], _, _ => .nil
  | [], _ :: _, h, _ => by cases h
  | _ :: _, [], h, _ => by cases h
  | v :: vs, d :: ds, h, g => .cons (g 0 v d rfl rfl) (daA_of vs ds (Nat.succ.inj h) fun i v d h1 h2 => g (i + 1) v d h1 h2)
theorem keyDs_of : ∀ (ds : List PyData) (ks : List NestedKey), ds.length = ks.length → (∀ (i : Nat) (d : PyData) (k : NestedKey), ds[i]? = some d → ks[i]? = some k → keyD d = some k) → keyDs ds = some ks
  | [], [], _, _ => rfl
  | [], _ :: _, h, _ => by cases h
  | _ :: _, [], h, _ => by cases h
  | d :: ds, k :: ks, h, g => by
    unfold keyDs
    rw [g 0 d k rfl rfl, keyDs_of ds ks (Nat.succ.inj h) fun i d k h1 h2 => g (i + 1) d k h1 h2]
theorem KW.done {w : World} {K : PySem.W.Frag} {G0 H0 G H : Hp} {r O : Addr} {S : Wb} {xs : KX} {ps : List Addr} (W : KW w K G0 H0 G H r O S xs ps) (hw : FT.wd = some w) (od : Obj) :
    ∃ G', Xt G0 H0 G' (upd H r (.frz od (.ext (DicP w r xs)))) ∧ TbG G' (upd H r (.frz od (.ext (DicP w r xs)))) ∧ Da K G' (.ref r) (fdD (S.map fun x => .tuple x.1) (S.map fun x => .list x.2)) := by
  have nd := W.nd
  simp only [List.nodup_cons, List.mem_cons, not_or] at nd
  obtain ⟨⟨rO, rp⟩, Op, ndp⟩ := nd
  let G' : Hp := fun c => if c ∈ ps then H c else if c = r then some (.frz od (.ext (DicP w r xs))) else G c
  have gr : G' r = some (.frz od (.ext (DicP w r xs))) := by
    show (if r ∈ ps then H r else if r = r then _ else G r) = _
    rw [if_neg rp, if_pos rfl]
  have gp : ∀ p ∈ ps, G' p = H p := fun p hp => if_pos hp
  have sG : Same G G' := fun b o e => by
    show (if b ∈ ps then H b else if b = r then _ else G b) = some o
    rw [if_neg (fun m => by rw [(W.nw b (by simp [m])).2] at e; cases e), if_neg (fun z => by rw [z, (W.nw r (by simp)).2] at e; cases e)]
    exact e
  have sH : Same G' (upd H r (.frz od (.ext (DicP w r xs)))) := fun b o e => by
    have e : (if b ∈ ps then H b else if b = r then some (.frz od (.ext (DicP w r xs))) else G b) = some o := e
    split at e
    · rename_i m
      rw [upd_ne (fun z : b = r => rp (z ▸ m))]
      exact e
    · split at e
      · rename_i z
        rw [z, upd_same]
        exact e
      · rename_i n1 n2
        rw [upd_ne n2]
        exact W.xt.gh b o e
  have tb' : TbG G' (upd H r (.frz od (.ext (DicP w r xs)))) := W.tb.step sG fun P qs h1 h2 => by
    have Pr : P ≠ r := fun z => by rw [z, W.dic] at h1; cases h1
    refine ⟨?_, by rw [upd_ne Pr]; exact h1⟩
    show (if P ∈ ps then H P else if P = r then _ else G P) = none
    rw [if_neg (fun m => by
      obtain ⟨o, e, nt⟩ := W.live (c := P) (by simp [m])
      rw [e] at h1
      exact nt qs (Option.some.inj h1)), if_neg Pr]
    exact h2
  refine ⟨G', ⟨fun b o e t => ?_, fun b e z => ?_, fun _ => tb', sH, W.xt.gg.trans sG, fun b h => ?_⟩, tb', ?_⟩
  · rw [upd_ne (fun z => by rw [z, (W.nw r (by simp)).1] at e; cases e)]
    exact W.xt.hh b o e t
  · by_cases c : b = r
    · rw [c, upd_same] at z; cases z
    · rw [upd_ne c] at z; exact W.xt.al b e z
  · have h : (if b ∈ ps then H b else if b = r then some (.frz od (.ext (DicP w r xs))) else G b) ≠ none := h
    split at h
    · rename_i m
      exact .inr (W.nw b (by simp [m])).1
    · split at h
      · rename_i z
        rw [z]
        exact .inr (W.nw r (by simp)).1
      · exact W.xt.nw b h
  · have at_ : ∀ (i : Nat) (x : NestedKey × Addr × V), xs[i]? = some x → ∃ es eg, S[i]? = some (es, eg) := fun i x h => by
      have il : i < S.length := by rw [← W.lx]; exact (List.getElem?_eq_some_iff.mp h).1
      exact ⟨S[i].1, S[i].2, List.getElem?_eq_getElem il⟩
    refine .dct hw gr ?_ ?_ ?_ ?_
    · refine daA_of _ _ (by rw [List.length_map, List.length_map, W.lx]) fun i v d h1 h2 => ?_
      rw [List.getElem?_map] at h1 h2
      cases q : xs[i]? with
      | none => rw [q] at h1; cases h1
      | some x =>
        obtain ⟨es, eg, hs⟩ := at_ i x q
        obtain ⟨k, a, p, vs, g1, g2, g3, _⟩ := W.row i es eg hs
        rw [q] at g1 h1
        rw [hs] at h2
        cases g1; cases h1; cases h2
        exact g3.same sG
    · refine keyDs_of _ _ (by rw [List.length_map, List.length_map, W.lx]) fun i d k h1 h2 => ?_
      rw [List.getElem?_map] at h1 h2
      cases q : xs[i]? with
      | none => rw [q] at h2; cases h2
      | some x =>
        obtain ⟨es, eg, hs⟩ := at_ i x q
        obtain ⟨k, a, p, vs, g1, g2, _⟩ := W.row i es eg hs
        rw [q] at g1 h2
        rw [hs] at h1
        cases g1; cases h1; cases h2
        exact (keyOf_is g2).1
    · intro x hx
      obtain ⟨i, hi⟩ := List.mem_iff_getElem?.mp hx
      obtain ⟨es, eg, hs⟩ := at_ i x hi
      obtain ⟨k, a, p, vs, g1, g2, _⟩ := W.row i es eg hs
      rw [hi] at g1
      cases g1
      exact (keyOf_is g2).2
    · refine daA_of _ _ (by rw [List.length_map, List.length_map, W.lx]) fun i v d h1 h2 => ?_
      rw [List.getElem?_map] at h1 h2
      cases q : xs[i]? with
      | none => rw [q] at h1; cases h1
      | some x =>
        obtain ⟨es, eg, hs⟩ := at_ i x q
        obtain ⟨k, a, p, vs, g1, g2, g3, g4, g5, g6⟩ := W.row i es eg hs
        rw [q] at g1 h1
        rw [hs] at h2
        cases g1; cases h1; cases h2
        exact .lst ((gp p (List.mem_of_getElem? g4)).trans g5) (g6.same sG)
def wbHas (S : Wb) (k : NestedKey) : Bool := S.any fun x => decide (DL.keyOf x.1 = some k)
theorem KW.has {w : World} {K : PySem.W.Frag} {G0 H0 G H : Hp} {r O : Addr} {S : Wb} {xs : KX} {ps : List Addr} (W : KW w K G0 H0 G H r O S xs ps) (k : NestedKey) : wbHas S k = decide (k ∈ xs.map (·.1)) := by
  unfold wbHas
  rw [Bool.eq_iff_iff, List.any_eq_true, decide_eq_true_eq]
  constructor
  · rintro ⟨x, hx, e⟩
    obtain ⟨i, hi⟩ := List.mem_iff_getElem?.mp hx
    obtain ⟨k', a, p, vs, g1, g2, _⟩ := W.row i x.1 x.2 hi
    have e := of_decide_eq_true e
    rw [g2] at e
    cases e
    exact List.mem_map.mpr ⟨_, List.mem_of_getElem? g1, rfl⟩
  · intro h
    obtain ⟨x, hx, rfl⟩ := List.mem_map.mp h
    obtain ⟨i, hi⟩ := List.mem_iff_getElem?.mp hx
    have il : i < S.length := by rw [← W.lx]; exact (List.getElem?_eq_some_iff.mp hi).1
    obtain ⟨k', a, p, vs, g1, g2, _⟩ := W.row i S[i].1 S[i].2 (List.getElem?_eq_getElem il)
    rw [hi] at g1
    cases g1
    exact ⟨S[i], List.getElem_mem il, decide_eq_true g2⟩
end BK
namespace DL
open PySem PySem.Spec PyProof.Rows L2 GX StX PySem.Calls
end DL
namespace DL
open PySem PySem.Spec PyProof.Rows L2 GX StX PySem.Calls
variable [DL.FT]
def CalT (P : Program) (w : World) (K : PySem.W.Frag) (mg : Str → Option Value) (base : Heap) (k : Nat) (x : Str) (ps : List Str) (sp : Sp) : Prop :=
  ∃ f fd u, FnG P w K mg base k f fd ps sp ∧ mg x = some (.ref f) ∧ PySem.W.keepIn K (.ref f) = true ∧ RelV .non u ∧ Binds K fd ps [u]
theorem CalT.mono {P : Program} {w : World} {K : PySem.W.Frag} {mg : Str → Option Value} {base : Heap} {j k : Nat} {x : Str} {ps : List Str} {sp : Sp} (c : CalT P w K mg base j x ps sp) (h : j ≤ k) : CalT P w K mg base k x ps sp :=
  let ⟨f, fd, u, F, a, b, d, e⟩ := c
  ⟨f, fd, u, F.mono h, a, b, d, e⟩
def CalQ (P : Program) (w : World) (K : PySem.W.Frag) (mg : Str → Option Value) (base : Heap) (k : Nat) (x : Str) (ps : List Str) (n : Nat) (ks : List Str) (sp : Sp) : Prop :=
  ∃ f fd, FnG P w K mg base k f fd ps sp ∧ mg x = some (.ref f) ∧ PySem.W.keepIn K (.ref f) = true ∧ KBn K fd ps n ks (fun us ws => us ++ ws) (fun vs zs => vs ++ zs)
theorem CalQ.mono {P : Program} {w : World} {K : PySem.W.Frag} {mg : Str → Option Value} {base : Heap} {j k n : Nat} {x : Str} {ps ks : List Str} {sp : Sp} (c : CalQ P w K mg base j x ps n ks sp) (h : j ≤ k) : CalQ P w K mg base k x ps n ks sp :=
  let ⟨f, fd, F, a, b, d⟩ := c
  ⟨f, fd, F.mono h, a, b, d⟩
end DL
namespace DL
open PySem PySem.Spec PyProof.Rows L2 GX StX PySem.Calls
end DL
namespace DL
open PySem PySem.Spec PyProof.Rows L2 GX StX PySem.Calls
end DL
namespace DL
open PySem PySem.Spec PyProof.Rows L2 GX StX PySem.Calls
end DL
namespace DL
open PySem PySem.Spec PyProof.Rows L2 GX StX PySem.Calls
end DL
namespace DL
open PySem PySem.Spec PyProof.Rows L2 GX StX PySem.Calls
end DL
namespace DL
open PySem PySem.Spec PyProof.Rows L2
abbrev eIterT (l : Addr) : Obj := { cls := .type "tuple_iterator", data := .fields #[.ref l, .int 0 0] }
abbrev eHpT (w : World) (h : Heap) (l : Addr) : Heap := (h.push (eSet w)).push (eIterT l)
section
variable {P : Program} {w : World} {A : Around} {E : Value → Shared → Prop} {s : Shared}
/-- the filling loop, told by what it leaves -/
def FillsT (P : Program) (w : World) (s : Shared) (l : Addr) (items : Array Value) (Z : Heap → Prop) : Prop := ∀ (B : Around) (I : Addr) (St : Nat → Shared → Prop) (R : Result → Shared → Prop),
  I ≠ s.heap.objs.size → l ≠ s.heap.objs.size → WalksS P w B.in1 I [I, l] [I] (fun a b => b = a) items.size (fun i v => items[i]? = some v) St → St 0 { s with heap := eHpT w s.heap l } →
  (∀ t, Moved [s.heap.objs.size, I] (fun a b => b = a) { s with heap := eHpT w s.heap l } t → Z t.heap → R (.ok (.ret .none)) t) →
  codeAny (model P w) B (.builtin "set.update.loop" ⟨[.ref s.heap.objs.size, .ref I], []⟩) R { s with heap := eHpT w s.heap l }
set_option maxHeartbeats 8000000 in
theorem call_set_fillT {l : Addr} {items : Array Value} {Z : Heap → Prop} {Q : Value → Shared → Prop} (hd : A.handled = none) (ls : s.heap.IsTuple l items) (fil : FillsT P w s l items Z)
    (fin : ∀ (h' : Heap) (tk : Nat), Z h' → (∀ b o, s.heap.get? b = some o → h'.get? b = some o) → Q (.ref s.heap.objs.size) { s with heap := h', toks := tk }) : wpAny (model P w) A (call (.type "set") [.ref l]) Q E s := by
  obtain ⟨mr1, mr2, hmro⟩ := F.called_set.mro; have made0 := F.called_set.made; have sub0 := F.called_set.sub
  apply wpAny_call; apply codeAny_of_tree; show wpAny _ _ (callAny (.type "set") _) _ _ _
  apply wpAny_pure; refine ⟨Code.quiet_builtin _ (by decide +kernel), codeAny_builtin F.entry_type_call ?_⟩; rw [Around.under_plain (weight_type_call_type "set" [.ref l] []) rfl]
  have nt0 := F.called_set.notType; have cc0 := F.called_set.canCreate; have tc0 := F.typeCall_set_1 (.ref l)
  repeat (any_goals (first | assumption | wp_step))
  refine codeAny_mono (code_set_led1 (.ref l) (E := E) (Q₁ := fun ob sa => ob = .ref s.heap.objs.size ∧ sa = { s with heap := s.heap.push (eSet w) }) ⟨rfl, rfl⟩) fun rr sa hra => ?_
  cases rr with
  | error _ => exact hra
  | ok fl =>
    cases fl with
    | ret ob =>
      obtain ⟨rfl, rfl⟩ := hra
      have at0 : (s.heap.push (eSet w)).get? s.heap.objs.size = some (eSet w) := Heap.get?_push_size _ rfl
      have ty0 : Shared.TypeIs { s with heap := s.heap.push (eSet w) } (.ref s.heap.objs.size) "set" := ⟨_, at0, rfl⟩
      have lk0 := F.called_set.init.lookup; have bd0 := F.called_set.init.bind (.ref s.heap.objs.size)
      repeat (any_goals (first | assumption | wp_step))
      refine codeAny_mono (codeAny_call_builtin (R := wants (fun r sb => r = .none ∧ ∃ h' tk, sb = { s with heap := h', toks := tk } ∧ Z h' ∧ ∀ b o, s.heap.get? b = some o → h'.get? b = some o) E) F.called_set.init.plain F.entry_set_init (check_set_init_1 ty0 ?_)) fun rb sb hrb => ?_
      · obtain ⟨⟨oc, od, odt, osl⟩, gol, c1, nl, c2⟩ := ls
        simp only at c1 c2
        subst c1; subst c2
        have gl2 : (s.heap.push (eSet w)).get? l = some { cls := .type "tuple", dict := od, data := .seq items nl, slots := osl } := Heap.get?_push_of_some _ gol
        have sb1 := F.sub_tuple_set; have sb2 := F.sub_tuple_frozenset
        have ne0 : (Value.type "tuple" == Value.type "dict") = false := by decide
        have il : (s.heap.push (eSet w)).IsTuple l items := ⟨_, gl2, rfl, nl, rfl⟩
        unfold Builtin.«set.__init__»; unfold noKeywords; unfold Builtin.Frozenset.updateFrom
        generalize hit : pyIter = ITER
        wp_walk
        subst hit
        apply wpAny_pyIter_tuple il; apply wpAny_bind; apply wpAny_runValue
        have lt0 : l < s.heap.objs.size := Heap.lt_size gol
        have hn3 : A.in1.in1.in1.handled = none := by simp [hd]
        have sz1 : (s.heap.push (eSet w)).objs.size = s.heap.objs.size + 1 := Heap.size_push ..
        have nI : l ≠ (s.heap.push (eSet w)).objs.size := fun z => absurd lt0 (by rw [z, sz1]; exact Nat.not_lt.mpr (Nat.le_succ _))
        refine fil _ (s.heap.push (eSet w)).objs.size _ _ (by rw [sz1]; exact Nat.succ_ne_self _) (Nat.ne_of_lt lt0) (Walks.tuple hn3 _ l nI items).toS ⟨⟨_, Heap.get?_push_size _ rfl, rfl, rfl⟩, il.push _⟩ fun t mv zt => ?_
        obtain ⟨ht, gt, dt, tkt, ost⟩ := t
        obtain rfl : gt = s.gens := mv.gens
        obtain rfl : dt = s.drawn := mv.drawn
        obtain rfl : ost = s.os := mv.os
        apply wpAny_pure; show wpAny _ _ (ret Value.none) _ _ _
        refine wpAny_pure ⟨rfl, ht, tkt, rfl, zt, fun b o eb => ?_⟩
        have ltb : b < s.heap.objs.size := Heap.lt_size eb
        exact mv.heap b o (by simp only [List.mem_cons, List.not_mem_nil, or_false, not_or]; rw [sz1]; exact ⟨Nat.ne_of_lt ltb, Nat.ne_of_lt (Nat.lt_succ_of_lt ltb)⟩) (Heap.get?_push_of_some _ (Heap.get?_push_of_some _ eb))
      · cases rb with
        | error _ => exact hrb
        | ok fl2 =>
          cases fl2 with
          | ret r2 =>
            obtain ⟨rfl, h', tk, rfl, zz, kp⟩ := hrb
            repeat (any_goals (first | assumption | wp_step))
            exact fin _ _ zz kp
          | _ => exact hrb.elim
    | _ => exact hra.elim
theorem fills_strsT {l : Addr} {items : Array Value} {ns : List Str} (ht : StrsAre items.toList ns) (hb : ns.length + 1 < scanBound) :
    FillsT P w s l items fun h => h.SetOf (PySem.strKind P w) s.heap.objs.size (fun k => (ddS ns).any (· == k)) (ddS ns).length := by
  intro B I St R nI nl W st k
  have sz : items.size = ns.length := by have q := StrsAre.length ht; rwa [Array.length_toList] at q
  have nSw : s.heap.objs.size ∉ [I] := by simp only [List.mem_singleton]; exact Ne.symm nI
  have nSf : s.heap.objs.size ∉ [I, l] := by simp only [List.mem_cons, List.not_mem_nil, or_false, not_or]; exact ⟨Ne.symm nI, Ne.symm nl⟩
  have wid : ∀ b ∈ [I], b ∈ [s.heap.objs.size, I] := fun b hb => List.mem_cons_of_mem _ hb
  have go : ∀ (d i : Nat) (s1 : Shared), items.size - i = d → i ≤ items.size → St i s1 → s1.heap.SetOf (PySem.strKind P w) s.heap.objs.size (fun k => (ddS (ns.take i)).any (· == k)) (ddS (ns.take i)).length →
      (∀ t, Moved [s.heap.objs.size, I] (fun a b => b = a) s1 t → t.heap.SetOf (PySem.strKind P w) s.heap.objs.size (fun k => (ddS ns).any (· == k)) (ddS ns).length → R (.ok (.ret .none)) t) →
      codeAny (model P w) B (.builtin "set.update.loop" ⟨[.ref s.heap.objs.size, .ref I], []⟩) R s1 := by
    intro d
    induction d with
    | zero =>
      intro i s1 ed le st1 hS kk
      obtain rfl : i = items.size := by omega
      apply codeAny_builtin PyProof.Rows.F.entry_set_update_loop; rw [Around.under_plainId PyProof.Rows.F.plain_set_update_loop _]
      show wpAny _ B.in1 (pyNext (.ref I) >>= _) _ _ s1
      refine wpAny_bind (W.done s1 _ _ st1 fun t mv => ?_)
      show wpAny _ B.in1 (ret Value.none) _ _ t
      rw [sz, List.take_length] at hS
      exact wpAny_pure (kk t (mv.mono wid) (setOf_keep hS fun o e => mv.heap _ o nSw e))
    | succ d ih =>
      intro i s1 ed le st1 hS kk
      have li : i < items.size := by omega
      have li2 : i < ns.length := by omega
      apply codeAny_builtin PyProof.Rows.F.entry_set_update_loop; rw [Around.under_plainId PyProof.Rows.F.plain_set_update_loop _]
      show wpAny _ B.in1 (pyNext (.ref I) >>= _) _ _ s1
      refine wpAny_bind (W.item i s1 _ _ li st1 fun v t hv st2 mv => ?_)
      obtain ⟨tk, rfl⟩ := SS.strs_at ht i v (by rw [Array.getElem?_toList]; exact hv)
      have hS2 := setOf_keep hS (h' := t.heap) fun o e => mv.heap _ o nSw e
      generalize ex : ns.getD i Str.empty = x
      have ex2 : ns[i]? = some x := by rw [← ex, List.getD_eq_getElem?_getD, List.getElem?_eq_getElem li2]; rfl
      show wpAny _ B.in1 (holding [Value.str x tk] (setAdd s.heap.objs.size (.str x tk)) >>= _) _ _ t
      apply wpAny_bind; apply wpAny_holding; unfold setAdd; apply wpAny_holding
      refine wpAny_bind ((PySem.strKind P w).pyHash (k := x) (strKind_is _ _ _ _) ?_)
      have room : (ddS (ns.take i)).length + 1 < scanBound := by have := ddS_le (ns.take i); have := List.length_take_le i ns; omega
      refine wpAny_setAddHashed_of (knd := PySem.strKind P w) (s := { t with toks := t.toks + 1 }) (strKind_is _ _ _ _) rfl hS2 room fun h' sb hS3 => ?_
      have en : ns.take (i + 1) = ns.take i ++ [x] := by rw [List.take_add_one, ex2]; rfl
      have hS4 : h'.SetOf (PySem.strKind P w) s.heap.objs.size (fun k => (ddS (ns.take (i + 1))).any (· == k)) (ddS (ns.take (i + 1))).length := by
        rw [en, ddS_snoc]
        by_cases c : (ddS (ns.take i)).any (· == x) = true
        · rw [if_pos c]
          refine setOf_same hS3 (fun k => ?_) (if_pos c)
          by_cases e : k = x
          · subst e; rw [c]; rfl
          · rw [decide_eq_false e, Bool.or_false]
        · rw [if_neg c]
          refine setOf_same hS3 (fun k => ?_) (by rw [if_neg c, List.length_append]; rfl)
          rw [List.any_append]
          congr 1
          show decide (k = x) = ((x == k) || false)
          rw [Bool.or_false]
          by_cases e : k = x
          · subst e; simp
          · rw [decide_eq_false e]
            exact (by simpa [beq_iff_eq] using (fun h : x = k => e h.symm) : (x == k) = false).symm
      refine wpAny_pure ⟨plainId_quiet PyProof.Rows.F.plain_set_update_loop _, ih (i + 1) _ (by omega) li (W.frame _ t _ _ st2 (Nat.le_succ _) fun b hb o e => ?_) hS4 fun t2 mv2 hS5 => ?_⟩
      · rw [sb.2 b fun z => nSf (z ▸ hb)]; exact e
      · refine kk t2 (Moved.trans W.gtrans ((mv.mono wid).then_heap (Nat.le_succ _) fun b o nb e => ?_) mv2) hS5
        rw [sb.2 b fun z => nb (z ▸ List.mem_cons_self)]; exact e
  refine go items.size 0 _ rfl (Nat.zero_le _) st ?_ k
  exact ⟨_, #[], 0, _, Heap.get?_push_of_some _ (Heap.get?_push_size _ rfl), ⟨rfl, rfl, rfl⟩, rfl, fun e he => by simp at he, fun k => by simp [ddS], by decide, by rfl, rfl⟩
end
end DL
namespace DL
open PySem PySem.Spec PyProof.Rows L2 GX StX PySem.Calls
variable [DL.FT]
section
variable {X : Cx}
def rSetTS (K : PySem.W.Frag) (P : Program) (w : World) : List V → Hp → VK → Prop := fun vs H Q => ∃ (p : Addr) (ns : List Str), vs = [.ref p] ∧ SqT K H p (ns.map V.str) ∧ ns.length ≤ 4000 ∧
  ∀ (a : Addr), H a = none → Q (.ref a) (upd H a (SetS P w a (fun k => (ddS ns).any (· == k)) (ddS ns).length))
theorem cr_setTS (hc : X.calm = true) : CallR X (.type "set") (rSetTS X.K X.prog X.w) := by
  intro pins s σ H vs us Q I r h
  obtain ⟨p, ns, rfl, hq, hl, k⟩ := h
  obtain ⟨its, rv, ht, hz⟩ := I.tuple hq
  rw [Vals.ref1 r]
  have hl2 : s.heap.IsTuple p its.toArray := by
    obtain ⟨o, ho, hc, n, hd⟩ := ht
    first
      | exact ⟨o, ho, hc, n, hd⟩
      | exact ⟨o, ho, hc, hd, n⟩
  refine call_set_fillT (I.ok.hd hc) hl2 (fills_strsT (ns := ns) (by simpa using strsAre_of rv) (by unfold scanBound; omega)) fun h' tk hS kp => ?_
  exact ⟨.ref _, upd H s.heap.objs.size (SetS X.prog X.w s.heap.objs.size (fun k => (ddS ns).any (· == k)) (ddS ns).length), I.laid (t' := tk) kp (Nat.le_refl _) (setS_new hS), rfl, k _ (I.hok.fresh (Nat.le_refl _))⟩
def fLenSetZ (f : GF) : EF := fun ρ => match f ρ with
  | some (a, ρ1) => (match look ρ1 a with
    | some (.tuple es) => (match BX.strsOf es with
      | some xs => if xs.length ≤ 4000 then some (.int ((ddS xs).length : Nat), ρ1) else none
      | none => none)
    | _ => none)
  | none => none
/-- len(set(a tuple of texts)) -/
theorem de_lenSetZ {a : Expr} {f : GF} {p p2 q pos : Pos} (hc : X.calm = true) (hg : Gl X "len") (hm : X.mg "len" = none) (hg2 : Gl X "set") (hm2 : X.mg "set" = none) (ha : DG X a f)
    (na : starEach [a] X.env = (false, eval a X.env) :: starEach [] X.env := by rfl) : DE X (.Call (.Name "len" p) [.Call (.Name "set" p2) [a] [] q] [] pos) (fLenSetZ f) := by
  refine pe_imp (pe_callB cr_lenS hg hm (by decide +kernel) (pa_cons (pe_callTy (cr_setTS hc) hg2 hm2 (by decide +kernel) (pa_cons ha pa_nil na) (he := na)) pa_nil)) ?_
  rintro σ H Q ⟨G, ρ, ρ', d, R, hf, k⟩
  unfold fLenSetZ at hf
  split at hf
  · rename_i ag ρ1 e1
    split at hf
    · rename_i es e2
      split at hf
      · rename_i xs e3
        split at hf
        · rename_i le
          cases hf
          refine ⟨G, ρ, _, ag, R, e1, fun v G1 H1 R1 s1 q1 => ?_⟩
          obtain ⟨l, ys, rfl, hl, hA⟩ := bo_tup (look_bo R1 q1 e2)
          rw [BX.strsOf_eq e3] at hA
          obtain rfl := hA.strs
          refine ⟨l, xs, rfl, (hl.same R1.sub).sq, le, fun b nb => ⟨b, _, _, rfl, upd_same, ?_⟩⟩
          have x := Xt.more (p := b) (o := SetS X.prog X.w b (fun k => (ddS xs).any (· == k)) (ddS xs).length) R1.sub nb
          exact k _ G1 _ (R1.ext x) (s1.trans (.ext x)) (.int _)
        · cases hf
      · cases hf
    · cases hf
  · cases hf
/-- numbers, the greatest first -/
def srtR (l : List Int) : List Int := l.mergeSort fun a b => decide (b ≤ a)
theorem srtR_pw (l : List Int) : (srtR l).Pairwise (· ≥ ·) := by
  have h := List.pairwise_mergeSort (le := fun a b : Int => decide (b ≤ a)) (fun a b c h1 h2 => by simp at h1 h2 ⊢; omega) (fun a b => by simp; omega) l
  exact h.imp fun h => by simpa using h
theorem srtR_perm (l : List Int) : (srtR l).Perm l := List.mergeSort_perm ..
theorem pwR_one : ∀ {l m : List Int}, l.Perm m → l.Pairwise (· ≥ ·) → m.Pairwise (· ≥ ·) → l = m := fun p a b => p.eq_of_pairwise (le := (· ≥ ·)) (fun x y _ _ h1 h2 => by omega) a b
def fSortRev (f : GF) : LF := fun ρ => match f ρ with
  | some (a, ρ1) => (match look ρ1 a with
    | some (.list es) => (match intsOf es with
      | some xs => some ((srtR xs).map PyData.int, ρ1)
      | none => none)
    | _ => none)
  | none => none
/-- sorted(numbers, reverse=True) -/
theorem dn_sortRev {a : Expr} {f : GF} {p pos kpos : Pos} {key : Option Str} {ke : Expr} (hg : Gl X "sorted") (hm : X.mg "sorted" = none) (ha : DG X a f) (hk : PE X ke (tC (.bl true)))
    (na : starEach [a] X.env = (false, eval a X.env) :: starEach [] X.env := by rfl)
    (he : backTo pos (starEach [a] X.env) = (false, eval a X.env) :: backTo pos (starEach [] X.env) := by rfl) (hpl : (backTo pos (starEach [a] X.env)).any (·.1) = false := by rfl)
    (hall : (backToKw pos (keywordEach [⟨key, ke, kpos⟩] X.env)).all (·.1.isSome) = true := by rfl) (hnone : (backToKw pos (keywordEach [⟨key, ke, kpos⟩] X.env)).any (·.1.isNone) = false := by rfl) (hks : (backToKw pos (keywordEach [⟨key, ke, kpos⟩] X.env)).filterMap (·.1) = [Str.ofString "reverse"] := by rfl) :
    DN X (.Call (.Name "sorted" p) [a] [⟨key, ke, kpos⟩] pos) (fSortRev f) := by
  refine pe_imp (pe_callBK (cr_sortedRev (b := true)) hg hm (by decide +kernel) (pa_cons ha pa_nil na) (pk_cons hk pk_nil) (he := he) (hpl := hpl) (hall := hall) (hnone := hnone) (hks := hks)) ?_
  rintro σ H Q ⟨G, ρ, ρ', d, R, hf, k⟩
  unfold fSortRev at hf
  split at hf
  · rename_i ag ρ1 e1
    split at hf
    · rename_i es e2
      split at hf
      · rename_i xs e3
        cases hf
        refine ⟨G, ρ, _, ag, R, e1, fun v G1 H1 R1 s1 q1 => ?_⟩
        obtain ⟨l, ys, rfl, hl, hA⟩ := bo_list (look_bo R1 q1 e2) R1.sub
        rw [intsOf_eq e3] at hA
        obtain rfl := hA.ints
        refine ⟨l, xs, rfl, rfl, SqL.of hl, fun ns t pm od nt => ?_⟩
        have x2 := Xt.more (p := t) (o := .lst (ns.map V.int)) R1.sub nt
        have od2 : ns.Pairwise (· ≥ ·) := by simpa [OrdB] using od
        have e : srtR xs = ns := pwR_one ((srtR_perm xs).trans pm.symm) (srtR_pw xs) od2
        rw [e] at k
        exact k t _ G1 _ (R1.ext x2) (s1.trans (.ext x2)) upd_same (Same.free R1.sub nt) (noOw R1 nt) (backN s1 nt) (DaA.ofInts ns)
      · cases hf
    · cases hf
  · cases hf
end
end DL
namespace DL
open PySem PySem.Spec PyProof.Rows L2 GX StX PySem.Calls
end DL
namespace K77
open PySem PySem.Spec PyProof.Rows L2 GX StX DL
def top (i : Nat) : Stmt := PySem.Challenge.pw_missbounds_k77_whole_no_device_with_fewe.main.body.getD i (.Pass ⟨0, 0, 0, 0⟩)
/-- the j-th statement of the class at place i -/
def meth (i j : Nat) : Stmt := match top i with
  | .ClassDef _ _ _ b _ _ _ _ _ _ _ => b.getD j (.Pass ⟨0, 0, 0, 0⟩)
  | s => s
def frees : List Str := ["len", "int", "abs", "divmod", "isinstance", "sum", "repr", "all", "range", "max", "min", "tuple", "str", "bool", "any", "zip", "set", "sorted", "list", "reversed", "enumerate", "dict"]
/-- the row's class: its address, its class facts -/
structure ClsK [DL.FT] (K : PySem.W.Frag) (mg : Str → Option Value) (c : Str) (C : Addr) : Prop where
  cl : FT.cl c = some C
  cls : Cls K C
  na : ∀ f ∈ (["served", "place", "hit_count", "miss_count"] : List Str), NoAttr K C f
  mg : mg c = some (.ref C)
structure Fx [DL.FT] (K : PySem.W.Frag) (w : World) (mg : Str → Option Value) : Prop where
  free : ∀ x ∈ frees, mg x = none
  wd : FT.wd = some w
  i4 : ∃ t, mg "MOST_LINES" = some (.int 4 t)
  i64 : ∃ t, mg "MOST_STATES" = some (.int 64 t)
  i2000 : ∃ t, mg "MOST_REQUESTS" = some (.int 2000 t)
  i200 : ∃ t, mg "MOST_KEPT" = some (.int 200 t)
  i6 : ∃ t, mg "LONGEST" = some (.int 6 t)
  letters : ∃ t, mg "LETTERS" = some (.str "abcdefghijklmnopqrstuvwxyz" t)
  lev : ∃ d, mg "LEVELS" = some (.ref d) ∧ Lev K w d
  cls : ∃ C, ClsK K mg "Cache" C
end K77
namespace K77
open PySem PySem.Spec PyProof.Rows L2 GX StX DL PySem.Calls NdefX
variable [DL.FT]
section
variable {P : Program} {w : World} {K : PySem.W.Frag} {mg : Str → Option Value} {base : Heap} {k : Nat} {f : Addr} {fd : FuncData}
abbrev N_iswhole : List Str := ["value"]
theorem sc_iswhole : FnScope N_iswhole ["value"] (defScope (top 10)) := ⟨rfl, rfl, rfl, by decide +kernel, rfl, by decide +kernel, by decide +kernel⟩
def g_iswhole : SF := (fSq (fRet (fAndV (fIsa dInt (gVar 0)) (fNotV (fIsa dBool (gVar 0)))))
  fNx)
def F_iswhole : FF := fBody 0 g_iswhole
theorem ok_iswhole (F : FunD K "is_whole" "is_whole" (defArgs (top 10)) (defBody (top 10)) (defScope (top 10)) [] [] f fd) (T : Fx K w mg) :
    FnG P w K mg base (k + 1) f fd ["value"] (spD w K 1 F_iswhole) := by
  have h1 := okD (P := P) (w := w) (base := base) (mg := mg) (k := k) F sc_iswhole (g := g_iswhole)
  rw [show F_iswhole = fBody (N_iswhole.length - (["value"] : List Str).length) g_iswhole from rfl]
  refine h1 fun cdv A outer s H E hG hR => ?_
  have hu : (A.deeper (envOfC "is_whole" (defScope (top 10)) s.heap.objs.size f cdv)).units + 65 < cLine := by
    have := hR.un
    omega
  have hu64 : (A.deeper (envOfC "is_whole" (defScope (top 10)) s.heap.objs.size f cdv)).units + 64 < cLine := by omega
  exact (dss_cons (ds_ret (de_and (de_isa kit_int (gv 0) rfl (T.free "isinstance" (by decide)) rfl (T.free "int" (by decide)) (by decide +kernel)) (de_one (de_not (de_isa kit_bool (gv 0) rfl (T.free "isinstance" (by decide)) rfl (T.free "bool" (by decide)) (by decide +kernel))))))
    dss_nil)
abbrev N_isbetween : List Str := ["value", "least", "most"]
theorem sc_isbetween : FnScope N_isbetween ["value", "least", "most"] (defScope (top 11)) := ⟨rfl, rfl, rfl, by decide +kernel, rfl, by decide +kernel, by decide +kernel⟩
def g_isbetween : SF := (fSq (fRet (fAndV (fCa 1 F_iswhole (aCons (gVar 0) aNil)) (fChain leD leD (gVar 1) (gVar 0) (gVar 2))))
  fNx)
def F_isbetween : FF := fBody 0 g_isbetween
theorem ok_isbetween (F : FunD K "is_between" "is_between" (defArgs (top 11)) (defBody (top 11)) (defScope (top 11)) [] [] f fd) (T : Fx K w mg) (c_iswhole : Cal P w K mg base k "is_whole" ["value"] (spD w K 1 F_iswhole)) :
    FnG P w K mg base (k + 1) f fd ["value", "least", "most"] (spD w K 3 F_isbetween) := by
  have h1 := okD (P := P) (w := w) (base := base) (mg := mg) (k := k) F sc_isbetween (g := g_isbetween)
  rw [show F_isbetween = fBody (N_isbetween.length - (["value", "least", "most"] : List Str).length) g_isbetween from rfl]
  refine h1 fun cdv A outer s H E hG hR => ?_
  have hu : (A.deeper (envOfC "is_between" (defScope (top 11)) s.heap.objs.size f cdv)).units + 65 < cLine := by
    have := hR.un
    omega
  have hu64 : (A.deeper (envOfC "is_between" (defScope (top 11)) s.heap.objs.size f cdv)).units + 64 < cLine := by omega
  exact (dss_cons (ds_ret (de_and (ecall c_iswhole hG hR (das_cons (gv 0) das_nil)) (de_one (de_chain op_leD op_leD (gv 1) (gv 0) (gv 2)))))
    dss_nil)
abbrev N_istruth : List Str := ["value"]
theorem sc_istruth : FnScope N_istruth ["value"] (defScope (top 12)) := ⟨rfl, rfl, rfl, by decide +kernel, rfl, by decide +kernel, by decide +kernel⟩
def g_istruth : SF := (fSq (fRet (fIsa dBool (gVar 0)))
  fNx)
def F_istruth : FF := fBody 0 g_istruth
theorem ok_istruth (F : FunD K "is_truth" "is_truth" (defArgs (top 12)) (defBody (top 12)) (defScope (top 12)) [] [] f fd) (T : Fx K w mg) :
    FnG P w K mg base (k + 1) f fd ["value"] (spD w K 1 F_istruth) := by
  have h1 := okD (P := P) (w := w) (base := base) (mg := mg) (k := k) F sc_istruth (g := g_istruth)
  rw [show F_istruth = fBody (N_istruth.length - (["value"] : List Str).length) g_istruth from rfl]
  refine h1 fun cdv A outer s H E hG hR => ?_
  have hu : (A.deeper (envOfC "is_truth" (defScope (top 12)) s.heap.objs.size f cdv)).units + 65 < cLine := by
    have := hR.un
    omega
  have hu64 : (A.deeper (envOfC "is_truth" (defScope (top 12)) s.heap.objs.size f cdv)).units + 64 < cLine := by omega
  exact (dss_cons (ds_ret (de_isa kit_bool (gv 0) rfl (T.free "isinstance" (by decide)) rfl (T.free "bool" (by decide)) (by decide +kernel)))
    dss_nil)
abbrev N_istuple : List Str := ["value", "least", "most"]
theorem sc_istuple : FnScope N_istuple ["value", "least", "most"] (defScope (top 13)) := ⟨rfl, rfl, rfl, by decide +kernel, rfl, by decide +kernel, by decide +kernel⟩
def g_istuple : SF := (fSq (fRet (fAndV (fIsa dTup (gVar 0)) (fChain leD leD (gVar 1) (gVal (fCl lenD (aCons (gVar 0) aNil))) (gVar 2))))
  fNx)
def F_istuple : FF := fBody 0 g_istuple
theorem ok_istuple (F : FunD K "is_tuple" "is_tuple" (defArgs (top 13)) (defBody (top 13)) (defScope (top 13)) [] [] f fd) (T : Fx K w mg) :
    FnG P w K mg base (k + 1) f fd ["value", "least", "most"] (spD w K 3 F_istuple) := by
  have h1 := okD (P := P) (w := w) (base := base) (mg := mg) (k := k) F sc_istuple (g := g_istuple)
  rw [show F_istuple = fBody (N_istuple.length - (["value", "least", "most"] : List Str).length) g_istuple from rfl]
  refine h1 fun cdv A outer s H E hG hR => ?_
  have hu : (A.deeper (envOfC "is_tuple" (defScope (top 13)) s.heap.objs.size f cdv)).units + 65 < cLine := by
    have := hR.un
    omega
  have hu64 : (A.deeper (envOfC "is_tuple" (defScope (top 13)) s.heap.objs.size f cdv)).units + 64 < cLine := by omega
  exact (dss_cons (ds_ret (de_and (de_isa kit_tup (gv 0) rfl (T.free "isinstance" (by decide)) rfl (T.free "tuple" (by decide)) (by decide +kernel)) (de_one (de_chain op_leD op_leD (gv 1) (dg_val (de_callB cl_len rfl (T.free "len" (by decide)) (by decide +kernel) (das_cons (gv 0) das_nil))) (gv 2)))))
    dss_nil)
abbrev N_isname : List Str := ["value", "letter"]
theorem sc_isname : FnScope N_isname ["value"] (defScope (top 21)) := ⟨rfl, rfl, rfl, by decide +kernel, rfl, by decide +kernel, by decide +kernel⟩
def g_isname : SF := (fSq (fIfS (fOr (fNot (fTst (fIsa dStr (gVar 0)))) (fNot (fTst (fChain leD leD (gVal (fC (.int 1))) (gVal (fCl lenD (aCons (gVar 0) aNil))) (gVal (fC (.int 6))))))) (fSq (fRet (fC (.bool false)))
  fNx) fNx)
  (fSq (fRet (fCl allD (aCons (gVal (fLst (fComp (iTxt (fVar 0)) [1] (tName 1) fYes (fOp inS (gVar 1) (gVal (fC (.str "abcdefghijklmnopqrstuvwxyz"))))))) aNil)))
  fNx))
def F_isname : FF := fBody 1 g_isname
theorem ok_isname (F : FunD K "is_name" "is_name" (defArgs (top 21)) (defBody (top 21)) (defScope (top 21)) [] [] f fd) (T : Fx K w mg) :
    FnG P w K mg base (k + 1) f fd ["value"] (spD w K 1 F_isname) := by
  have h1 := okD (P := P) (w := w) (base := base) (mg := mg) (k := k) F sc_isname (g := g_isname)
  rw [show F_isname = fBody (N_isname.length - (["value"] : List Str).length) g_isname from rfl]
  refine h1 fun cdv A outer s H E hG hR => ?_
  have hu : (A.deeper (envOfC "is_name" (defScope (top 21)) s.heap.objs.size f cdv)).units + 65 < cLine := by
    have := hR.un
    omega
  have hu64 : (A.deeper (envOfC "is_name" (defScope (top 21)) s.heap.objs.size f cdv)).units + 64 < cLine := by omega
  exact (dss_cons (ds_if (dt_w (dw_or (dt_not (dt_val (de_isa kit_str (gv 0) rfl (T.free "isinstance" (by decide)) rfl (T.free "str" (by decide)) (by decide +kernel)))) (dw_or1 (dt_not (dt_chain op_leD op_leD (dg_val de_int) (dg_val (de_callB cl_len rfl (T.free "len" (by decide)) (by decide +kernel) (das_cons (gv 0) das_nil))) (dg_val (de_gint rfl T.i6.choose_spec))))))) (dss_cons (ds_ret de_bl)
    dss_nil) dss_nil)
    (dss_cons (ds_ret (de_callB (cl_all rfl) rfl (T.free "all" (by decide)) (by decide +kernel) (das_cons (dg_val (de_new (dn_comp rfl sc_isname.nd (di_txt (ev 0)) (blkOk_by (N := N_isname) (sc := (defScope (top 21))) (own := [("letter", 1)]) (by decide +kernel)) (fun _ _ _ _ _ => kn 1 sc_isname.nd) (fun _ _ _ _ _ => dc_nil) (fun _ _ _ _ _ => (de_cmp op_inS (gv 1) (dg_val (de_gstr rfl T.letters.choose_spec)) (by rfl)))))) das_nil)))
    dss_nil))
abbrev N_checkname : List Str := ["value"]
theorem sc_checkname : FnScope N_checkname ["value"] (defScope (top 22)) := ⟨rfl, rfl, rfl, by decide +kernel, rfl, by decide +kernel, by decide +kernel⟩
def g_checkname : SF := (fSq (fIfS (fNot (fTst (fCa 1 F_isname (aCons (gVar 0) aNil)))) (fSq fNv
  fNx) fNx)
  fNx)
def F_checkname : FF := fBody 0 g_checkname
theorem ok_checkname (F : FunD K "check_name" "check_name" (defArgs (top 22)) (defBody (top 22)) (defScope (top 22)) [] [] f fd) (T : Fx K w mg) (c_isname : Cal P w K mg base k "is_name" ["value"] (spD w K 1 F_isname)) :
    FnG P w K mg base (k + 1) f fd ["value"] (spD w K 1 F_checkname) := by
  have h1 := okD (P := P) (w := w) (base := base) (mg := mg) (k := k) F sc_checkname (g := g_checkname)
  rw [show F_checkname = fBody (N_checkname.length - (["value"] : List Str).length) g_checkname from rfl]
  refine h1 fun cdv A outer s H E hG hR => ?_
  have hu : (A.deeper (envOfC "check_name" (defScope (top 22)) s.heap.objs.size f cdv)).units + 65 < cLine := by
    have := hR.un
    omega
  have hu64 : (A.deeper (envOfC "check_name" (defScope (top 22)) s.heap.objs.size f cdv)).units + 64 < cLine := by omega
  exact (dss_cons (ds_if (dt_not (dt_val (ecall c_isname hG hR (das_cons (gv 0) das_nil)))) (dss_cons ds_nv
    dss_nil) dss_nil)
    dss_nil)
abbrev N_checkhistory : List Str := ["value", "index", "name"]
theorem sc_checkhistory : FnScope N_checkhistory ["value"] (defScope (top 23)) := ⟨rfl, rfl, rfl, by decide +kernel, rfl, by decide +kernel, by decide +kernel⟩
def g_checkhistory : SF := (fSq (fIfS (fNot (fTst (fCa 3 F_istuple (aCons (gVar 0) (aCons (gVal (fC (.int 0))) (aCons (gVal (fC (.int 2000))) aNil)))))) (fSq fNv
  fNx) fNx)
  (fSq (fFor (iEnum (fVar 0)) (tTupT 2 [(tName 1), (tName 2)]) (fSq (fIfS (fNot (fTst (fCa 1 F_isname (aCons (gVar 2) aNil)))) (fSq fNv
  fNx) fNx)
  fNx))
  fNx))
def F_checkhistory : FF := fBody 2 g_checkhistory
theorem ok_checkhistory (F : FunD K "check_history" "check_history" (defArgs (top 23)) (defBody (top 23)) (defScope (top 23)) [] [] f fd) (T : Fx K w mg) (c_isname : Cal P w K mg base k "is_name" ["value"] (spD w K 1 F_isname)) (c_istuple : Cal P w K mg base k "is_tuple" ["value", "least", "most"] (spD w K 3 F_istuple)) :
    FnG P w K mg base (k + 1) f fd ["value"] (spD w K 1 F_checkhistory) := by
  have h1 := okD (P := P) (w := w) (base := base) (mg := mg) (k := k) F sc_checkhistory (g := g_checkhistory)
  rw [show F_checkhistory = fBody (N_checkhistory.length - (["value"] : List Str).length) g_checkhistory from rfl]
  refine h1 fun cdv A outer s H E hG hR => ?_
  have hu : (A.deeper (envOfC "check_history" (defScope (top 23)) s.heap.objs.size f cdv)).units + 65 < cLine := by
    have := hR.un
    omega
  have hu64 : (A.deeper (envOfC "check_history" (defScope (top 23)) s.heap.objs.size f cdv)).units + 64 < cLine := by omega
  exact (dss_cons (ds_if (dt_not (dt_val (ecall c_istuple hG hR (das_cons (gv 0) (das_cons (dg_val de_int) (das_cons (dg_val (de_gint rfl T.i2000.choose_spec)) das_nil)))))) (dss_cons ds_nv
    dss_nil) dss_nil)
    (dss_cons (ds_forP PassesOwn.never rfl (dip_enumT rfl (T.free "enumerate" (by decide)) (ev 0)) (dtgs_cons (tn 1 sc_checkhistory.nd) (dtgs_cons (tn 2 sc_checkhistory.nd) dtgs_nil)) (dss_cons (ds_if (dt_not (dt_val (ecall c_isname hG hR (das_cons (gv 2) das_nil)))) (dss_cons ds_nv
    dss_nil) dss_nil)
    dss_nil))
    dss_nil))
abbrev N_checkknown : List Str := ["names", "lines"]
theorem sc_checkknown : FnScope N_checkknown ["names", "lines"] (defScope (top 28)) := ⟨rfl, rfl, rfl, by decide +kernel, rfl, by decide +kernel, by decide +kernel⟩
def g_checkknown : SF := (fSq (fDrop (fCa 1 F_checkhistory (aCons (gVar 0) aNil)))
  (fSq (fIfS (fNot (fTst (fCa 3 F_isbetween (aCons (gVar 1) (aCons (gVal (fC (.int 1))) (aCons (gVal (fC (.int 4))) aNil)))))) (fSq fNv
  fNx) fNx)
  (fSq (fIfS (fTst (fOp gtD (gVal (fCl lenD (aCons (gVar 0) aNil))) (gVal (fC (.int 200))))) (fSq fNv
  fNx) fNx)
  fNx)))
def F_checkknown : FF := fBody 0 g_checkknown
theorem ok_checkknown (F : FunD K "check_known" "check_known" (defArgs (top 28)) (defBody (top 28)) (defScope (top 28)) [] [] f fd) (T : Fx K w mg) (c_checkhistory : Cal P w K mg base k "check_history" ["value"] (spD w K 1 F_checkhistory)) (c_isbetween : Cal P w K mg base k "is_between" ["value", "least", "most"] (spD w K 3 F_isbetween)) :
    FnG P w K mg base (k + 1) f fd ["names", "lines"] (spD w K 2 F_checkknown) := by
  have h1 := okD (P := P) (w := w) (base := base) (mg := mg) (k := k) F sc_checkknown (g := g_checkknown)
  rw [show F_checkknown = fBody (N_checkknown.length - (["names", "lines"] : List Str).length) g_checkknown from rfl]
  refine h1 fun cdv A outer s H E hG hR => ?_
  have hu : (A.deeper (envOfC "check_known" (defScope (top 28)) s.heap.objs.size f cdv)).units + 65 < cLine := by
    have := hR.un
    omega
  have hu64 : (A.deeper (envOfC "check_known" (defScope (top 28)) s.heap.objs.size f cdv)).units + 64 < cLine := by omega
  exact (dss_cons (ds_expr (ecall c_checkhistory hG hR (das_cons (gv 0) das_nil)))
    (dss_cons (ds_if (dt_not (dt_val (ecall c_isbetween hG hR (das_cons (gv 1) (das_cons (dg_val de_int) (das_cons (dg_val (de_gint rfl T.i4.choose_spec)) das_nil)))))) (dss_cons ds_nv
    dss_nil) dss_nil)
    (dss_cons (ds_if (dt_cmp op_gtD (dg_val (de_callB cl_len rfl (T.free "len" (by decide)) (by decide +kernel) (das_cons (gv 0) das_nil))) (dg_val (de_gint rfl T.i200.choose_spec)) (by rfl)) (dss_cons ds_nv
    dss_nil) dss_nil)
    dss_nil)))
abbrev N_nextrequests : List Str := ["names", "later", "follows", "index"]
theorem sc_nextrequests : FnScope N_nextrequests ["names"] (defScope (top 29)) := ⟨rfl, rfl, rfl, by decide +kernel, rfl, by decide +kernel, by decide +kernel⟩
def g_nextrequests : SF := (fSq (fDicP 1)
  (fSq (fHold 2 (lLst lNil))
  (fSq (fFor (iRev (fCl lenD (aCons (gVar 0) aNil))) (tName 3) (fSq (fApp 2 (fGetP 1 (fOp ixD (gVar 0) (gVar 3))))
  (fSq (fAsg (fVar 3) (tSubP 1 (fOp ixD (gVar 0) (gVar 3))))
  fNx)))
  (fSq (fRet (fLst (fRevL (gVar 2))))
  fNx))))
def F_nextrequests : FF := fBody 3 g_nextrequests
theorem ok_nextrequests (F : FunD K "next_requests" "next_requests" (defArgs (top 29)) (defBody (top 29)) (defScope (top 29)) [] [] f fd) (T : Fx K w mg) :
    FnG P w K mg base (k + 1) f fd ["names"] (spD w K 1 F_nextrequests) := by
  have h1 := okD (P := P) (w := w) (base := base) (mg := mg) (k := k) F sc_nextrequests (g := g_nextrequests)
  rw [show F_nextrequests = fBody (N_nextrequests.length - (["names"] : List Str).length) g_nextrequests from rfl]
  refine h1 fun cdv A outer s H E hG hR => ?_
  have hu : (A.deeper (envOfC "next_requests" (defScope (top 29)) s.heap.objs.size f cdv)).units + 65 < cLine := by
    have := hR.un
    omega
  have hu64 : (A.deeper (envOfC "next_requests" (defScope (top 29)) s.heap.objs.size f cdv)).units + 64 < cLine := by omega
  exact (dss_cons (ds_dicP 1 sc_nextrequests.nd)
    (dss_cons (shold 2 sc_nextrequests.nd (dn_lst dls_nil))
    (dss_cons (ds_for PassesOwn.never rfl (di_rev rfl (T.free "reversed" (by decide)) rfl (T.free "range" (by decide)) (de_callB cl_len rfl (T.free "len" (by decide)) (by decide +kernel) (das_cons (gv 0) das_nil))) (tn 3 sc_nextrequests.nd) (dss_cons (sapp 2 (de_getP hu64 1 (de_ix ix_D (gv 0) (gv 3))))
    (dss_cons (ds_asg (ev 3) (dtg_subP hu64 1 (de_ix ix_D (gv 0) (gv 3))))
    dss_nil)))
    (dss_cons (ds_ret (de_new (dn_revL (gv 2))))
    dss_nil))))
end
end K77
namespace K77
open PySem PySem.Spec PyProof.Rows L2 GX StX DL PySem.Calls NdefX
variable [DL.FT]
def sci_Lrecent : Scope := { kind := .function, names := [(".0", .local), ("_law_line", .cell), ("tuple", .globalImplicit), ("_law_here", .cell)], isGenerator := false, isCoroutine := false }
section
variable {P : Program} {w : World} {K : PySem.W.Frag} {mg : Str → Option Value} {base : Heap} {k : Nat} {f : Addr} {fd : FuncData}
abbrev N_Lcell : List Str := ["_law_script", "_law_k", "_law_state", "_law_figure"]
theorem sc_Lcell : FnScope N_Lcell ["_law_script", "_law_k"] (defScope (top 53)) := ⟨rfl, rfl, rfl, by decide +kernel, rfl, by decide +kernel, by decide +kernel⟩
def g_Lcell : SF := (fSq (fIfS (fTst (fOp ltD (gVar 1) (gVal (fScrLen 0)))) (fSq (fRet (fCl intD (aCons (gVal (fScrIx 0 (fVar 1))) aNil)))
  fNx) fNx)
  (fSq (fAsg (fOp modD (gVal (fOp mulD (gVal (fC (.int 60013))) (gVal (fOp addD (gVal (fOp addD (gVal (fOp mulD (gVar 1) (gVar 1))) (gVal (fOp mulD (gVal (fC (.int 5))) (gVar 1))))) (gVal (fC (.int 3))))))) (gVal (fC (.int 2147483249)))) (tName 2))
  (fSq (fFor (iSeq (fScrTo 0 3)) (tName 3) (fSq (fAsg (fOp modD (gVal (fOp addD (gVal (fOp mulD (gVar 2) (gVal (fC (.int 41221))))) (gVal (fCl intD (aCons (gVar 3) aNil))))) (gVal (fC (.int 2147483249)))) (tName 2))
  fNx))
  (fSq (fRet (fVar 2))
  fNx))))
def F_Lcell : FF := fBody 2 g_Lcell
theorem ok_Lcell (F : FunD K "_law_cell" "_law_cell" (defArgs (top 53)) (defBody (top 53)) (defScope (top 53)) [] [] f fd) (T : Fx K w mg) :
    FnG P w K mg base (k + 1) f fd ["_law_script", "_law_k"] (spD w K 2 F_Lcell) := by
  have h1 := okD (P := P) (w := w) (base := base) (mg := mg) (k := k) F sc_Lcell (g := g_Lcell)
  rw [show F_Lcell = fBody (N_Lcell.length - (["_law_script", "_law_k"] : List Str).length) g_Lcell from rfl]
  refine h1 fun cdv A outer s H E hG hR => ?_
  have hu : (A.deeper (envOfC "_law_cell" (defScope (top 53)) s.heap.objs.size f cdv)).units + 65 < cLine := by
    have := hR.un
    omega
  have hu64 : (A.deeper (envOfC "_law_cell" (defScope (top 53)) s.heap.objs.size f cdv)).units + 64 < cLine := by omega
  exact (dss_cons (ds_if (dt_cmp op_ltD (gv 1) (dg_val (eslen 0 (T.free "len" (by decide)))) (by rfl)) (dss_cons (ds_ret (de_callTy cl_int rfl (T.free "int" (by decide)) (by decide +kernel) (das_cons (dg_val (esix 0 (ev 1))) das_nil)))
    dss_nil) dss_nil)
    (dss_cons (sset 2 sc_Lcell.nd (de_op op_modD (dg_val (de_op op_mulD (dg_val de_int) (dg_val (de_op op_addD (dg_val (de_op op_addD (dg_val (de_op op_mulD (gv 1) (gv 1))) (dg_val (de_op op_mulD (dg_val de_int) (gv 1))))) (dg_val de_int))))) (dg_val de_int)))
    (dss_cons (ds_for PassesOwn.never rfl (di_seq (essl 0)) (tn 3 sc_Lcell.nd) (dss_cons (sset 2 sc_Lcell.nd (de_op op_modD (dg_val (de_op op_addD (dg_val (de_op op_mulD (gv 2) (dg_val de_int))) (dg_val (de_callTy cl_int rfl (T.free "int" (by decide)) (by decide +kernel) (das_cons (gv 3) das_nil))))) (dg_val de_int)))
    dss_nil))
    (dss_cons (ds_ret (ev 2))
    dss_nil))))
abbrev N_Lpool : List Str := ["_law_figure", "_law_digits"]
theorem sc_Lpool : FnScope N_Lpool ["_law_figure"] (defScope (top 54)) := ⟨rfl, rfl, rfl, by decide +kernel, rfl, by decide +kernel, by decide +kernel⟩
def g_Lpool : LF := (fThen (fAsg (fIf (fOr (fTst (fOp ltD (gVar 0) (gVal (fC (.int 0))))) (fTst (fOp geD (gVar 0) (gVal (fOp powD (gVal (fC (.int 10))) (gVal (fC (.int 18)))))))) (fCl absD (aCons (gVar 0) aNil)) (fC (.int 0))) (tName 1)) (lLst (lCons (fOp modD (gVal (fCl intD (aCons (gVar 0) aNil))) (gVal (fC (.int 2147483249)))) (lCons (fVar 1) (lCons (fC (.int 0)) lNil)))))
def F_Lpool : FL := fBodyL 1 g_Lpool
theorem ok_Lpool (F : FunD K "_law_pool" "_law_pool" (defArgs (top 54)) (defBody (top 54)) (defScope (top 54)) [] [] f fd) (T : Fx K w mg) :
    FnG P w K mg base (k + 1) f fd ["_law_figure"] (spL w K 1 F_Lpool) := by
  have h1 := okL (P := P) (w := w) (base := base) (mg := mg) (k := k) F sc_Lpool (g := g_Lpool)
  rw [show F_Lpool = fBodyL (N_Lpool.length - (["_law_figure"] : List Str).length) g_Lpool from rfl]
  refine h1 fun cdv A outer s H E hG hR => ?_
  have hu : (A.deeper (envOfC "_law_pool" (defScope (top 54)) s.heap.objs.size f cdv)).units + 65 < cLine := by
    have := hR.un
    omega
  have hu64 : (A.deeper (envOfC "_law_pool" (defScope (top 54)) s.heap.objs.size f cdv)).units + 64 < cLine := by omega
  exact (dsl_cons (sset 1 sc_Lpool.nd (de_if (dt_w (dw_or (dt_cmp op_ltD (gv 0) (dg_val de_int) (by rfl)) (dw_or1 (dt_cmp op_geD (gv 0) (dg_val (de_op op_powD (dg_val de_int) (dg_val de_int))) (by rfl))))) (de_callB cl_abs rfl (T.free "abs" (by decide)) (by decide +kernel) (das_cons (gv 0) das_nil)) de_int)) (dsl_ret (dn_lst (dls_cons (de_op op_modD (dg_val (de_callTy cl_int rfl (T.free "int" (by decide)) (by decide +kernel) (das_cons (gv 0) das_nil))) (dg_val de_int)) (dls_cons (ev 1) (dls_cons de_int dls_nil))))))
abbrev N_Ldraw : List Str := ["_law_pool_here", "_law_most", "_law_state", "_law_digit"]
theorem sc_Ldraw : FnScope N_Ldraw ["_law_pool_here", "_law_most"] (defScope (top 55)) := ⟨rfl, rfl, rfl, by decide +kernel, rfl, by decide +kernel, by decide +kernel⟩
def g_Ldraw : SF := (fSq (fAsg (fOp addD (gVal (fOp ixD (gVar 0) (gVal (fC (.int 2))))) (gVal (fC (.int 1)))) (tSub 0 (fC (.int 2))))
  (fSq (fAsg (fCl intD (aCons (gVal (fOp ixD (gVar 0) (gVal (fC (.int 0))))) aNil)) (tName 2))
  (fSq (fAsg (fOp modD (gVal (fOp addD (gVal (fOp mulD (gVar 2) (gVal (fOp addD (gVal (fOp modD (gVar 2) (gVal (fC (.int 50021))))) (gVal (fC (.int 30011))))))) (gVal (fOp mulD (gVal (fC (.int 80021))) (gVal (fOp ixD (gVar 0) (gVal (fC (.int 2))))))))) (gVal (fC (.int 2147483249)))) (tSub 0 (fC (.int 0))))
  (fSq (fIfS (fTst (fOp gtD (gVal (fOp ixD (gVar 0) (gVal (fC (.int 1))))) (gVal (fC (.int 0))))) (fSq (fAsg (fCl divmodD (aCons (gVal (fOp ixD (gVar 0) (gVal (fC (.int 1))))) (aCons (gVar 1) aNil))) (tTupT 2 [(tSub 0 (fC (.int 1))), (tName 3)]))
  (fSq (fRet (fVar 3))
  fNx)) fNx)
  (fSq (fRet (fOp modD (gVal (fOp divD (gVal (fOp ixD (gVar 0) (gVal (fC (.int 0))))) (gVal (fC (.int 64))))) (gVar 1)))
  fNx)))))
def F_Ldraw : FF := fBody 2 g_Ldraw
theorem ok_Ldraw (F : FunD K "_law_draw" "_law_draw" (defArgs (top 55)) (defBody (top 55)) (defScope (top 55)) [] [] f fd) (T : Fx K w mg) :
    FnG P w K mg base (k + 1) f fd ["_law_pool_here", "_law_most"] (spD w K 2 F_Ldraw) := by
  have h1 := okD (P := P) (w := w) (base := base) (mg := mg) (k := k) F sc_Ldraw (g := g_Ldraw)
  rw [show F_Ldraw = fBody (N_Ldraw.length - (["_law_pool_here", "_law_most"] : List Str).length) g_Ldraw from rfl]
  refine h1 fun cdv A outer s H E hG hR => ?_
  have hu : (A.deeper (envOfC "_law_draw" (defScope (top 55)) s.heap.objs.size f cdv)).units + 65 < cLine := by
    have := hR.un
    omega
  have hu64 : (A.deeper (envOfC "_law_draw" (defScope (top 55)) s.heap.objs.size f cdv)).units + 64 < cLine := by omega
  exact (dss_cons (ds_asg (de_op op_addD (dg_val (de_ix ix_D (gv 0) (dg_val de_int))) (dg_val de_int)) (tsub 0 de_int))
    (dss_cons (sset 2 sc_Ldraw.nd (de_callTy cl_int rfl (T.free "int" (by decide)) (by decide +kernel) (das_cons (dg_val (de_ix ix_D (gv 0) (dg_val de_int))) das_nil)))
    (dss_cons (ds_asg (de_op op_modD (dg_val (de_op op_addD (dg_val (de_op op_mulD (gv 2) (dg_val (de_op op_addD (dg_val (de_op op_modD (gv 2) (dg_val de_int))) (dg_val de_int))))) (dg_val (de_op op_mulD (dg_val de_int) (dg_val (de_ix ix_D (gv 0) (dg_val de_int))))))) (dg_val de_int)) (tsub 0 de_int))
    (dss_cons (ds_if (dt_cmp op_gtD (dg_val (de_ix ix_D (gv 0) (dg_val de_int))) (dg_val de_int) (by rfl)) (dss_cons (ds_asg (de_callB cl_divmod rfl (T.free "divmod" (by decide)) (by decide +kernel) (das_cons (dg_val (de_ix ix_D (gv 0) (dg_val de_int))) (das_cons (gv 1) das_nil))) (dtg_tup rfl (dtgs_cons (tsub 0 de_int) (dtgs_cons (tn 3 sc_Ldraw.nd) dtgs_nil))))
    (dss_cons (ds_ret (ev 3))
    dss_nil)) dss_nil)
    (dss_cons (ds_ret (de_op op_modD (dg_val (de_op op_divD (dg_val (de_ix ix_D (gv 0) (dg_val de_int))) (dg_val de_int))) (gv 1)))
    dss_nil)))))
abbrev N_Lpolicy : List Str := ["_law_pool_here", "_law_lines", "_law_states", "_law_rows", "_law_turn", "_law_hits", "_law_line"]
theorem sc_Lpolicy : FnScope N_Lpolicy ["_law_pool_here", "_law_lines", "_law_states"] (defScope (top 56)) := ⟨rfl, rfl, rfl, by decide +kernel, rfl, by decide +kernel, by decide +kernel⟩
def g_Lpolicy : SF := (fSq (fHold 3 (lLst lNil))
  (fSq (fFor (iRange1 (lCons (fVar 2) lNil)) (tName 4) (fSq (fAsg (fCl tupleD (aCons (gVal (fLst (fComp (iRange1 (lCons (fVar 1) lNil)) [6] (tName 6) fYes (fCa 2 F_Ldraw (aCons (gVar 0) (aCons (gVar 2) aNil)))))) aNil)) (tName 5))
  (fSq (fApp 3 (fTup (lCons (fCa 2 F_Ldraw (aCons (gVar 0) (aCons (gVar 1) aNil))) (lCons (fCa 2 F_Ldraw (aCons (gVar 0) (aCons (gVar 2) aNil))) (lCons (fVar 5) lNil)))))
  fNx)))
  (fSq (fRet (fTup (lCons (fVar 1) (lCons (fCl tupleD (aCons (gVar 3) aNil)) lNil))))
  fNx)))
def F_Lpolicy : FF := fBody 4 g_Lpolicy
theorem ok_Lpolicy (F : FunD K "_law_policy" "_law_policy" (defArgs (top 56)) (defBody (top 56)) (defScope (top 56)) [] [] f fd) (T : Fx K w mg) (c_Ldraw : Cal P w K mg base k "_law_draw" ["_law_pool_here", "_law_most"] (spD w K 2 F_Ldraw)) :
    FnG P w K mg base (k + 1) f fd ["_law_pool_here", "_law_lines", "_law_states"] (spD w K 3 F_Lpolicy) := by
  have h1 := okD (P := P) (w := w) (base := base) (mg := mg) (k := k) F sc_Lpolicy (g := g_Lpolicy)
  rw [show F_Lpolicy = fBody (N_Lpolicy.length - (["_law_pool_here", "_law_lines", "_law_states"] : List Str).length) g_Lpolicy from rfl]
  refine h1 fun cdv A outer s H E hG hR => ?_
  have hu : (A.deeper (envOfC "_law_policy" (defScope (top 56)) s.heap.objs.size f cdv)).units + 65 < cLine := by
    have := hR.un
    omega
  have hu64 : (A.deeper (envOfC "_law_policy" (defScope (top 56)) s.heap.objs.size f cdv)).units + 64 < cLine := by omega
  exact (dss_cons (shold 3 sc_Lpolicy.nd (dn_lst dls_nil))
    (dss_cons (ds_for PassesOwn.never rfl (di_range1 rfl (T.free "range" (by decide)) (dls_cons (ev 2) dls_nil)) (tn 4 sc_Lpolicy.nd) (dss_cons (sset 5 sc_Lpolicy.nd (de_callTy cl_tuple rfl (T.free "tuple" (by decide)) (by decide +kernel) (das_cons (dg_val (de_new (dn_comp rfl sc_Lpolicy.nd (di_range1 rfl (T.free "range" (by decide)) (dls_cons (ev 1) dls_nil)) (blkOk_by (N := N_Lpolicy) (sc := (defScope (top 56))) (own := [("_law_line", 6)]) (by decide +kernel)) (fun _ _ _ _ _ => kn 6 sc_Lpolicy.nd) (fun _ _ _ _ _ => dc_nil) (fun _ _ _ _ _ => (ecall c_Ldraw hG hR (das_cons (gv 0) (das_cons (gv 2) das_nil))))))) das_nil)))
    (dss_cons (sapp 3 (de_tup (dls_cons (ecall c_Ldraw hG hR (das_cons (gv 0) (das_cons (gv 1) das_nil))) (dls_cons (ecall c_Ldraw hG hR (das_cons (gv 0) (das_cons (gv 2) das_nil))) (dls_cons (ev 5) dls_nil)))))
    dss_nil)))
    (dss_cons (ds_ret (de_tup (dls_cons (ev 1) (dls_cons (de_callTy cl_tuple rfl (T.free "tuple" (by decide)) (by decide +kernel) (das_cons (gv 3) das_nil)) dls_nil))))
    dss_nil)))
abbrev N_Lrecent : List Str := ["_law_lines", "_law_orders", "_law_rows", "_law_at", "_law_here", "_law_goals", "_law_spot", "_law_line", "_law_goal"]
theorem sc_Lrecent : FnScope N_Lrecent ["_law_lines"] (defScope (top 57)) := ⟨rfl, rfl, rfl, by decide +kernel, rfl, by decide +kernel, by decide +kernel⟩
def g_Lrecent : SF := (fSq (fPar3 1 2 3 (xNew (lLst (lCons (fTupRg (fVar 0)) lNil))) (xNew (lLst lNil)) (xDat (fC (.int 0))))
  (fSq (fWh (fTst (fOp ltD (gVar 3) (gVal (fCl lenD (aCons (gVar 1) aNil))))) (fSq (fAsg (fOp ixD (gVar 1) (gVar 3)) (tName 4))
  (fSq (fHold 5 (fComp (iRange1 (lCons (fVar 0) lNil)) [7] (tName 7) fYes (fOp addD (gVal (fCl tupleD (aCons (gVal (fLst (fComp (iSeq (fVar 4)) [6] (tName 6) (fTst (fOp neD (gVar 6) (gVar 7))) (fVar 6)))) aNil))) (gVal (fTup (lCons (fVar 7) lNil))))))
  (fSq (fExt 1 (fLst (fComp (iSeq (fVar 5)) [8] (tName 8) (fTst (fOp notInD (gVar 8) (gVar 1))) (fVar 8))))
  (fSq (fApp 2 (fTup (lCons (fOp ixD (gVar 4) (gVal (fC (.int 0)))) (lCons (fMe "list" lIndexD (gVar 1) (aCons (gVal (fOp ixD (gVar 5) (gVal (fOp ixD (gVar 4) (gVal (fC (.int 0))))))) aNil)) (lCons (fCl tupleD (aCons (gVal (fLst (fComp (iSeq (fVar 5)) [8] (tName 8) fYes (fMe "list" lIndexD (gVar 1) (aCons (gVar 8) aNil))))) aNil)) lNil)))))
  (fSq (fAsg (fOp addD (gVar 3) (gVal (fC (.int 1)))) (tName 3))
  fNx))))) 30)
  (fSq (fRet (fTup (lCons (fVar 0) (lCons (fCl tupleD (aCons (gVar 2) aNil)) lNil))))
  fNx)))
def F_Lrecent : FF := fBody 8 g_Lrecent
theorem ok_Lrecent (F : FunD K "_law_recent" "_law_recent" (defArgs (top 57)) (defBody (top 57)) (defScope (top 57)) [] [] f fd) (T : Fx K w mg) :
    FnG P w K mg base (k + 1) f fd ["_law_lines"] (spD w K 1 F_Lrecent) := by
  have h1 := okD (P := P) (w := w) (base := base) (mg := mg) (k := k) F sc_Lrecent (g := g_Lrecent)
  rw [show F_Lrecent = fBody (N_Lrecent.length - (["_law_lines"] : List Str).length) g_Lrecent from rfl]
  refine h1 fun cdv A outer s H E hG hR => ?_
  have hu : (A.deeper (envOfC "_law_recent" (defScope (top 57)) s.heap.objs.size f cdv)).units + 65 < cLine := by
    have := hR.un
    omega
  have hu64 : (A.deeper (envOfC "_law_recent" (defScope (top 57)) s.heap.objs.size f cdv)).units + 64 < cLine := by omega
  exact (dss_cons (ds_par3c rfl sc_Lrecent.nd (by decide) (by decide) (by decide) (kn 1 sc_Lrecent.nd) (kn 2 sc_Lrecent.nd) (kn 3 sc_Lrecent.nd) (dx_new (dn_lst (dls_cons (de_tupRg rfl rfl (T.free "tuple" (by decide)) rfl (T.free "range" (by decide)) (ev 0)) dls_nil))) (dx_new (dn_lst dls_nil)) (dx_dat de_int))
    (dss_cons (ds_while 30 PassesOwn.never (dt_cmp op_ltD (gv 3) (dg_val (de_callB cl_len rfl (T.free "len" (by decide)) (by decide +kernel) (das_cons (gv 1) das_nil))) (by rfl)) (dss_cons (sset 4 sc_Lrecent.nd (de_ix ix_D (gv 1) (gv 3)))
    (dss_cons (ds_setC (i := 5) rfl sc_Lrecent.nd rfl rfl rfl (di_range1 rfl (T.free "range" (by decide)) (dls_cons (ev 0) dls_nil)) (blkOk_by (N := N_Lrecent) (sc := (defScope (top 57))) (own := [("_law_line", 7)]) (by decide +kernel)) (fun _ _ _ _ _ => kn 7 sc_Lrecent.nd) (fun _ _ _ _ _ => dc_nil) (fun _ _ _ _ _ => (de_op op_addD (dg_val (de_callTy cl_tuple rfl (T.free "tuple" (by decide)) (by decide +kernel) (das_cons (dg_val (de_new (dn_comp rfl sc_Lrecent.nd (di_seq (ev 4)) (blkOk_by (N := N_Lrecent) (sc := sci_Lrecent) (own := [("_law_spot", 6)]) (by decide +kernel)) (fun _ _ _ _ _ => kn 6 sc_Lrecent.nd) (fun _ _ _ _ _ => dc_one (dt_cmp (op_neDD hu64) (gv 6) (gv 7) (by rfl))) (fun _ _ _ _ _ => (ev 6))))) das_nil))) (dg_val (de_tup (dls_cons (ev 7) dls_nil))))))
    (dss_cons (sext 1 (de_new (dn_comp rfl sc_Lrecent.nd (di_seq (ev 5)) (blkOk_by (N := N_Lrecent) (sc := (defScope (top 57))) (own := [("_law_goal", 8)]) (by decide +kernel)) (fun _ _ _ _ _ => kn 8 sc_Lrecent.nd) (fun _ _ _ _ _ => dc_one (dt_cmp (op_notInDD hu) (gv 8) (gv 1) (by rfl))) (fun _ _ _ _ _ => (ev 8)))))
    (dss_cons (sapp 2 (de_tup (dls_cons (de_ix ix_D (gv 4) (dg_val de_int)) (dls_cons (mlindex hu (gv 1) (das_cons (dg_val (de_ix ix_D (gv 5) (dg_val (de_ix ix_D (gv 4) (dg_val de_int))))) das_nil)) (dls_cons (de_callTy cl_tuple rfl (T.free "tuple" (by decide)) (by decide +kernel) (das_cons (dg_val (de_new (dn_comp rfl sc_Lrecent.nd (di_seq (ev 5)) (blkOk_by (N := N_Lrecent) (sc := (defScope (top 57))) (own := [("_law_goal", 8)]) (by decide +kernel)) (fun _ _ _ _ _ => kn 8 sc_Lrecent.nd) (fun _ _ _ _ _ => dc_nil) (fun _ _ _ _ _ => (mlindex hu (gv 1) (das_cons (gv 8) das_nil)))))) das_nil)) dls_nil)))))
    (dss_cons (sset 3 sc_Lrecent.nd (de_op op_addD (gv 3) (dg_val de_int)))
    dss_nil))))))
    (dss_cons (ds_ret (de_tup (dls_cons (ev 0) (dls_cons (de_callTy cl_tuple rfl (T.free "tuple" (by decide)) (by decide +kernel) (das_cons (gv 2) das_nil)) dls_nil))))
    dss_nil)))
abbrev N_Lqueue : List Str := ["_law_lines", "_law_at"]
theorem sc_Lqueue : FnScope N_Lqueue ["_law_lines"] (defScope (top 58)) := ⟨rfl, rfl, rfl, by decide +kernel, rfl, by decide +kernel, by decide +kernel⟩
def g_Lqueue : SF := (fSq (fRet (fTup (lCons (fVar 0) (lCons (fCl tupleD (aCons (gVal (fLst (fComp (iRange1 (lCons (fVar 0) lNil)) [1] (tName 1) fYes (fTup (lCons (fVar 1) (lCons (fOp modD (gVal (fOp addD (gVar 1) (gVal (fC (.int 1))))) (gVar 0)) (lCons (fOp mulD (gVal (fTup (lCons (fVar 1) lNil))) (gVar 0)) lNil))))))) aNil)) lNil))))
  fNx)
def F_Lqueue : FF := fBody 1 g_Lqueue
theorem ok_Lqueue (F : FunD K "_law_queue" "_law_queue" (defArgs (top 58)) (defBody (top 58)) (defScope (top 58)) [] [] f fd) (T : Fx K w mg) :
    FnG P w K mg base (k + 1) f fd ["_law_lines"] (spD w K 1 F_Lqueue) := by
  have h1 := okD (P := P) (w := w) (base := base) (mg := mg) (k := k) F sc_Lqueue (g := g_Lqueue)
  rw [show F_Lqueue = fBody (N_Lqueue.length - (["_law_lines"] : List Str).length) g_Lqueue from rfl]
  refine h1 fun cdv A outer s H E hG hR => ?_
  have hu : (A.deeper (envOfC "_law_queue" (defScope (top 58)) s.heap.objs.size f cdv)).units + 65 < cLine := by
    have := hR.un
    omega
  have hu64 : (A.deeper (envOfC "_law_queue" (defScope (top 58)) s.heap.objs.size f cdv)).units + 64 < cLine := by omega
  exact (dss_cons (ds_ret (de_tup (dls_cons (ev 0) (dls_cons (de_callTy cl_tuple rfl (T.free "tuple" (by decide)) (by decide +kernel) (das_cons (dg_val (de_new (dn_comp rfl sc_Lqueue.nd (di_range1 rfl (T.free "range" (by decide)) (dls_cons (ev 0) dls_nil)) (blkOk_by (N := N_Lqueue) (sc := (defScope (top 58))) (own := [("_law_at", 1)]) (by decide +kernel)) (fun _ _ _ _ _ => kn 1 sc_Lqueue.nd) (fun _ _ _ _ _ => dc_nil) (fun _ _ _ _ _ => (de_tup (dls_cons (ev 1) (dls_cons (de_op op_modD (dg_val (de_op op_addD (gv 1) (dg_val de_int))) (gv 0)) (dls_cons (de_op op_mulD (dg_val (de_tup (dls_cons (ev 1) dls_nil))) (gv 0)) dls_nil)))))))) das_nil)) dls_nil))))
    dss_nil)
abbrev N_Ldevice : List Str := ["_law_pool_here", "_law_most", "_law_states", "_law_way", "_law_found", "_law_turn", "_law_lines", "_law_some", "_law_table"]
theorem sc_Ldevice : FnScope N_Ldevice ["_law_pool_here", "_law_most", "_law_states"] (defScope (top 59)) := ⟨rfl, rfl, rfl, by decide +kernel, rfl, by decide +kernel, by decide +kernel⟩
def g_Ldevice : SF := (fSq (fPar2 3 4 (xDat (fCa 2 F_Ldraw (aCons (gVar 0) (aCons (gVal (fC (.int 6))) aNil)))) (xNew (lLst lNil)))
  (fSq (fFor (iRange1 (lCons (fC (.int 2)) lNil)) (tName 5) (fSq (fAsg (fOp addD (gVal (fC (.int 1))) (gVal (fCa 2 F_Ldraw (aCons (gVar 0) (aCons (gVar 1) aNil))))) (tName 6))
  (fSq (fAsg (fLst (lLst (lCons (fCa 1 F_Lrecent (aCons (gVar 6) aNil)) (lCons (fCa 1 F_Lqueue (aCons (gVar 6) aNil)) lNil)))) (tName 7))
  (fSq (fAsg (fCa 3 F_Lpolicy (aCons (gVar 0) (aCons (gVar 6) (aCons (gVal (fOp addD (gVal (fC (.int 1))) (gVal (fCa 2 F_Ldraw (aCons (gVar 0) (aCons (gVar 2) aNil)))))) aNil)))) (tName 8))
  (fSq (fApp 4 (fOp ixD (gVal (fOp addD (gVar 7) (gVal (fLst (fRepL (fLst (lLst (lCons (fVar 8) lNil))) (fC (.int 4))))))) (gVal (fCa 2 F_Ldraw (aCons (gVar 0) (aCons (gVal (fC (.int 6))) aNil))))))
  fNx)))))
  (fSq (fIfS (fTst (fOp ltD (gVar 3) (gVal (fC (.int 3))))) (fSq (fRet (fTup (lCons (fC (.str "cache")) (lCons (fOp ixD (gVar 4) (gVal (fC (.int 0)))) lNil))))
  fNx) fNx)
  (fSq (fRet (fTup (lCons (fOp ixD (gVal (fLst (lLst (lCons (fC (.str "plain")) (lCons (fC (.str "inclusive")) (lCons (fC (.str "victim")) lNil)))))) (gVal (fOp subD (gVar 3) (gVal (fC (.int 3)))))) (lCons (fOp ixD (gVar 4) (gVal (fC (.int 0)))) (lCons (fOp ixD (gVar 4) (gVal (fC (.int 1)))) lNil)))))
  fNx))))
def F_Ldevice : FF := fBody 6 g_Ldevice
theorem ok_Ldevice (F : FunD K "_law_device" "_law_device" (defArgs (top 59)) (defBody (top 59)) (defScope (top 59)) [] [] f fd) (T : Fx K w mg) (c_Ldraw : Cal P w K mg base k "_law_draw" ["_law_pool_here", "_law_most"] (spD w K 2 F_Ldraw)) (c_Lpolicy : Cal P w K mg base k "_law_policy" ["_law_pool_here", "_law_lines", "_law_states"] (spD w K 3 F_Lpolicy)) (c_Lqueue : Cal P w K mg base k "_law_queue" ["_law_lines"] (spD w K 1 F_Lqueue)) (c_Lrecent : Cal P w K mg base k "_law_recent" ["_law_lines"] (spD w K 1 F_Lrecent)) :
    FnG P w K mg base (k + 1) f fd ["_law_pool_here", "_law_most", "_law_states"] (spD w K 3 F_Ldevice) := by
  have h1 := okD (P := P) (w := w) (base := base) (mg := mg) (k := k) F sc_Ldevice (g := g_Ldevice)
  rw [show F_Ldevice = fBody (N_Ldevice.length - (["_law_pool_here", "_law_most", "_law_states"] : List Str).length) g_Ldevice from rfl]
  refine h1 fun cdv A outer s H E hG hR => ?_
  have hu : (A.deeper (envOfC "_law_device" (defScope (top 59)) s.heap.objs.size f cdv)).units + 65 < cLine := by
    have := hR.un
    omega
  have hu64 : (A.deeper (envOfC "_law_device" (defScope (top 59)) s.heap.objs.size f cdv)).units + 64 < cLine := by omega
  exact (dss_cons (ds_par2 (i := 3) (j := 4) rfl sc_Ldevice.nd rfl rfl (by decide) rfl rfl (dx_dat (ecall c_Ldraw hG hR (das_cons (gv 0) (das_cons (dg_val de_int) das_nil)))) (dx_new (dn_lst dls_nil)) rfl)
    (dss_cons (ds_for PassesOwn.never rfl (di_range1 rfl (T.free "range" (by decide)) (dls_cons de_int dls_nil)) (tn 5 sc_Ldevice.nd) (dss_cons (sset 6 sc_Ldevice.nd (de_op op_addD (dg_val de_int) (dg_val (ecall c_Ldraw hG hR (das_cons (gv 0) (das_cons (gv 1) das_nil))))))
    (dss_cons (sset 7 sc_Ldevice.nd (de_new (dn_lst (dls_cons (ecall c_Lrecent hG hR (das_cons (gv 6) das_nil)) (dls_cons (ecall c_Lqueue hG hR (das_cons (gv 6) das_nil)) dls_nil)))))
    (dss_cons (sset 8 sc_Ldevice.nd (ecall c_Lpolicy hG hR (das_cons (gv 0) (das_cons (gv 6) (das_cons (dg_val (de_op op_addD (dg_val de_int) (dg_val (ecall c_Ldraw hG hR (das_cons (gv 0) (das_cons (gv 2) das_nil)))))) das_nil)))))
    (dss_cons (sapp 4 (de_ix ix_D (dg_val (de_op op_addD (gv 7) (dg_val (de_new (dn_rep (de_new (dn_lst (dls_cons (ev 8) dls_nil))) de_int))))) (dg_val (ecall c_Ldraw hG hR (das_cons (gv 0) (das_cons (dg_val de_int) das_nil))))))
    dss_nil)))))
    (dss_cons (ds_if (dt_cmp op_ltD (gv 3) (dg_val de_int) (by rfl)) (dss_cons (ds_ret (de_tup (dls_cons de_str (dls_cons (de_ix ix_D (gv 4) (dg_val de_int)) dls_nil))))
    dss_nil) dss_nil)
    (dss_cons (ds_ret (de_tup (dls_cons (de_ix ix_D (dg_val (de_new (dn_lst (dls_cons de_str (dls_cons de_str (dls_cons de_str dls_nil)))))) (dg_val (de_op op_subD (gv 3) (dg_val de_int)))) (dls_cons (de_ix ix_D (gv 4) (dg_val de_int)) (dls_cons (de_ix ix_D (gv 4) (dg_val de_int)) dls_nil)))))
    dss_nil))))
abbrev N_Lrow : List Str := ["_law_pool_here", "_law_many", "_law_most", "_law_count", "_law_who", "_law_at"]
theorem sc_Lrow : FnScope N_Lrow ["_law_pool_here", "_law_many", "_law_most"] (defScope (top 60)) := ⟨rfl, rfl, rfl, by decide +kernel, rfl, by decide +kernel, by decide +kernel⟩
def g_Lrow : SF := (fSq (fAsg (fTup (lCons (fCa 2 F_Ldraw (aCons (gVar 0) (aCons (gVal (fOp addD (gVar 1) (gVal (fC (.int 1))))) aNil))) (lCons (fOp addD (gVal (fC (.int 1))) (gVal (fCa 2 F_Ldraw (aCons (gVar 0) (aCons (gVar 2) aNil))))) lNil))) (tTupT 2 [(tName 3), (tName 4)]))
  (fSq (fIfS (fTst (fOp eqD (gVal (fCa 2 F_Ldraw (aCons (gVar 0) (aCons (gVal (fC (.int 4))) aNil)))) (gVal (fC (.int 0))))) (fSq (fRet (fCl tupleD (aCons (gVal (fLst (fComp (iRange1 (lCons (fVar 3) lNil)) [5] (tName 5) fYes (fOp ixD (gVal (fC (.str "abcdefghijkl"))) (gVal (fOp modD (gVar 5) (gVar 4))))))) aNil)))
  fNx) fNx)
  (fSq (fRet (fCl tupleD (aCons (gVal (fLst (fComp (iRange1 (lCons (fVar 3) lNil)) [5] (tName 5) fYes (fOp ixD (gVal (fC (.str "abcdefghijkl"))) (gVal (fCa 2 F_Ldraw (aCons (gVar 0) (aCons (gVar 4) aNil)))))))) aNil)))
  fNx)))
def F_Lrow : FF := fBody 3 g_Lrow
theorem ok_Lrow (F : FunD K "_law_row" "_law_row" (defArgs (top 60)) (defBody (top 60)) (defScope (top 60)) [] [] f fd) (T : Fx K w mg) (c_Ldraw : Cal P w K mg base k "_law_draw" ["_law_pool_here", "_law_most"] (spD w K 2 F_Ldraw)) :
    FnG P w K mg base (k + 1) f fd ["_law_pool_here", "_law_many", "_law_most"] (spD w K 3 F_Lrow) := by
  have h1 := okD (P := P) (w := w) (base := base) (mg := mg) (k := k) F sc_Lrow (g := g_Lrow)
  rw [show F_Lrow = fBody (N_Lrow.length - (["_law_pool_here", "_law_many", "_law_most"] : List Str).length) g_Lrow from rfl]
  refine h1 fun cdv A outer s H E hG hR => ?_
  have hu : (A.deeper (envOfC "_law_row" (defScope (top 60)) s.heap.objs.size f cdv)).units + 65 < cLine := by
    have := hR.un
    omega
  have hu64 : (A.deeper (envOfC "_law_row" (defScope (top 60)) s.heap.objs.size f cdv)).units + 64 < cLine := by omega
  exact (dss_cons (ds_asg (de_tup (dls_cons (ecall c_Ldraw hG hR (das_cons (gv 0) (das_cons (dg_val (de_op op_addD (gv 1) (dg_val de_int))) das_nil))) (dls_cons (de_op op_addD (dg_val de_int) (dg_val (ecall c_Ldraw hG hR (das_cons (gv 0) (das_cons (gv 2) das_nil))))) dls_nil))) (dtg_tup rfl (dtgs_cons (tn 3 sc_Lrow.nd) (dtgs_cons (tn 4 sc_Lrow.nd) dtgs_nil))))
    (dss_cons (ds_if (dt_cmp (op_eqDD hu64) (dg_val (ecall c_Ldraw hG hR (das_cons (gv 0) (das_cons (dg_val de_int) das_nil)))) (dg_val de_int) (by rfl)) (dss_cons (ds_ret (de_callTy cl_tuple rfl (T.free "tuple" (by decide)) (by decide +kernel) (das_cons (dg_val (de_new (dn_comp rfl sc_Lrow.nd (di_range1 rfl (T.free "range" (by decide)) (dls_cons (ev 3) dls_nil)) (blkOk_by (N := N_Lrow) (sc := (defScope (top 60))) (own := [("_law_at", 5)]) (by decide +kernel)) (fun _ _ _ _ _ => kn 5 sc_Lrow.nd) (fun _ _ _ _ _ => dc_nil) (fun _ _ _ _ _ => (de_ix ix_D (dg_val de_str) (dg_val (de_op op_modD (gv 5) (gv 4)))))))) das_nil)))
    dss_nil) dss_nil)
    (dss_cons (ds_ret (de_callTy cl_tuple rfl (T.free "tuple" (by decide)) (by decide +kernel) (das_cons (dg_val (de_new (dn_comp rfl sc_Lrow.nd (di_range1 rfl (T.free "range" (by decide)) (dls_cons (ev 3) dls_nil)) (blkOk_by (N := N_Lrow) (sc := (defScope (top 60))) (own := [("_law_at", 5)]) (by decide +kernel)) (fun _ _ _ _ _ => kn 5 sc_Lrow.nd) (fun _ _ _ _ _ => dc_nil) (fun _ _ _ _ _ => (de_ix ix_D (dg_val de_str) (dg_val (ecall c_Ldraw hG hR (das_cons (gv 0) (das_cons (gv 4) das_nil))))))))) das_nil)))
    dss_nil)))
abbrev N_Lkit : List Str := ["_law_pool_here", "_law_way", "_law_many"]
theorem sc_Lkit : FnScope N_Lkit ["_law_pool_here"] (defScope (top 62)) := ⟨rfl, rfl, rfl, by decide +kernel, rfl, by decide +kernel, by decide +kernel⟩
def g_Lkit : SF := (fSq (fPar 1 2 (lCons (fCa 2 F_Ldraw (aCons (gVar 0) (aCons (gVal (fC (.int 4))) aNil))) (lCons (fOp addD (gVal (fC (.int 1))) (gVal (fCa 2 F_Ldraw (aCons (gVar 0) (aCons (gVal (fC (.int 4))) aNil))))) lNil)))
  (fSq (fIfS (fTst (fOp ltD (gVar 1) (gVal (fC (.int 2))))) (fSq (fRet (fCa 3 F_Ldevice (aCons (gVar 0) (aCons (gVal (fC (.int 2))) (aCons (gVal (fC (.int 3))) aNil)))))
  fNx) fNx)
  (fSq (fRet (fTup (lCons (fC (.str "cache")) (lCons (fOp ixD (gVal (fLst (lLst (lCons (fCa 1 F_Lrecent (aCons (gVar 2) aNil)) (lCons (fCa 1 F_Lqueue (aCons (gVar 2) aNil)) (lCons (fCa 3 F_Lpolicy (aCons (gVar 0) (aCons (gVar 2) (aCons (gVal (fC (.int 4))) aNil)))) lNil)))))) (gVal (fCa 2 F_Ldraw (aCons (gVar 0) (aCons (gVal (fC (.int 3))) aNil))))) lNil))))
  fNx)))
def F_Lkit : FF := fBody 2 g_Lkit
theorem ok_Lkit (F : FunD K "_law_kit" "_law_kit" (defArgs (top 62)) (defBody (top 62)) (defScope (top 62)) [] [] f fd) (T : Fx K w mg) (c_Ldevice : Cal P w K mg base k "_law_device" ["_law_pool_here", "_law_most", "_law_states"] (spD w K 3 F_Ldevice)) (c_Ldraw : Cal P w K mg base k "_law_draw" ["_law_pool_here", "_law_most"] (spD w K 2 F_Ldraw)) (c_Lpolicy : Cal P w K mg base k "_law_policy" ["_law_pool_here", "_law_lines", "_law_states"] (spD w K 3 F_Lpolicy)) (c_Lqueue : Cal P w K mg base k "_law_queue" ["_law_lines"] (spD w K 1 F_Lqueue)) (c_Lrecent : Cal P w K mg base k "_law_recent" ["_law_lines"] (spD w K 1 F_Lrecent)) :
    FnG P w K mg base (k + 1) f fd ["_law_pool_here"] (spD w K 1 F_Lkit) := by
  have h1 := okD (P := P) (w := w) (base := base) (mg := mg) (k := k) F sc_Lkit (g := g_Lkit)
  rw [show F_Lkit = fBody (N_Lkit.length - (["_law_pool_here"] : List Str).length) g_Lkit from rfl]
  refine h1 fun cdv A outer s H E hG hR => ?_
  have hu : (A.deeper (envOfC "_law_kit" (defScope (top 62)) s.heap.objs.size f cdv)).units + 65 < cLine := by
    have := hR.un
    omega
  have hu64 : (A.deeper (envOfC "_law_kit" (defScope (top 62)) s.heap.objs.size f cdv)).units + 64 < cLine := by omega
  exact (dss_cons (ds_par (i := 1) (j := 2) rfl sc_Lkit.nd rfl rfl (by decide) rfl rfl (dls_cons (ecall c_Ldraw hG hR (das_cons (gv 0) (das_cons (dg_val de_int) das_nil))) (dls_cons (de_op op_addD (dg_val de_int) (dg_val (ecall c_Ldraw hG hR (das_cons (gv 0) (das_cons (dg_val de_int) das_nil))))) dls_nil)) rfl)
    (dss_cons (ds_if (dt_cmp op_ltD (gv 1) (dg_val de_int) (by rfl)) (dss_cons (ds_ret (ecall c_Ldevice hG hR (das_cons (gv 0) (das_cons (dg_val de_int) (das_cons (dg_val de_int) das_nil)))))
    dss_nil) dss_nil)
    (dss_cons (ds_ret (de_tup (dls_cons de_str (dls_cons (de_ix ix_D (dg_val (de_new (dn_lst (dls_cons (ecall c_Lrecent hG hR (das_cons (gv 2) das_nil)) (dls_cons (ecall c_Lqueue hG hR (das_cons (gv 2) das_nil)) (dls_cons (ecall c_Lpolicy hG hR (das_cons (gv 0) (das_cons (gv 2) (das_cons (dg_val de_int) das_nil)))) dls_nil)))))) (dg_val (ecall c_Ldraw hG hR (das_cons (gv 0) (das_cons (dg_val de_int) das_nil))))) dls_nil))))
    dss_nil)))
end
end K77
namespace K77
open PySem PySem.Spec PyProof.Rows L2 GX StX DL PySem.Calls NdefX
variable [DL.FT]
section
variable {P : Program} {w : World} {K : PySem.W.Frag} {mg : Str → Option Value} {base : Heap} {k : Nat} {f : Addr} {fd : FuncData}
abbrev N_exchanged : List Str := ["parts", "index", "part"]
theorem sc_exchanged : FnScope N_exchanged ["parts", "index", "part"] (defScope (top 31)) := ⟨rfl, rfl, rfl, by decide +kernel, rfl, by decide +kernel, by decide +kernel⟩
def g_exchanged : SF := (fSq (fRet (fOp addD (gVal (fOp addD (gVal (fSl (gVar 0) oNone (oSome (fVar 1)))) (gVal (fTup (lCons (fVar 2) lNil))))) (gVal (fSl (gVar 0) (oSome (fOp addD (gVar 1) (gVal (fC (.int 1))))) oNone))))
  fNx)
def F_exchanged : FF := fBody 0 g_exchanged
theorem ok_exchanged (F : FunD K "exchanged" "exchanged" (defArgs (top 31)) (defBody (top 31)) (defScope (top 31)) [] [] f fd) (T : Fx K w mg) :
    FnG P w K mg base (k + 1) f fd ["parts", "index", "part"] (spD w K 3 F_exchanged) := by
  have h1 := okD (P := P) (w := w) (base := base) (mg := mg) (k := k) F sc_exchanged (g := g_exchanged)
  rw [show F_exchanged = fBody (N_exchanged.length - (["parts", "index", "part"] : List Str).length) g_exchanged from rfl]
  refine h1 fun cdv A outer s H E hG hR => ?_
  have hu : (A.deeper (envOfC "exchanged" (defScope (top 31)) s.heap.objs.size f cdv)).units + 65 < cLine := by
    have := hR.un
    omega
  have hu64 : (A.deeper (envOfC "exchanged" (defScope (top 31)) s.heap.objs.size f cdv)).units + 64 < cLine := by omega
  exact (dss_cons (ds_ret (de_op op_addD (dg_val (de_op op_addD (dg_val (de_slice (gv 0) do_none (do_some (ev 1)))) (dg_val (de_tup (dls_cons (ev 2) dls_nil))))) (dg_val (de_slice (gv 0) (do_some (de_op op_addD (gv 1) (dg_val de_int))) do_none))))
    dss_nil)
abbrev N_ask : List Str := ["policy", "state", "level", "name", "victim", "after", "hits"]
theorem sc_ask : FnScope N_ask ["policy", "state", "level", "name"] (defScope (top 36)) := ⟨rfl, rfl, rfl, by decide +kernel, rfl, by decide +kernel, by decide +kernel⟩
def g_ask : SF := (fSq (fAsg (fOp ixD (gVal (fOp ixD (gVar 0) (gVal (fC (.int 1))))) (gVar 1)) (tTupT 3 [(tName 4), (tName 5), (tName 6)]))
  (fSq (fIfS (fTst (fOp inD (gVar 3) (gVar 2))) (fSq (fRet (fTup (lCons (fC (.bool true)) (lCons (fOp ixD (gVar 6) (gVal (fMe "tuple" tIndexD (gVar 2) (aCons (gVar 3) aNil)))) (lCons (fVar 2) (lCons (fC .none) lNil))))))
  fNx) fNx)
  (fSq (fRet (fTup (lCons (fC (.bool false)) (lCons (fVar 5) (lCons (fCa 3 F_exchanged (aCons (gVar 2) (aCons (gVar 4) (aCons (gVar 3) aNil)))) (lCons (fOp ixD (gVar 2) (gVar 4)) lNil))))))
  fNx)))
def F_ask : FF := fBody 3 g_ask
theorem ok_ask (F : FunD K "ask" "ask" (defArgs (top 36)) (defBody (top 36)) (defScope (top 36)) [] [] f fd) (T : Fx K w mg) (c_exchanged : Cal P w K mg base k "exchanged" ["parts", "index", "part"] (spD w K 3 F_exchanged)) :
    FnG P w K mg base (k + 1) f fd ["policy", "state", "level", "name"] (spD w K 4 F_ask) := by
  have h1 := okD (P := P) (w := w) (base := base) (mg := mg) (k := k) F sc_ask (g := g_ask)
  rw [show F_ask = fBody (N_ask.length - (["policy", "state", "level", "name"] : List Str).length) g_ask from rfl]
  refine h1 fun cdv A outer s H E hG hR => ?_
  have hu : (A.deeper (envOfC "ask" (defScope (top 36)) s.heap.objs.size f cdv)).units + 65 < cLine := by
    have := hR.un
    omega
  have hu64 : (A.deeper (envOfC "ask" (defScope (top 36)) s.heap.objs.size f cdv)).units + 64 < cLine := by omega
  exact (dss_cons (ds_asg (de_ix ix_D (dg_val (de_ix ix_D (gv 0) (dg_val de_int))) (gv 1)) (dtg_tup rfl (dtgs_cons (tn 4 sc_ask.nd) (dtgs_cons (tn 5 sc_ask.nd) (dtgs_cons (tn 6 sc_ask.nd) dtgs_nil)))))
    (dss_cons (ds_if (dt_cmp (op_inDD hu) (gv 3) (gv 2) (by rfl)) (dss_cons (ds_ret (de_tup (dls_cons de_bl (dls_cons (de_ix ix_D (gv 6) (dg_val (mtindex hu (gv 2) (das_cons (gv 3) das_nil)))) (dls_cons (ev 2) (dls_cons de_non dls_nil))))))
    dss_nil) dss_nil)
    (dss_cons (ds_ret (de_tup (dls_cons de_bl (dls_cons (ev 5) (dls_cons (ecall c_exchanged hG hR (das_cons (gv 2) (das_cons (gv 4) (das_cons (gv 3) das_nil)))) (dls_cons (de_ix ix_D (gv 2) (gv 4)) dls_nil))))))
    dss_nil)))
abbrev N_swap : List Str := ["policy", "state", "level", "name", "left", "victim", "after", "hits", "line"]
theorem sc_swap : FnScope N_swap ["policy", "state", "level", "name", "left"] (defScope (top 37)) := ⟨rfl, rfl, rfl, by decide +kernel, rfl, by decide +kernel, by decide +kernel⟩
def g_swap : SF := (fSq (fAsg (fOp ixD (gVal (fOp ixD (gVar 0) (gVal (fC (.int 1))))) (gVar 1)) (tTupT 3 [(tName 5), (tName 6), (tName 7)]))
  (fSq (fIfS (fTst (fOp inD (gVar 3) (gVar 2))) (fSq (fAsg (fMe "tuple" tIndexD (gVar 2) (aCons (gVar 3) aNil)) (tName 8))
  (fSq (fRet (fTup (lCons (fC (.bool true)) (lCons (fOp ixD (gVar 7) (gVar 8)) (lCons (fCa 3 F_exchanged (aCons (gVar 2) (aCons (gVar 8) (aCons (gVar 4) aNil)))) lNil)))))
  fNx)) fNx)
  (fSq (fIfS (fTst (fOp isNoneD (gVar 4) (gVal (fC .none)))) (fSq (fRet (fTup (lCons (fC (.bool false)) (lCons (fVar 1) (lCons (fVar 2) lNil)))))
  fNx) fNx)
  (fSq (fRet (fTup (lCons (fC (.bool false)) (lCons (fVar 6) (lCons (fCa 3 F_exchanged (aCons (gVar 2) (aCons (gVar 5) (aCons (gVar 4) aNil)))) lNil)))))
  fNx))))
def F_swap : FF := fBody 4 g_swap
theorem ok_swap (F : FunD K "swap" "swap" (defArgs (top 37)) (defBody (top 37)) (defScope (top 37)) [] [] f fd) (T : Fx K w mg) (c_exchanged : Cal P w K mg base k "exchanged" ["parts", "index", "part"] (spD w K 3 F_exchanged)) :
    FnG P w K mg base (k + 1) f fd ["policy", "state", "level", "name", "left"] (spD w K 5 F_swap) := by
  have h1 := okD (P := P) (w := w) (base := base) (mg := mg) (k := k) F sc_swap (g := g_swap)
  rw [show F_swap = fBody (N_swap.length - (["policy", "state", "level", "name", "left"] : List Str).length) g_swap from rfl]
  refine h1 fun cdv A outer s H E hG hR => ?_
  have hu : (A.deeper (envOfC "swap" (defScope (top 37)) s.heap.objs.size f cdv)).units + 65 < cLine := by
    have := hR.un
    omega
  have hu64 : (A.deeper (envOfC "swap" (defScope (top 37)) s.heap.objs.size f cdv)).units + 64 < cLine := by omega
  exact (dss_cons (ds_asg (de_ix ix_D (dg_val (de_ix ix_D (gv 0) (dg_val de_int))) (gv 1)) (dtg_tup rfl (dtgs_cons (tn 5 sc_swap.nd) (dtgs_cons (tn 6 sc_swap.nd) (dtgs_cons (tn 7 sc_swap.nd) dtgs_nil)))))
    (dss_cons (ds_if (dt_cmp (op_inDD hu) (gv 3) (gv 2) (by rfl)) (dss_cons (sset 8 sc_swap.nd (mtindex hu (gv 2) (das_cons (gv 3) das_nil)))
    (dss_cons (ds_ret (de_tup (dls_cons de_bl (dls_cons (de_ix ix_D (gv 7) (gv 8)) (dls_cons (ecall c_exchanged hG hR (das_cons (gv 2) (das_cons (gv 8) (das_cons (gv 4) das_nil)))) dls_nil)))))
    dss_nil)) dss_nil)
    (dss_cons (ds_if (dt_cmp op_isD (gv 4) (dg_val de_non) (by rfl)) (dss_cons (ds_ret (de_tup (dls_cons de_bl (dls_cons (ev 1) (dls_cons (ev 2) dls_nil)))))
    dss_nil) dss_nil)
    (dss_cons (ds_ret (de_tup (dls_cons de_bl (dls_cons (ev 6) (dls_cons (ecall c_exchanged hG hR (das_cons (gv 2) (das_cons (gv 5) (das_cons (gv 4) das_nil)))) dls_nil)))))
    dss_nil))))
abbrev N_servelevels : List Str := ["device", "states", "contents", "name", "mode", "upper", "lower", "near", "far", "hit", "state", "left", "low", "dropped", "held"]
theorem sc_servelevels : FnScope N_servelevels ["device", "states", "contents", "name"] (defScope (top 35)) := ⟨rfl, rfl, rfl, by decide +kernel, rfl, by decide +kernel, by decide +kernel⟩
def g_servelevels : SF := (fSq (fAsg (fVar 0) (tTupT 3 [(tName 4), (tName 5), (tName 6)]))
  (fSq (fPar 7 8 (lCons (fSl (gVar 2) oNone (oSome (fOp ixD (gVar 5) (gVal (fC (.int 0)))))) (lCons (fSl (gVar 2) (oSome (fOp ixD (gVar 5) (gVal (fC (.int 0))))) oNone) lNil)))
  (fSq (fAsg (fCa 4 F_ask (aCons (gVar 5) (aCons (gVal (fOp ixD (gVar 1) (gVal (fC (.int 0))))) (aCons (gVar 7) (aCons (gVar 3) aNil))))) (tTupT 4 [(tName 9), (tName 10), (tName 7), (tName 11)]))
  (fSq (fIfS (fTst (fVar 9)) (fSq (fRet (fTup (lCons (fC (.bool true)) (lCons (fTup (lCons (fVar 10) (lCons (fOp ixD (gVar 1) (gVal (fC (.int 1)))) lNil))) (lCons (fVar 2) lNil)))))
  fNx) fNx)
  (fSq (fIfS (fTst (fOp eqD (gVar 4) (gVal (fC (.str "victim"))))) (fSq (fAsg (fCa 5 F_swap (aCons (gVar 6) (aCons (gVal (fOp ixD (gVar 1) (gVal (fC (.int 1))))) (aCons (gVar 8) (aCons (gVar 3) (aCons (gVar 11) aNil)))))) (tTupT 3 [(tName 9), (tName 12), (tName 8)]))
  (fSq (fRet (fTup (lCons (fVar 9) (lCons (fTup (lCons (fVar 10) (lCons (fVar 12) lNil))) (lCons (fOp addD (gVar 7) (gVar 8)) lNil)))))
  fNx)) fNx)
  (fSq (fAsg (fCa 4 F_ask (aCons (gVar 6) (aCons (gVal (fOp ixD (gVar 1) (gVal (fC (.int 1))))) (aCons (gVar 8) (aCons (gVar 3) aNil))))) (tTupT 4 [(tName 9), (tName 12), (tName 8), (tName 13)]))
  (fSq (fIfS (fTst (fOp eqD (gVar 4) (gVal (fC (.str "inclusive"))))) (fSq (fAsg (fCl tupleD (aCons (gVal (fLst (fComp (iSeq (fVar 7)) [14] (tName 14) fYes (fIf (fTst (fOp eqD (gVar 14) (gVar 13))) (fC .none) (fVar 14))))) aNil)) (tName 7))
  fNx) fNx)
  (fSq (fRet (fTup (lCons (fVar 9) (lCons (fTup (lCons (fVar 10) (lCons (fVar 12) lNil))) (lCons (fOp addD (gVar 7) (gVar 8)) lNil)))))
  fNx))))))))
def F_servelevels : FF := fBody 11 g_servelevels
theorem ok_servelevels (F : FunD K "serve_levels" "serve_levels" (defArgs (top 35)) (defBody (top 35)) (defScope (top 35)) [] [] f fd) (T : Fx K w mg) (c_ask : Cal P w K mg base k "ask" ["policy", "state", "level", "name"] (spD w K 4 F_ask)) (c_swap : Cal P w K mg base k "swap" ["policy", "state", "level", "name", "left"] (spD w K 5 F_swap)) :
    FnG P w K mg base (k + 1) f fd ["device", "states", "contents", "name"] (spD w K 4 F_servelevels) := by
  have h1 := okD (P := P) (w := w) (base := base) (mg := mg) (k := k) F sc_servelevels (g := g_servelevels)
  rw [show F_servelevels = fBody (N_servelevels.length - (["device", "states", "contents", "name"] : List Str).length) g_servelevels from rfl]
  refine h1 fun cdv A outer s H E hG hR => ?_
  have hu : (A.deeper (envOfC "serve_levels" (defScope (top 35)) s.heap.objs.size f cdv)).units + 65 < cLine := by
    have := hR.un
    omega
  have hu64 : (A.deeper (envOfC "serve_levels" (defScope (top 35)) s.heap.objs.size f cdv)).units + 64 < cLine := by omega
  exact (dss_cons (ds_asg (ev 0) (dtg_tup rfl (dtgs_cons (tn 4 sc_servelevels.nd) (dtgs_cons (tn 5 sc_servelevels.nd) (dtgs_cons (tn 6 sc_servelevels.nd) dtgs_nil)))))
    (dss_cons (ds_par (i := 7) (j := 8) rfl sc_servelevels.nd rfl rfl (by decide) rfl rfl (dls_cons (de_slice (gv 2) do_none (do_some (de_ix ix_D (gv 5) (dg_val de_int)))) (dls_cons (de_slice (gv 2) (do_some (de_ix ix_D (gv 5) (dg_val de_int))) do_none) dls_nil)) rfl)
    (dss_cons (ds_asg (ecall c_ask hG hR (das_cons (gv 5) (das_cons (dg_val (de_ix ix_D (gv 1) (dg_val de_int))) (das_cons (gv 7) (das_cons (gv 3) das_nil))))) (dtg_tup rfl (dtgs_cons (tn 9 sc_servelevels.nd) (dtgs_cons (tn 10 sc_servelevels.nd) (dtgs_cons (tn 7 sc_servelevels.nd) (dtgs_cons (tn 11 sc_servelevels.nd) dtgs_nil))))))
    (dss_cons (ds_if (dt_val (ev 9)) (dss_cons (ds_ret (de_tup (dls_cons de_bl (dls_cons (de_tup (dls_cons (ev 10) (dls_cons (de_ix ix_D (gv 1) (dg_val de_int)) dls_nil))) (dls_cons (ev 2) dls_nil)))))
    dss_nil) dss_nil)
    (dss_cons (ds_if (dt_cmp (op_eqDD hu64) (gv 4) (dg_val de_str) (by rfl)) (dss_cons (ds_asg (ecall c_swap hG hR (das_cons (gv 6) (das_cons (dg_val (de_ix ix_D (gv 1) (dg_val de_int))) (das_cons (gv 8) (das_cons (gv 3) (das_cons (gv 11) das_nil)))))) (dtg_tup rfl (dtgs_cons (tn 9 sc_servelevels.nd) (dtgs_cons (tn 12 sc_servelevels.nd) (dtgs_cons (tn 8 sc_servelevels.nd) dtgs_nil)))))
    (dss_cons (ds_ret (de_tup (dls_cons (ev 9) (dls_cons (de_tup (dls_cons (ev 10) (dls_cons (ev 12) dls_nil))) (dls_cons (de_op op_addD (gv 7) (gv 8)) dls_nil)))))
    dss_nil)) dss_nil)
    (dss_cons (ds_asg (ecall c_ask hG hR (das_cons (gv 6) (das_cons (dg_val (de_ix ix_D (gv 1) (dg_val de_int))) (das_cons (gv 8) (das_cons (gv 3) das_nil))))) (dtg_tup rfl (dtgs_cons (tn 9 sc_servelevels.nd) (dtgs_cons (tn 12 sc_servelevels.nd) (dtgs_cons (tn 8 sc_servelevels.nd) (dtgs_cons (tn 13 sc_servelevels.nd) dtgs_nil))))))
    (dss_cons (ds_if (dt_cmp (op_eqDD hu64) (gv 4) (dg_val de_str) (by rfl)) (dss_cons (sset 7 sc_servelevels.nd (de_callTy cl_tuple rfl (T.free "tuple" (by decide)) (by decide +kernel) (das_cons (dg_val (de_new (dn_comp rfl sc_servelevels.nd (di_seq (ev 7)) (blkOk_by (N := N_servelevels) (sc := (defScope (top 35))) (own := [("held", 14)]) (by decide +kernel)) (fun _ _ _ _ _ => kn 14 sc_servelevels.nd) (fun _ _ _ _ _ => dc_nil) (fun _ _ _ _ _ => (de_if (dt_cmp (op_eqDD hu64) (gv 14) (gv 13) (by rfl)) de_non (ev 14)))))) das_nil)))
    dss_nil) dss_nil)
    (dss_cons (ds_ret (de_tup (dls_cons (ev 9) (dls_cons (de_tup (dls_cons (ev 10) (dls_cons (ev 12) dls_nil))) (dls_cons (de_op op_addD (gv 7) (gv 8)) dls_nil)))))
    dss_nil))))))))
abbrev N_serve : List Str := ["device", "states", "contents", "name", "hit", "state", "left"]
theorem sc_serve : FnScope N_serve ["device", "states", "contents", "name"] (defScope (top 34)) := ⟨rfl, rfl, rfl, by decide +kernel, rfl, by decide +kernel, by decide +kernel⟩
def g_serve : SF := (fSq (fIfS (fTst (fOp eqD (gVal (fOp ixD (gVar 0) (gVal (fC (.int 0))))) (gVal (fC (.str "cache"))))) (fSq (fAsg (fCa 4 F_ask (aCons (gVal (fOp ixD (gVar 0) (gVal (fC (.int 1))))) (aCons (gVal (fOp ixD (gVar 1) (gVal (fC (.int 0))))) (aCons (gVar 2) (aCons (gVar 3) aNil))))) (tTupT 4 [(tName 4), (tName 5), (tName 2), (tName 6)]))
  (fSq (fRet (fTup (lCons (fVar 4) (lCons (fTup (lCons (fVar 5) lNil)) (lCons (fVar 2) lNil)))))
  fNx)) fNx)
  (fSq (fRet (fCa 4 F_servelevels (aCons (gVar 0) (aCons (gVar 1) (aCons (gVar 2) (aCons (gVar 3) aNil))))))
  fNx))
def F_serve : FF := fBody 3 g_serve
theorem ok_serve (F : FunD K "serve" "serve" (defArgs (top 34)) (defBody (top 34)) (defScope (top 34)) [] [] f fd) (T : Fx K w mg) (c_ask : Cal P w K mg base k "ask" ["policy", "state", "level", "name"] (spD w K 4 F_ask)) (c_servelevels : Cal P w K mg base k "serve_levels" ["device", "states", "contents", "name"] (spD w K 4 F_servelevels)) :
    FnG P w K mg base (k + 1) f fd ["device", "states", "contents", "name"] (spD w K 4 F_serve) := by
  have h1 := okD (P := P) (w := w) (base := base) (mg := mg) (k := k) F sc_serve (g := g_serve)
  rw [show F_serve = fBody (N_serve.length - (["device", "states", "contents", "name"] : List Str).length) g_serve from rfl]
  refine h1 fun cdv A outer s H E hG hR => ?_
  have hu : (A.deeper (envOfC "serve" (defScope (top 34)) s.heap.objs.size f cdv)).units + 65 < cLine := by
    have := hR.un
    omega
  have hu64 : (A.deeper (envOfC "serve" (defScope (top 34)) s.heap.objs.size f cdv)).units + 64 < cLine := by omega
  exact (dss_cons (ds_if (dt_cmp (op_eqDD hu64) (dg_val (de_ix ix_D (gv 0) (dg_val de_int))) (dg_val de_str) (by rfl)) (dss_cons (ds_asg (ecall c_ask hG hR (das_cons (dg_val (de_ix ix_D (gv 0) (dg_val de_int))) (das_cons (dg_val (de_ix ix_D (gv 1) (dg_val de_int))) (das_cons (gv 2) (das_cons (gv 3) das_nil))))) (dtg_tup rfl (dtgs_cons (tn 4 sc_serve.nd) (dtgs_cons (tn 5 sc_serve.nd) (dtgs_cons (tn 2 sc_serve.nd) (dtgs_cons (tn 6 sc_serve.nd) dtgs_nil))))))
    (dss_cons (ds_ret (de_tup (dls_cons (ev 4) (dls_cons (de_tup (dls_cons (ev 5) dls_nil)) (dls_cons (ev 2) dls_nil)))))
    dss_nil)) dss_nil)
    (dss_cons (ds_ret (ecall c_servelevels hG hR (das_cons (gv 0) (das_cons (gv 1) (das_cons (gv 2) (das_cons (gv 3) das_nil))))))
    dss_nil))
abbrev N_startof : List Str := ["device", "lines", "policy"]
theorem sc_startof : FnScope N_startof ["device"] (defScope (top 33)) := ⟨rfl, rfl, rfl, by decide +kernel, rfl, by decide +kernel, by decide +kernel⟩
def g_startof : SF := (fSq (fAsg (fCl sumD (aCons (gVal (fLst (fComp (iSeq (fSl (gVar 0) (oSome (fC (.int 1))) oNone)) [2] (tName 2) fYes (fOp ixD (gVar 2) (gVal (fC (.int 0))))))) aNil)) (tName 1))
  (fSq (fRet (fTup (lCons (fOp mulD (gVal (fTup (lCons (fC (.int 0)) lNil))) (gVal (fOp subD (gVal (fCl lenD (aCons (gVar 0) aNil))) (gVal (fC (.int 1)))))) (lCons (fOp mulD (gVal (fTup (lCons (fC .none) lNil))) (gVar 1)) lNil))))
  fNx))
def F_startof : FF := fBody 2 g_startof
theorem ok_startof (F : FunD K "start_of" "start_of" (defArgs (top 33)) (defBody (top 33)) (defScope (top 33)) [] [] f fd) (T : Fx K w mg) :
    FnG P w K mg base (k + 1) f fd ["device"] (spD w K 1 F_startof) := by
  have h1 := okD (P := P) (w := w) (base := base) (mg := mg) (k := k) F sc_startof (g := g_startof)
  rw [show F_startof = fBody (N_startof.length - (["device"] : List Str).length) g_startof from rfl]
  refine h1 fun cdv A outer s H E hG hR => ?_
  have hu : (A.deeper (envOfC "start_of" (defScope (top 33)) s.heap.objs.size f cdv)).units + 65 < cLine := by
    have := hR.un
    omega
  have hu64 : (A.deeper (envOfC "start_of" (defScope (top 33)) s.heap.objs.size f cdv)).units + 64 < cLine := by omega
  exact (dss_cons (sset 1 sc_startof.nd (de_callB (cl_sum rfl) rfl (T.free "sum" (by decide)) (by decide +kernel) (das_cons (dg_val (de_new (dn_comp rfl sc_startof.nd (di_seq (de_slice (gv 0) (do_some de_int) do_none)) (blkOk_by (N := N_startof) (sc := (defScope (top 33))) (own := [("policy", 2)]) (by decide +kernel)) (fun _ _ _ _ _ => kn 2 sc_startof.nd) (fun _ _ _ _ _ => dc_nil) (fun _ _ _ _ _ => (de_ix ix_D (gv 2) (dg_val de_int)))))) das_nil)))
    (dss_cons (ds_ret (de_tup (dls_cons (de_op op_mulD (dg_val (de_tup (dls_cons de_int dls_nil))) (dg_val (de_op op_subD (dg_val (de_callB cl_len rfl (T.free "len" (by decide)) (by decide +kernel) (das_cons (gv 0) das_nil))) (dg_val de_int)))) (dls_cons (de_op op_mulD (dg_val (de_tup (dls_cons de_non dls_nil))) (gv 1)) dls_nil))))
    dss_nil))
end
end K77
namespace K77
open PySem PySem.Spec PyProof.Rows L2 GX StX DL PySem.Calls NdefX
variable [DL.FT]
section
variable {P : Program} {w : World} {K : PySem.W.Frag} {mg : Str → Option Value} {base : Heap} {k : Nat} {f : Addr} {fd : FuncData}
abbrev N_isrow : List Str := ["value", "lines", "states", "victim", "after", "hits", "state"]
theorem sc_isrow : FnScope N_isrow ["value", "lines", "states"] (defScope (top 41)) := ⟨rfl, rfl, rfl, by decide +kernel, rfl, by decide +kernel, by decide +kernel⟩
def g_isrow : SF := (fSq (fIfS (fNot (fTst (fCa 3 F_istuple (aCons (gVar 0) (aCons (gVal (fC (.int 3))) (aCons (gVal (fC (.int 3))) aNil)))))) (fSq (fRet (fC (.bool false)))
  fNx) fNx)
  (fSq (fAsg (fVar 0) (tTupT 3 [(tName 3), (tName 4), (tName 5)]))
  (fSq (fIfS (fOr (fNot (fTst (fCa 3 F_isbetween (aCons (gVar 3) (aCons (gVal (fC (.int 0))) (aCons (gVal (fOp subD (gVar 1) (gVal (fC (.int 1))))) aNil)))))) (fNot (fTst (fCa 3 F_istuple (aCons (gVar 5) (aCons (gVar 1) (aCons (gVar 1) aNil))))))) (fSq (fRet (fC (.bool false)))
  fNx) fNx)
  (fSq (fRet (fCl allD (aCons (gVal (fLst (fComp (iSeq (fTup (lCons (fVar 4) (lStar (fVar 5) lNil)))) [6] (tName 6) fYes (fCa 3 F_isbetween (aCons (gVar 6) (aCons (gVal (fC (.int 0))) (aCons (gVal (fOp subD (gVar 2) (gVal (fC (.int 1))))) aNil))))))) aNil)))
  fNx))))
def F_isrow : FF := fBody 4 g_isrow
theorem ok_isrow (F : FunD K "is_row" "is_row" (defArgs (top 41)) (defBody (top 41)) (defScope (top 41)) [] [] f fd) (T : Fx K w mg) (c_isbetween : Cal P w K mg base k "is_between" ["value", "least", "most"] (spD w K 3 F_isbetween)) (c_istuple : Cal P w K mg base k "is_tuple" ["value", "least", "most"] (spD w K 3 F_istuple)) :
    FnG P w K mg base (k + 1) f fd ["value", "lines", "states"] (spD w K 3 F_isrow) := by
  have h1 := okD (P := P) (w := w) (base := base) (mg := mg) (k := k) F sc_isrow (g := g_isrow)
  rw [show F_isrow = fBody (N_isrow.length - (["value", "lines", "states"] : List Str).length) g_isrow from rfl]
  refine h1 fun cdv A outer s H E hG hR => ?_
  have hu : (A.deeper (envOfC "is_row" (defScope (top 41)) s.heap.objs.size f cdv)).units + 65 < cLine := by
    have := hR.un
    omega
  have hu64 : (A.deeper (envOfC "is_row" (defScope (top 41)) s.heap.objs.size f cdv)).units + 64 < cLine := by omega
  exact (dss_cons (ds_if (dt_not (dt_val (ecall c_istuple hG hR (das_cons (gv 0) (das_cons (dg_val de_int) (das_cons (dg_val de_int) das_nil)))))) (dss_cons (ds_ret de_bl)
    dss_nil) dss_nil)
    (dss_cons (ds_asg (ev 0) (dtg_tup rfl (dtgs_cons (tn 3 sc_isrow.nd) (dtgs_cons (tn 4 sc_isrow.nd) (dtgs_cons (tn 5 sc_isrow.nd) dtgs_nil)))))
    (dss_cons (ds_if (dt_w (dw_or (dt_not (dt_val (ecall c_isbetween hG hR (das_cons (gv 3) (das_cons (dg_val de_int) (das_cons (dg_val (de_op op_subD (gv 1) (dg_val de_int))) das_nil)))))) (dw_or1 (dt_not (dt_val (ecall c_istuple hG hR (das_cons (gv 5) (das_cons (gv 1) (das_cons (gv 1) das_nil))))))))) (dss_cons (ds_ret de_bl)
    dss_nil) dss_nil)
    (dss_cons (ds_ret (de_callB (cl_all rfl) rfl (T.free "all" (by decide)) (by decide +kernel) (das_cons (dg_val (de_new (dn_comp rfl sc_isrow.nd (di_seq (de_tup (dls_cons (ev 4) (dls_star (ev 5) dls_nil)))) (blkOk_by (N := N_isrow) (sc := (defScope (top 41))) (own := [("state", 6)]) (by decide +kernel)) (fun _ _ _ _ _ => kn 6 sc_isrow.nd) (fun _ _ _ _ _ => dc_nil) (fun _ _ _ _ _ => (ecall c_isbetween hG hR (das_cons (gv 6) (das_cons (dg_val de_int) (das_cons (dg_val (de_op op_subD (gv 2) (dg_val de_int))) das_nil)))))))) das_nil)))
    dss_nil))))
abbrev N_ispolicy : List Str := ["value", "lines", "rows", "row"]
theorem sc_ispolicy : FnScope N_ispolicy ["value"] (defScope (top 40)) := ⟨rfl, rfl, rfl, by decide +kernel, rfl, by decide +kernel, by decide +kernel⟩
def g_ispolicy : SF := (fSq (fIfS (fNot (fTst (fCa 3 F_istuple (aCons (gVar 0) (aCons (gVal (fC (.int 2))) (aCons (gVal (fC (.int 2))) aNil)))))) (fSq (fRet (fC (.bool false)))
  fNx) fNx)
  (fSq (fAsg (fVar 0) (tTupT 2 [(tName 1), (tName 2)]))
  (fSq (fIfS (fOr (fNot (fTst (fCa 3 F_isbetween (aCons (gVar 1) (aCons (gVal (fC (.int 1))) (aCons (gVal (fC (.int 4))) aNil)))))) (fNot (fTst (fCa 3 F_istuple (aCons (gVar 2) (aCons (gVal (fC (.int 1))) (aCons (gVal (fC (.int 64))) aNil))))))) (fSq (fRet (fC (.bool false)))
  fNx) fNx)
  (fSq (fRet (fCl allD (aCons (gVal (fLst (fComp (iSeq (fVar 2)) [3] (tName 3) fYes (fCa 3 F_isrow (aCons (gVar 3) (aCons (gVar 1) (aCons (gVal (fCl lenD (aCons (gVar 2) aNil))) aNil))))))) aNil)))
  fNx))))
def F_ispolicy : FF := fBody 3 g_ispolicy
theorem ok_ispolicy (F : FunD K "is_policy" "is_policy" (defArgs (top 40)) (defBody (top 40)) (defScope (top 40)) [] [] f fd) (T : Fx K w mg) (c_isbetween : Cal P w K mg base k "is_between" ["value", "least", "most"] (spD w K 3 F_isbetween)) (c_isrow : Cal P w K mg base k "is_row" ["value", "lines", "states"] (spD w K 3 F_isrow)) (c_istuple : Cal P w K mg base k "is_tuple" ["value", "least", "most"] (spD w K 3 F_istuple)) :
    FnG P w K mg base (k + 1) f fd ["value"] (spD w K 1 F_ispolicy) := by
  have h1 := okD (P := P) (w := w) (base := base) (mg := mg) (k := k) F sc_ispolicy (g := g_ispolicy)
  rw [show F_ispolicy = fBody (N_ispolicy.length - (["value"] : List Str).length) g_ispolicy from rfl]
  refine h1 fun cdv A outer s H E hG hR => ?_
  have hu : (A.deeper (envOfC "is_policy" (defScope (top 40)) s.heap.objs.size f cdv)).units + 65 < cLine := by
    have := hR.un
    omega
  have hu64 : (A.deeper (envOfC "is_policy" (defScope (top 40)) s.heap.objs.size f cdv)).units + 64 < cLine := by omega
  exact (dss_cons (ds_if (dt_not (dt_val (ecall c_istuple hG hR (das_cons (gv 0) (das_cons (dg_val de_int) (das_cons (dg_val de_int) das_nil)))))) (dss_cons (ds_ret de_bl)
    dss_nil) dss_nil)
    (dss_cons (ds_asg (ev 0) (dtg_tup rfl (dtgs_cons (tn 1 sc_ispolicy.nd) (dtgs_cons (tn 2 sc_ispolicy.nd) dtgs_nil))))
    (dss_cons (ds_if (dt_w (dw_or (dt_not (dt_val (ecall c_isbetween hG hR (das_cons (gv 1) (das_cons (dg_val de_int) (das_cons (dg_val (de_gint rfl T.i4.choose_spec)) das_nil)))))) (dw_or1 (dt_not (dt_val (ecall c_istuple hG hR (das_cons (gv 2) (das_cons (dg_val de_int) (das_cons (dg_val (de_gint rfl T.i64.choose_spec)) das_nil))))))))) (dss_cons (ds_ret de_bl)
    dss_nil) dss_nil)
    (dss_cons (ds_ret (de_callB (cl_all rfl) rfl (T.free "all" (by decide)) (by decide +kernel) (das_cons (dg_val (de_new (dn_comp rfl sc_ispolicy.nd (di_seq (ev 2)) (blkOk_by (N := N_ispolicy) (sc := (defScope (top 40))) (own := [("row", 3)]) (by decide +kernel)) (fun _ _ _ _ _ => kn 3 sc_ispolicy.nd) (fun _ _ _ _ _ => dc_nil) (fun _ _ _ _ _ => (ecall c_isrow hG hR (das_cons (gv 3) (das_cons (gv 1) (das_cons (dg_val (de_callB cl_len rfl (T.free "len" (by decide)) (by decide +kernel) (das_cons (gv 2) das_nil))) das_nil)))))))) das_nil)))
    dss_nil))))
abbrev N_isdevice : List Str := ["value", "mode", "policies", "policy"]
theorem sc_isdevice : FnScope N_isdevice ["value"] (defScope (top 42)) := ⟨rfl, rfl, rfl, by decide +kernel, rfl, by decide +kernel, by decide +kernel⟩
def g_isdevice : SF := (fSq (fIfS (fNot (fTst (fCa 3 F_istuple (aCons (gVar 0) (aCons (gVal (fC (.int 2))) (aCons (gVal (fC (.int 3))) aNil)))))) (fSq (fRet (fC (.bool false)))
  fNx) fNx)
  (fSq (fAsg (fVar 0) (tRest 1 2))
  (fSq (fIfS (fOr (fNot (fTst (fIsa dStr (gVar 1)))) (fTst (fOp neD (gVal (fLev (fVar 1))) (gVal (fCl lenD (aCons (gVar 2) aNil)))))) (fSq (fRet (fC (.bool false)))
  fNx) fNx)
  (fSq (fRet (fCl allD (aCons (gVal (fLst (fComp (iSeq (fVar 2)) [3] (tName 3) fYes (fCa 1 F_ispolicy (aCons (gVar 3) aNil))))) aNil)))
  fNx))))
def F_isdevice : FF := fBody 3 g_isdevice
theorem ok_isdevice (F : FunD K "is_device" "is_device" (defArgs (top 42)) (defBody (top 42)) (defScope (top 42)) [] [] f fd) (T : Fx K w mg) (c_ispolicy : Cal P w K mg base k "is_policy" ["value"] (spD w K 1 F_ispolicy)) (c_istuple : Cal P w K mg base k "is_tuple" ["value", "least", "most"] (spD w K 3 F_istuple)) :
    FnG P w K mg base (k + 1) f fd ["value"] (spD w K 1 F_isdevice) := by
  have h1 := okD (P := P) (w := w) (base := base) (mg := mg) (k := k) F sc_isdevice (g := g_isdevice)
  rw [show F_isdevice = fBody (N_isdevice.length - (["value"] : List Str).length) g_isdevice from rfl]
  refine h1 fun cdv A outer s H E hG hR => ?_
  have hu : (A.deeper (envOfC "is_device" (defScope (top 42)) s.heap.objs.size f cdv)).units + 65 < cLine := by
    have := hR.un
    omega
  have hu64 : (A.deeper (envOfC "is_device" (defScope (top 42)) s.heap.objs.size f cdv)).units + 64 < cLine := by omega
  exact (dss_cons (ds_if (dt_not (dt_val (ecall c_istuple hG hR (das_cons (gv 0) (das_cons (dg_val de_int) (das_cons (dg_val de_int) das_nil)))))) (dss_cons (ds_ret de_bl)
    dss_nil) dss_nil)
    (dss_cons (ds_asg (ev 0) (dtg_rest rfl sc_isdevice.nd rfl rfl (Or.inl rfl) (Or.inl rfl)))
    (dss_cons (ds_if (dt_w (dw_or (dt_not (dt_val (de_isa kit_str (gv 1) rfl (T.free "isinstance" (by decide)) rfl (T.free "str" (by decide)) (by decide +kernel)))) (dw_or1 (dt_cmp (op_neDD hu64) (dg_val (de_lev T.lev.choose_spec.2 (pe_glob (v := .ref T.lev.choose) rfl T.lev.choose_spec.1 rfl) (ev 1) ⟨rfl, rfl, rfl, rfl⟩)) (dg_val (de_callB cl_len rfl (T.free "len" (by decide)) (by decide +kernel) (das_cons (gv 2) das_nil))) (by rfl))))) (dss_cons (ds_ret de_bl)
    dss_nil) dss_nil)
    (dss_cons (ds_ret (de_callB (cl_all rfl) rfl (T.free "all" (by decide)) (by decide +kernel) (das_cons (dg_val (de_new (dn_comp rfl sc_isdevice.nd (di_seq (ev 2)) (blkOk_by (N := N_isdevice) (sc := (defScope (top 42))) (own := [("policy", 3)]) (by decide +kernel)) (fun _ _ _ _ _ => kn 3 sc_isdevice.nd) (fun _ _ _ _ _ => dc_nil) (fun _ _ _ _ _ => (ecall c_ispolicy hG hR (das_cons (gv 3) das_nil)))))) das_nil)))
    dss_nil))))
abbrev N_checkdevice : List Str := ["value"]
theorem sc_checkdevice : FnScope N_checkdevice ["value"] (defScope (top 43)) := ⟨rfl, rfl, rfl, by decide +kernel, rfl, by decide +kernel, by decide +kernel⟩
def g_checkdevice : SF := (fSq (fIfS (fNot (fTst (fCa 1 F_isdevice (aCons (gVar 0) aNil)))) (fSq fNv
  fNx) fNx)
  fNx)
def F_checkdevice : FF := fBody 0 g_checkdevice
theorem ok_checkdevice (F : FunD K "check_device" "check_device" (defArgs (top 43)) (defBody (top 43)) (defScope (top 43)) [] [] f fd) (T : Fx K w mg) (c_isdevice : Cal P w K mg base k "is_device" ["value"] (spD w K 1 F_isdevice)) :
    FnG P w K mg base (k + 1) f fd ["value"] (spD w K 1 F_checkdevice) := by
  have h1 := okD (P := P) (w := w) (base := base) (mg := mg) (k := k) F sc_checkdevice (g := g_checkdevice)
  rw [show F_checkdevice = fBody (N_checkdevice.length - (["value"] : List Str).length) g_checkdevice from rfl]
  refine h1 fun cdv A outer s H E hG hR => ?_
  have hu : (A.deeper (envOfC "check_device" (defScope (top 43)) s.heap.objs.size f cdv)).units + 65 < cLine := by
    have := hR.un
    omega
  have hu64 : (A.deeper (envOfC "check_device" (defScope (top 43)) s.heap.objs.size f cdv)).units + 64 < cLine := by omega
  exact (dss_cons (ds_if (dt_not (dt_val (ecall c_isdevice hG hR (das_cons (gv 0) das_nil)))) (dss_cons ds_nv
    dss_nil) dss_nil)
    dss_nil)
abbrev N_countlines : List Str := ["device", "lines", "rows"]
theorem sc_countlines : FnScope N_countlines ["device"] (defScope (top 44)) := ⟨rfl, rfl, rfl, by decide +kernel, rfl, by decide +kernel, by decide +kernel⟩
def g_countlines : SF := (fSq (fDrop (fCa 1 F_checkdevice (aCons (gVar 0) aNil)))
  (fSq (fRet (fCl sumD (aCons (gVal (fLst (fComp (iSeq (fSl (gVar 0) (oSome (fC (.int 1))) oNone)) [1, 2] (tTupT 2 [tName 1, tName 2]) fYes (fVar 1)))) aNil)))
  fNx))
def F_countlines : FF := fBody 2 g_countlines
theorem ok_countlines (F : FunD K "count_lines" "count_lines" (defArgs (top 44)) (defBody (top 44)) (defScope (top 44)) [] [] f fd) (T : Fx K w mg) (c_checkdevice : Cal P w K mg base k "check_device" ["value"] (spD w K 1 F_checkdevice)) :
    FnG P w K mg base (k + 1) f fd ["device"] (spD w K 1 F_countlines) := by
  have h1 := okD (P := P) (w := w) (base := base) (mg := mg) (k := k) F sc_countlines (g := g_countlines)
  rw [show F_countlines = fBody (N_countlines.length - (["device"] : List Str).length) g_countlines from rfl]
  refine h1 fun cdv A outer s H E hG hR => ?_
  have hu : (A.deeper (envOfC "count_lines" (defScope (top 44)) s.heap.objs.size f cdv)).units + 65 < cLine := by
    have := hR.un
    omega
  have hu64 : (A.deeper (envOfC "count_lines" (defScope (top 44)) s.heap.objs.size f cdv)).units + 64 < cLine := by omega
  exact (dss_cons (ds_expr (ecall c_checkdevice hG hR (das_cons (gv 0) das_nil)))
    (dss_cons (ds_ret (de_callB (cl_sum rfl) rfl (T.free "sum" (by decide)) (by decide +kernel) (das_cons (dg_val (de_new (dn_kT (own := [("lines", 1), ("rows", 2)]) rfl rfl sc_countlines.nd (di_seq (de_slice (gv 0) (do_some de_int) do_none)) (blkOk_by (N := N_countlines) (sc := (defScope (top 44))) (own := [("lines", 1), ("rows", 2)]) (by decide +kernel)) (fun _ _ _ _ _ => pg_tup rfl (pgs_cons (kn 1 sc_countlines.nd) (pgs_cons (kn 2 sc_countlines.nd) pgs_nil))) (fun _ _ _ _ _ => pg_unl rfl (pgs_cons (kn 1 sc_countlines.nd) (pgs_cons (kn 2 sc_countlines.nd) pgs_nil))) (fun _ _ _ _ _ => dc_nil) (fun _ _ _ _ _ => (ev 1))))) das_nil)))
    dss_nil))
end
end K77
namespace K77
open PySem PySem.Spec PyProof.Rows L2 GX StX DL PySem.Calls NdefX
variable [DL.FT]
section
variable {P : Program} {w : World} {K : PySem.W.Frag} {mg : Str → Option Value} {base : Heap} {k : Nat} {f : Addr} {fd : FuncData}
abbrev N_Minit : List Str := ["self", "device"]
theorem sc_Minit : FnScope N_Minit ["self", "device"] (defScope (meth 46 2)) := ⟨rfl, rfl, rfl, by decide +kernel, rfl, by decide +kernel, by decide +kernel⟩
def g_Minit : SF := (fSq (fDrop (fCa 1 F_checkdevice (aCons (gVar 1) aNil)))
  (fSq (fSetF "Cache" 0 "served" (fVar 1))
  (fSq (fSetF "Cache" 0 "place" (fCa 1 F_startof (aCons (gVar 1) aNil)))
  (fSq (fSetF "Cache" 0 "hit_count" (fC (.int 0)))
  (fSq (fSetF "Cache" 0 "miss_count" (fC (.int 0)))
  fNx)))))
def F_Minit : FF := fBody 0 g_Minit
theorem ok_Minit (F : FunD K "__init__" "Cache.__init__" (defArgs (meth 46 2)) (defBody (meth 46 2)) (defScope (meth 46 2)) [] [] f fd) (T : Fx K w mg) (c_checkdevice : Cal P w K mg base k "check_device" ["value"] (spD w K 1 F_checkdevice)) (c_startof : Cal P w K mg base k "start_of" ["device"] (spD w K 1 F_startof)) :
    FnG P w K mg base (k + 1) f fd ["self", "device"] (spD w K 2 F_Minit) := by
  have h1 := okD (P := P) (w := w) (base := base) (mg := mg) (k := k) F sc_Minit (g := g_Minit)
  rw [show F_Minit = fBody (N_Minit.length - (["self", "device"] : List Str).length) g_Minit from rfl]
  refine h1 fun cdv A outer s H E hG hR => ?_
  have hu : (A.deeper (envOfC "Cache.__init__" (defScope (meth 46 2)) s.heap.objs.size f cdv)).units + 65 < cLine := by
    have := hR.un
    omega
  have hu64 : (A.deeper (envOfC "Cache.__init__" (defScope (meth 46 2)) s.heap.objs.size f cdv)).units + 64 < cLine := by omega
  exact (dss_cons (ds_expr (ecall c_checkdevice hG hR (das_cons (gv 1) das_nil)))
    (dss_cons (ds_setF T.cls.choose_spec.cl T.cls.choose_spec.cls (T.cls.choose_spec.na _ (by decide)) (i := 0) rfl (by first | exact Or.inl rfl | exact Or.inr (Or.inl rfl) | exact Or.inr (Or.inr rfl)) (ev 1))
    (dss_cons (ds_setF T.cls.choose_spec.cl T.cls.choose_spec.cls (T.cls.choose_spec.na _ (by decide)) (i := 0) rfl (by first | exact Or.inl rfl | exact Or.inr (Or.inl rfl) | exact Or.inr (Or.inr rfl)) (ecall c_startof hG hR (das_cons (gv 1) das_nil)))
    (dss_cons (ds_setF T.cls.choose_spec.cl T.cls.choose_spec.cls (T.cls.choose_spec.na _ (by decide)) (i := 0) rfl (by first | exact Or.inl rfl | exact Or.inr (Or.inl rfl) | exact Or.inr (Or.inr rfl)) de_int)
    (dss_cons (ds_setF T.cls.choose_spec.cl T.cls.choose_spec.cls (T.cls.choose_spec.na _ (by decide)) (i := 0) rfl (by first | exact Or.inl rfl | exact Or.inr (Or.inl rfl) | exact Or.inr (Or.inr rfl)) de_int)
    dss_nil)))))
abbrev N_Mtake : List Str := ["self", "name", "hit", "states", "contents"]
theorem sc_Mtake : FnScope N_Mtake ["self", "name"] (defScope (meth 46 14)) := ⟨rfl, rfl, rfl, by decide +kernel, rfl, by decide +kernel, by decide +kernel⟩
def g_Mtake : SF := (fSq (fAsg (fCa 4 F_serve (aCons (gVal (fFld "Cache" 0 "served")) (aCons (gVal (fOp ixD (gVal (fFld "Cache" 0 "place")) (gVal (fC (.int 0))))) (aCons (gVal (fOp ixD (gVal (fFld "Cache" 0 "place")) (gVal (fC (.int 1))))) (aCons (gVar 1) aNil))))) (tTupT 3 [(tName 2), (tName 3), (tName 4)]))
  (fSq (fSetF "Cache" 0 "place" (fTup (lCons (fVar 3) (lCons (fVar 4) lNil))))
  (fSq (fIfS (fTst (fVar 2)) (fSq (fAddF "Cache" 0 "hit_count" (fC (.int 1)))
  fNx) (fSq (fAddF "Cache" 0 "miss_count" (fC (.int 1)))
  fNx))
  (fSq (fRet (fVar 2))
  fNx))))
def F_Mtake : FF := fBody 3 g_Mtake
theorem ok_Mtake (F : FunD K "take" "Cache.take" (defArgs (meth 46 14)) (defBody (meth 46 14)) (defScope (meth 46 14)) [] [] f fd) (T : Fx K w mg) (c_serve : Cal P w K mg base k "serve" ["device", "states", "contents", "name"] (spD w K 4 F_serve)) :
    FnG P w K mg base (k + 1) f fd ["self", "name"] (spD w K 2 F_Mtake) := by
  have h1 := okD (P := P) (w := w) (base := base) (mg := mg) (k := k) F sc_Mtake (g := g_Mtake)
  rw [show F_Mtake = fBody (N_Mtake.length - (["self", "name"] : List Str).length) g_Mtake from rfl]
  refine h1 fun cdv A outer s H E hG hR => ?_
  have hu : (A.deeper (envOfC "Cache.take" (defScope (meth 46 14)) s.heap.objs.size f cdv)).units + 65 < cLine := by
    have := hR.un
    omega
  have hu64 : (A.deeper (envOfC "Cache.take" (defScope (meth 46 14)) s.heap.objs.size f cdv)).units + 64 < cLine := by omega
  exact (dss_cons (ds_asg (ecall c_serve hG hR (das_cons (dg_val (de_fld T.cls.choose_spec.cl T.cls.choose_spec.cls (T.cls.choose_spec.na _ (by decide)) (i := 0) rfl (by first | exact Or.inl rfl | exact Or.inr (Or.inl rfl) | exact Or.inr (Or.inr rfl)))) (das_cons (dg_val (de_ix ix_D (dg_val (de_fld T.cls.choose_spec.cl T.cls.choose_spec.cls (T.cls.choose_spec.na _ (by decide)) (i := 0) rfl (by first | exact Or.inl rfl | exact Or.inr (Or.inl rfl) | exact Or.inr (Or.inr rfl)))) (dg_val de_int))) (das_cons (dg_val (de_ix ix_D (dg_val (de_fld T.cls.choose_spec.cl T.cls.choose_spec.cls (T.cls.choose_spec.na _ (by decide)) (i := 0) rfl (by first | exact Or.inl rfl | exact Or.inr (Or.inl rfl) | exact Or.inr (Or.inr rfl)))) (dg_val de_int))) (das_cons (gv 1) das_nil))))) (dtg_tup rfl (dtgs_cons (tn 2 sc_Mtake.nd) (dtgs_cons (tn 3 sc_Mtake.nd) (dtgs_cons (tn 4 sc_Mtake.nd) dtgs_nil)))))
    (dss_cons (ds_setF T.cls.choose_spec.cl T.cls.choose_spec.cls (T.cls.choose_spec.na _ (by decide)) (i := 0) rfl (by first | exact Or.inl rfl | exact Or.inr (Or.inl rfl) | exact Or.inr (Or.inr rfl)) (de_tup (dls_cons (ev 3) (dls_cons (ev 4) dls_nil))))
    (dss_cons (ds_if (dt_val (ev 2)) (dss_cons (ds_addF T.cls.choose_spec.cl T.cls.choose_spec.cls (T.cls.choose_spec.na _ (by decide)) (i := 0) rfl (by first | exact Or.inl rfl | exact Or.inr (Or.inl rfl) | exact Or.inr (Or.inr rfl)) de_int)
    dss_nil) (dss_cons (ds_addF T.cls.choose_spec.cl T.cls.choose_spec.cls (T.cls.choose_spec.na _ (by decide)) (i := 0) rfl (by first | exact Or.inl rfl | exact Or.inr (Or.inl rfl) | exact Or.inr (Or.inr rfl)) de_int)
    dss_nil))
    (dss_cons (ds_ret (ev 2))
    dss_nil))))
abbrev N_Mmisses : List Str := ["self"]
theorem sc_Mmisses : FnScope N_Mmisses ["self"] (defScope (meth 46 9)) := ⟨rfl, rfl, rfl, by decide +kernel, rfl, by decide +kernel, by decide +kernel⟩
def g_Mmisses : SF := (fSq (fRet (fFld "Cache" 0 "miss_count"))
  fNx)
def F_Mmisses : FF := fBody 0 g_Mmisses
theorem ok_Mmisses (F : FunD K "misses" "Cache.misses" (defArgs (meth 46 9)) (defBody (meth 46 9)) (defScope (meth 46 9)) [] [] f fd) (T : Fx K w mg) :
    FnG P w K mg base (k + 1) f fd ["self"] (spD w K 1 F_Mmisses) := by
  have h1 := okD (P := P) (w := w) (base := base) (mg := mg) (k := k) F sc_Mmisses (g := g_Mmisses)
  rw [show F_Mmisses = fBody (N_Mmisses.length - (["self"] : List Str).length) g_Mmisses from rfl]
  refine h1 fun cdv A outer s H E hG hR => ?_
  have hu : (A.deeper (envOfC "Cache.misses" (defScope (meth 46 9)) s.heap.objs.size f cdv)).units + 65 < cLine := by
    have := hR.un
    omega
  have hu64 : (A.deeper (envOfC "Cache.misses" (defScope (meth 46 9)) s.heap.objs.size f cdv)).units + 64 < cLine := by omega
  exact (dss_cons (ds_ret (de_fld T.cls.choose_spec.cl T.cls.choose_spec.cls (T.cls.choose_spec.na _ (by decide)) (i := 0) rfl (by first | exact Or.inl rfl | exact Or.inr (Or.inl rfl) | exact Or.inr (Or.inr rfl))))
    dss_nil)
abbrev N_Mrequest : List Str := ["self", "name"]
theorem sc_Mrequest : FnScope N_Mrequest ["self", "name"] (defScope (meth 46 10)) := ⟨rfl, rfl, rfl, by decide +kernel, rfl, by decide +kernel, by decide +kernel⟩
def g_Mrequest : SF := (fSq (fDrop (fCa 1 F_checkname (aCons (gVar 1) aNil)))
  (fSq (fRet (fMt 2 F_Mtake "Cache" 0 "take" (aCons (gVar 1) aNil)))
  fNx))
def F_Mrequest : FF := fBody 0 g_Mrequest
theorem ok_Mrequest (F : FunD K "request" "Cache.request" (defArgs (meth 46 10)) (defBody (meth 46 10)) (defScope (meth 46 10)) [] [] f fd) (T : Fx K w mg) (c_checkname : Cal P w K mg base k "check_name" ["value"] (spD w K 1 F_checkname)) (m_Mtake : CalM P w K mg base k T.cls.choose "take" ["self", "name"] (spD w K 2 F_Mtake)) :
    FnG P w K mg base (k + 1) f fd ["self", "name"] (spD w K 2 F_Mrequest) := by
  have h1 := okD (P := P) (w := w) (base := base) (mg := mg) (k := k) F sc_Mrequest (g := g_Mrequest)
  rw [show F_Mrequest = fBody (N_Mrequest.length - (["self", "name"] : List Str).length) g_Mrequest from rfl]
  refine h1 fun cdv A outer s H E hG hR => ?_
  have hu : (A.deeper (envOfC "Cache.request" (defScope (meth 46 10)) s.heap.objs.size f cdv)).units + 65 < cLine := by
    have := hR.un
    omega
  have hu64 : (A.deeper (envOfC "Cache.request" (defScope (meth 46 10)) s.heap.objs.size f cdv)).units + 64 < cLine := by omega
  exact (dss_cons (ds_expr (ecall c_checkname hG hR (das_cons (gv 1) das_nil)))
    (dss_cons (ds_ret (mcall m_Mtake hG hR T.cls.choose_spec.cl T.cls.choose_spec.cls (i := 0) rfl (by first | exact Or.inl rfl | exact Or.inr (Or.inl rfl) | exact Or.inr (Or.inr rfl)) (das_cons (gv 1) das_nil)))
    dss_nil))
abbrev N_answers : List Str := ["device", "names", "told", "states", "contents", "name", "hit"]
theorem sc_answers : FnScope N_answers ["device", "names"] (defScope (top 50)) := ⟨rfl, rfl, rfl, by decide +kernel, rfl, by decide +kernel, by decide +kernel⟩
def g_answers : SF := (fSq (fDrop (fCa 1 F_checkdevice (aCons (gVar 0) aNil)))
  (fSq (fDrop (fCa 1 F_checkhistory (aCons (gVar 1) aNil)))
  (fSq (fHold 2 (lLst lNil))
  (fSq (fAsg (fCa 1 F_startof (aCons (gVar 0) aNil)) (tTupT 2 [(tName 3), (tName 4)]))
  (fSq (fFor (iSeq (fVar 1)) (tName 5) (fSq (fAsg (fCa 4 F_serve (aCons (gVar 0) (aCons (gVar 3) (aCons (gVar 4) (aCons (gVar 5) aNil))))) (tTupT 3 [(tName 6), (tName 3), (tName 4)]))
  (fSq (fApp 2 (fVar 6))
  fNx)))
  (fSq (fRet (fCl tupleD (aCons (gVar 2) aNil)))
  fNx))))))
def F_answers : FF := fBody 5 g_answers
theorem ok_answers (F : FunD K "answers" "answers" (defArgs (top 50)) (defBody (top 50)) (defScope (top 50)) [] [] f fd) (T : Fx K w mg) (c_checkdevice : Cal P w K mg base k "check_device" ["value"] (spD w K 1 F_checkdevice)) (c_checkhistory : Cal P w K mg base k "check_history" ["value"] (spD w K 1 F_checkhistory)) (c_serve : Cal P w K mg base k "serve" ["device", "states", "contents", "name"] (spD w K 4 F_serve)) (c_startof : Cal P w K mg base k "start_of" ["device"] (spD w K 1 F_startof)) :
    FnG P w K mg base (k + 1) f fd ["device", "names"] (spD w K 2 F_answers) := by
  have h1 := okD (P := P) (w := w) (base := base) (mg := mg) (k := k) F sc_answers (g := g_answers)
  rw [show F_answers = fBody (N_answers.length - (["device", "names"] : List Str).length) g_answers from rfl]
  refine h1 fun cdv A outer s H E hG hR => ?_
  have hu : (A.deeper (envOfC "answers" (defScope (top 50)) s.heap.objs.size f cdv)).units + 65 < cLine := by
    have := hR.un
    omega
  have hu64 : (A.deeper (envOfC "answers" (defScope (top 50)) s.heap.objs.size f cdv)).units + 64 < cLine := by omega
  exact (dss_cons (ds_expr (ecall c_checkdevice hG hR (das_cons (gv 0) das_nil)))
    (dss_cons (ds_expr (ecall c_checkhistory hG hR (das_cons (gv 1) das_nil)))
    (dss_cons (shold 2 sc_answers.nd (dn_lst dls_nil))
    (dss_cons (ds_asg (ecall c_startof hG hR (das_cons (gv 0) das_nil)) (dtg_tup rfl (dtgs_cons (tn 3 sc_answers.nd) (dtgs_cons (tn 4 sc_answers.nd) dtgs_nil))))
    (dss_cons (ds_for PassesOwn.never rfl (di_seq (ev 1)) (tn 5 sc_answers.nd) (dss_cons (ds_asg (ecall c_serve hG hR (das_cons (gv 0) (das_cons (gv 3) (das_cons (gv 4) (das_cons (gv 5) das_nil))))) (dtg_tup rfl (dtgs_cons (tn 6 sc_answers.nd) (dtgs_cons (tn 3 sc_answers.nd) (dtgs_cons (tn 4 sc_answers.nd) dtgs_nil)))))
    (dss_cons (sapp 2 (ev 6))
    dss_nil)))
    (dss_cons (ds_ret (de_callTy cl_tuple rfl (T.free "tuple" (by decide)) (by decide +kernel) (das_cons (gv 2) das_nil)))
    dss_nil))))))
abbrev N_countmisses : List Str := ["device", "names"]
theorem sc_countmisses : FnScope N_countmisses ["device", "names"] (defScope (top 51)) := ⟨rfl, rfl, rfl, by decide +kernel, rfl, by decide +kernel, by decide +kernel⟩
def g_countmisses : SF := (fSq (fRet (fMe "tuple" tCountD (gVal (fCa 2 F_answers (aCons (gVar 0) (aCons (gVar 1) aNil)))) (aCons (gVal (fC (.bool false))) aNil)))
  fNx)
def F_countmisses : FF := fBody 0 g_countmisses
theorem ok_countmisses (F : FunD K "count_misses" "count_misses" (defArgs (top 51)) (defBody (top 51)) (defScope (top 51)) [] [] f fd) (T : Fx K w mg) (c_answers : Cal P w K mg base k "answers" ["device", "names"] (spD w K 2 F_answers)) :
    FnG P w K mg base (k + 1) f fd ["device", "names"] (spD w K 2 F_countmisses) := by
  have h1 := okD (P := P) (w := w) (base := base) (mg := mg) (k := k) F sc_countmisses (g := g_countmisses)
  rw [show F_countmisses = fBody (N_countmisses.length - (["device", "names"] : List Str).length) g_countmisses from rfl]
  refine h1 fun cdv A outer s H E hG hR => ?_
  have hu : (A.deeper (envOfC "count_misses" (defScope (top 51)) s.heap.objs.size f cdv)).units + 65 < cLine := by
    have := hR.un
    omega
  have hu64 : (A.deeper (envOfC "count_misses" (defScope (top 51)) s.heap.objs.size f cdv)).units + 64 < cLine := by omega
  exact (dss_cons (ds_ret (mtcount (dg_val (ecall c_answers hG hR (das_cons (gv 0) (das_cons (gv 1) das_nil)))) (das_cons (dg_val de_bl) das_nil)))
    dss_nil)
end
end K77
namespace K77
open PySem PySem.Spec PyProof.Rows L2 GX StX DL PySem.Calls NdefX
variable [DL.FT]
def sci_iskeeping : Scope := { kind := .function, names := [(".0", .local), ("time", .cell), ("len", .globalImplicit), ("lines", .cell), ("spans", .cell)], isGenerator := false, isCoroutine := false }
section
variable {P : Program} {w : World} {K : PySem.W.Frag} {mg : Str → Option Value} {base : Heap} {k : Nat} {f : Addr} {fd : FuncData}
abbrev N_iskeeping : List Str := ["names", "lines", "value", "kept", "spans", "start", "follow", "time"]
theorem sc_iskeeping : FnScope N_iskeeping ["names", "lines", "value"] (defScope (top 25)) := ⟨rfl, rfl, rfl, by decide +kernel, rfl, by decide +kernel, by decide +kernel⟩
def g_iskeeping : SF := (fSq (fDrop (fCa 2 F_checkknown (aCons (gVar 0) (aCons (gVar 1) aNil))))
  (fSq (fIfS (fOr (fNot (fTst (fCa 3 F_istuple (aCons (gVar 2) (aCons (gVal (fCl lenD (aCons (gVar 0) aNil))) (aCons (gVal (fCl lenD (aCons (gVar 0) aNil))) aNil)))))) (fNot (fTst (fCl allD (aCons (gVal (fLst (fComp (iSeq (fVar 2)) [3] (tName 3) fYes (fCa 1 F_istruth (aCons (gVar 3) aNil))))) aNil))))) (fSq (fRet (fC (.bool false)))
  fNx) fNx)
  (fSq (fAsg (fLst (fComp (iEnumL (fCa 1 F_nextrequests (aCons (gVar 0) aNil))) [5, 6] (tTupT 2 [tName 5, tName 6]) (fTst (fOp ixD (gVar 2) (gVar 5))) (fTup (lCons (fVar 5) (lCons (fVar 6) lNil))))) (tName 4))
  (fSq (fIfS (fNot (fTst (fCl allD (aCons (gVal (fLst (fComp (iSeq (fVar 4)) [5, 6] (tTupT 2 [tName 5, tName 6]) fYes (fOp isNotD (gVar 6) (gVal (fC .none)))))) aNil)))) (fSq (fRet (fC (.bool false)))
  fNx) fNx)
  (fSq (fRet (fCl allD (aCons (gVal (fLst (fComp (iRange1 (lCons (fCl lenD (aCons (gVar 0) aNil)) lNil)) [7] (tName 7) fYes (fOp ltD (gVal (fCl lenD (aCons (gVal (fLst (fComp (iSeq (fVar 4)) [5, 6] (tTupT 2 [tName 5, tName 6]) (fTst (fChain ltD ltD (gVar 5) (gVar 7) (gVar 6))) (fVar 5)))) aNil))) (gVar 1))))) aNil)))
  fNx)))))
def F_iskeeping : FF := fBody 5 g_iskeeping
theorem ok_iskeeping (F : FunD K "is_keeping" "is_keeping" (defArgs (top 25)) (defBody (top 25)) (defScope (top 25)) [] [] f fd) (T : Fx K w mg) (c_checkknown : Cal P w K mg base k "check_known" ["names", "lines"] (spD w K 2 F_checkknown)) (c_istruth : Cal P w K mg base k "is_truth" ["value"] (spD w K 1 F_istruth)) (c_istuple : Cal P w K mg base k "is_tuple" ["value", "least", "most"] (spD w K 3 F_istuple)) (c_nextrequests : Cal P w K mg base k "next_requests" ["names"] (spD w K 1 F_nextrequests)) :
    FnG P w K mg base (k + 1) f fd ["names", "lines", "value"] (spD w K 3 F_iskeeping) := by
  have h1 := okD (P := P) (w := w) (base := base) (mg := mg) (k := k) F sc_iskeeping (g := g_iskeeping)
  rw [show F_iskeeping = fBody (N_iskeeping.length - (["names", "lines", "value"] : List Str).length) g_iskeeping from rfl]
  refine h1 fun cdv A outer s H E hG hR => ?_
  have hu : (A.deeper (envOfC "is_keeping" (defScope (top 25)) s.heap.objs.size f cdv)).units + 65 < cLine := by
    have := hR.un
    omega
  have hu64 : (A.deeper (envOfC "is_keeping" (defScope (top 25)) s.heap.objs.size f cdv)).units + 64 < cLine := by omega
  exact (dss_cons (ds_expr (ecall c_checkknown hG hR (das_cons (gv 0) (das_cons (gv 1) das_nil))))
    (dss_cons (ds_if (dt_w (dw_or (dt_not (dt_val (ecall c_istuple hG hR (das_cons (gv 2) (das_cons (dg_val (de_callB cl_len rfl (T.free "len" (by decide)) (by decide +kernel) (das_cons (gv 0) das_nil))) (das_cons (dg_val (de_callB cl_len rfl (T.free "len" (by decide)) (by decide +kernel) (das_cons (gv 0) das_nil))) das_nil)))))) (dw_or1 (dt_not (dt_val (de_callB (cl_all rfl) rfl (T.free "all" (by decide)) (by decide +kernel) (das_cons (dg_val (de_new (dn_comp rfl sc_iskeeping.nd (di_seq (ev 2)) (blkOk_by (N := N_iskeeping) (sc := (defScope (top 25))) (own := [("kept", 3)]) (by decide +kernel)) (fun _ _ _ _ _ => kn 3 sc_iskeeping.nd) (fun _ _ _ _ _ => dc_nil) (fun _ _ _ _ _ => (ecall c_istruth hG hR (das_cons (gv 3) das_nil)))))) das_nil))))))) (dss_cons (ds_ret de_bl)
    dss_nil) dss_nil)
    (dss_cons (sset 4 sc_iskeeping.nd (de_new (dn_kP (own := [("start", 5), ("follow", 6)]) rfl rfl sc_iskeeping.nd (dip_enumL rfl (T.free "enumerate" (by decide)) (ecall c_nextrequests hG hR (das_cons (gv 0) das_nil))) (blkOk_by (N := N_iskeeping) (sc := (defScope (top 25))) (own := [("start", 5), ("follow", 6)]) (by decide +kernel)) (fun _ _ _ _ _ => pg_tup rfl (pgs_cons (kn 5 sc_iskeeping.nd) (pgs_cons (kn 6 sc_iskeeping.nd) pgs_nil))) (fun _ _ _ _ _ => dc_one (dt_val (de_ix ix_D (gv 2) (gv 5)))) (fun _ _ _ _ _ => (de_tup (dls_cons (ev 5) (dls_cons (ev 6) dls_nil)))))))
    (dss_cons (ds_if (dt_not (dt_val (de_callB (cl_all rfl) rfl (T.free "all" (by decide)) (by decide +kernel) (das_cons (dg_val (de_new (dn_kT (own := [("start", 5), ("follow", 6)]) rfl rfl sc_iskeeping.nd (di_seq (ev 4)) (blkOk_by (N := N_iskeeping) (sc := (defScope (top 25))) (own := [("start", 5), ("follow", 6)]) (by decide +kernel)) (fun _ _ _ _ _ => pg_tup rfl (pgs_cons (kn 5 sc_iskeeping.nd) (pgs_cons (kn 6 sc_iskeeping.nd) pgs_nil))) (fun _ _ _ _ _ => pg_unl rfl (pgs_cons (kn 5 sc_iskeeping.nd) (pgs_cons (kn 6 sc_iskeeping.nd) pgs_nil))) (fun _ _ _ _ _ => dc_nil) (fun _ _ _ _ _ => (de_cmp op_isNotD (gv 6) (dg_val de_non) (by rfl)))))) das_nil)))) (dss_cons (ds_ret de_bl)
    dss_nil) dss_nil)
    (dss_cons (ds_ret (de_callB (cl_all rfl) rfl (T.free "all" (by decide)) (by decide +kernel) (das_cons (dg_val (de_new (dn_comp rfl sc_iskeeping.nd (di_range1 rfl (T.free "range" (by decide)) (dls_cons (de_callB cl_len rfl (T.free "len" (by decide)) (by decide +kernel) (das_cons (gv 0) das_nil)) dls_nil)) (blkOk_by (N := N_iskeeping) (sc := (defScope (top 25))) (own := [("time", 7)]) (by decide +kernel)) (fun _ _ _ _ _ => kn 7 sc_iskeeping.nd) (fun _ _ _ _ _ => dc_nil) (fun _ _ _ _ _ => (de_cmp op_ltD (dg_val (de_callB cl_len rfl (T.free "len" (by decide)) (by decide +kernel) (das_cons (dg_val (de_new (dn_kT (own := [("start", 5), ("follow", 6)]) rfl rfl sc_iskeeping.nd (di_seq (ev 4)) (blkOk_by (N := N_iskeeping) (sc := sci_iskeeping) (own := [("start", 5), ("follow", 6)]) (by decide +kernel)) (fun _ _ _ _ _ => pg_tup rfl (pgs_cons (kn 5 sc_iskeeping.nd) (pgs_cons (kn 6 sc_iskeeping.nd) pgs_nil))) (fun _ _ _ _ _ => pg_unl rfl (pgs_cons (kn 5 sc_iskeeping.nd) (pgs_cons (kn 6 sc_iskeeping.nd) pgs_nil))) (fun _ _ _ _ _ => dc_one (dt_chain op_ltD op_ltD (gv 5) (gv 7) (gv 6))) (fun _ _ _ _ _ => (ev 5))))) das_nil))) (gv 1) (by rfl)))))) das_nil)))
    dss_nil)))))
end
end K77
namespace K77
open PySem PySem.Spec PyProof.Rows L2 GX StX DL PySem.Calls NdefX
variable [DL.FT]
def kyX : Expr := match (defBody (top 27)).getD 4 (.Pass ⟨0, 0, 0, 0⟩) with
  | .For _ _ b _ _ => match b.getD 2 (.Pass ⟨0, 0, 0, 0⟩) with
    | .If _ [.Expr (.Call _ [.Call _ _ [⟨_, l, _⟩] _] _ _) _] _ _ => l
    | _ => .Name "" ⟨0, 0, 0, 0⟩
  | _ => .Name "" ⟨0, 0, 0, 0⟩
def kyP : Arguments := match kyX with
  | .Lambda p _ _ _ => p
  | _ => defArgs (top 27)
def kyE : Expr := match kyX with
  | .Lambda _ e _ _ => e
  | x => x
def kyS : Scope := match kyX with
  | .Lambda _ _ s _ => s
  | _ => defScope (top 27)
def kyPos : Pos := match kyX with
  | .Lambda _ _ _ p => p
  | _ => ⟨0, 0, 0, 0⟩
def kyQ : Str := "best_keeping.<locals>.<lambda>"
def kyF (c : Addr) (cs : List Addr) : NF := ⟨"<lambda>", kyQ, kyP, [], kyS, ([("follows" : Str)]).zip cs, c⟩
theorem kyFree : ∀ y ∈ kyS.names, y.2 = .free → (defScope (top 27)).names.lookup y.1 = some .cell ∨ (defScope (top 27)).names.lookup y.1 = some .free := by decide +kernel
theorem kyFr : ∀ y ∈ (["follows"] : List Str), (y, NameKind.free) ∈ kyS.names := by decide +kernel
/-- the lambda: slots start, follows -/
def g_key : EF := fOp ixD (gVar 1) (gVar 0)
def Mkey : MF := mFunE 0 g_key
section
variable {P : Program} {w : World} {K : PySem.W.Frag} {mg : Str → Option Value} {base : Heap} {k : Nat} {f : Addr} {fd : FuncData}
abbrev N_bestkeeping : List Str := ["names", "lines", "follows", "kept", "others", "time", "start"]
theorem sc_bestkeeping : FnScope N_bestkeeping ["names", "lines"] (defScope (top 27)) := ⟨rfl, rfl, rfl, by decide +kernel, rfl, by decide +kernel, by decide +kernel⟩
def g_bestkeeping : SF := (fSq (fDrop (fCa 2 F_checkknown (aCons (gVar 0) (aCons (gVar 1) aNil))))
  (fSq (fAsg (fCa 1 F_nextrequests (aCons (gVar 0) aNil)) (tName 2))
  (fSq (fHold 3 (lLst lNil))
  (fSq (fHold 4 (lLst lNil))
  (fSq (fFor (iRange1 (lCons (fCl lenD (aCons (gVar 0) aNil)) lNil)) (tName 5) (fSq (fExt 3 (fLst (fComp (iSeq (fVar 4)) [6] (tName 6) (fTst (fOp eqD (gVal (fOp ixD (gVar 2) (gVar 6))) (gVar 5))) (fVar 6))))
  (fSq (fHold 4 (fComp (iSeq (fVar 4)) [6] (tName 6) (fTst (fOp gtD (gVal (fOp ixD (gVar 2) (gVar 6))) (gVar 5))) (fVar 6)))
  (fSq (fIfS (fTst (fOp eqD (gVal (fCl lenD (aCons (gVar 4) aNil))) (gVar 1))) (fSq (fRem 4 (fMaxK Mkey [2] (gVar 4)))
  fNx) fNx)
  (fSq (fIfS (fTst (fOp isNotD (gVal (fOp ixD (gVar 2) (gVar 5))) (gVal (fC .none)))) (fSq (fApp 4 (fVar 5))
  fNx) fNx)
  fNx)))))
  (fSq (fRet (fCl tupleD (aCons (gVal (fLst (fComp (iRange1 (lCons (fCl lenD (aCons (gVar 0) aNil)) lNil)) [6] (tName 6) fYes (fOp inD (gVar 6) (gVar 3))))) aNil)))
  fNx))))))
def F_bestkeeping : FF := fBody 5 g_bestkeeping
theorem ok_bestkeeping (F : FunD K "best_keeping" "best_keeping" (defArgs (top 27)) (defBody (top 27)) (defScope (top 27)) [] [] f fd) (T : Fx K w mg) {j : Nat} (hj : j + 1 ≤ k) (C : CloG P w K mg base j "key" 1 Mkey) {c0 P0 : Addr} {nm0 : Nat → Nat → Str} (hc0 : fd.code = .ref c0) (TB : LamX.TabB base mg c0 P0) (hm0 : (P0, nm0) ∈ FT.tabs) (hu0 : ∀ p ∈ FT.tabs, p.1 = P0 → p.2 = nm0) (hq : FT.qn "key" = kyQ) (hq0 : nm0 kyPos.line kyPos.col = kyQ) (hnf : ∀ c cs, cs.length = 1 → FT.nf "key" c cs = some (LamO (kyF c cs) kyE)) (c_checkknown : Cal P w K mg base k "check_known" ["names", "lines"] (spD w K 2 F_checkknown)) (c_nextrequests : Cal P w K mg base k "next_requests" ["names"] (spD w K 1 F_nextrequests)) :
    FnG P w K mg base (k + 1) f fd ["names", "lines"] (spD w K 2 F_bestkeeping) := by
  have h1 := okDc (P := P) (w := w) (base := base) (mg := mg) (k := k) F sc_bestkeeping (g := g_bestkeeping)
  rw [show F_bestkeeping = fBody (N_bestkeeping.length - (["names", "lines"] : List Str).length) g_bestkeeping from rfl]
  refine h1 fun cdv hcd A outer s H E hG hR => ?_
  have hcv : cdv = .ref c0 := hcd.symm.trans hc0
  have hcl : ((cloFrom (cxOf CX0 P w K mg base N_bestkeeping "best_keeping" (defScope (top 27)) f cdv A outer s H E).nox.env.cells kyS.names []).map (·.1)) = (["follows"] : List Str) := rfl
  have L0 := pe_lamT (X := (cxOf CX0 P w K mg base N_bestkeeping "best_keeping" (defScope (top 27)) f cdv A outer s H E).nox) (params := kyP) (e := kyE) (scope := kyS) (pos := kyPos) TB hcv kyFree rfl
  have L : PE (cxOf CX0 P w K mg base N_bestkeeping "best_keeping" (defScope (top 27)) f cdv A outer s H E).nox kyX (tLamT P0 (FT.qn "key") kyPos (fun c' => ⟨"<lambda>", kyQ, kyP, [], kyS, cloFrom (cxOf CX0 P w K mg base N_bestkeeping "best_keeping" (defScope (top 27)) f cdv A outer s H E).nox.env.cells kyS.names [], c'⟩) kyE) := by
    rw [hq]
    exact L0
  have hFn : ∀ c : Addr, (⟨"<lambda>", kyQ, kyP, [], kyS, cloFrom (cxOf CX0 P w K mg base N_bestkeeping "best_keeping" (defScope (top 27)) f cdv A outer s H E).nox.env.cells kyS.names [], c⟩ : NF) = kyF c ((cloFrom (cxOf CX0 P w K mg base N_bestkeeping "best_keeping" (defScope (top 27)) f cdv A outer s H E).nox.env.cells kyS.names []).map (·.2)) := fun c => rfl
  have hC : (cxOf CX0 P w K mg base N_bestkeeping "best_keeping" (defScope (top 27)) f cdv A outer s H E).nox.Ok → Caps (cxOf CX0 P w K mg base N_bestkeeping "best_keeping" (defScope (top 27)) f cdv A outer s H E).nox (cloFrom (cxOf CX0 P w K mg base N_bestkeeping "best_keeping" (defScope (top 27)) f cdv A outer s H E).nox.env.cells kyS.names []) ["follows"] [2] := fun ok =>
    Caps.made ok kyFree kyFr rfl
  have hfn : ∀ y, (cxOf CX0 P w K mg base N_bestkeeping "best_keeping" (defScope (top 27)) f cdv A outer s H E).nox.fn y = true := fun _ => rfl
  have hRj := hR.mono hj
  have hu : (A.deeper (envOfC "best_keeping" (defScope (top 27)) s.heap.objs.size f cdv)).units + 65 < cLine := by
    have := hR.un
    omega
  have hu64 : (A.deeper (envOfC "best_keeping" (defScope (top 27)) s.heap.objs.size f cdv)).units + 64 < cLine := by omega
  exact (dss_cons (ds_expr (ecall c_checkknown hG hR (das_cons (gv 0) (das_cons (gv 1) das_nil))))
    (dss_cons (sset 2 sc_bestkeeping.nd (ecall c_nextrequests hG hR (das_cons (gv 0) das_nil)))
    (dss_cons (shold 3 sc_bestkeeping.nd (dn_lst dls_nil))
    (dss_cons (shold 4 sc_bestkeeping.nd (dn_lst dls_nil))
    (dss_cons (ds_for PassesOwn.never rfl (di_range1 rfl (T.free "range" (by decide)) (dls_cons (de_callB cl_len rfl (T.free "len" (by decide)) (by decide +kernel) (das_cons (gv 0) das_nil)) dls_nil)) (tn 5 sc_bestkeeping.nd) (dss_cons (sext 3 (de_new (dn_comp rfl sc_bestkeeping.nd (di_seq (ev 4)) (blkOk_by (N := N_bestkeeping) (sc := (defScope (top 27))) (own := [("start", 6)]) (by decide +kernel)) (fun _ _ _ _ _ => kn 6 sc_bestkeeping.nd) (fun _ _ _ _ _ => dc_one (dt_cmp (op_eqDD hu64) (dg_val (de_ix ix_D (gv 2) (gv 6))) (gv 5) (by rfl))) (fun _ _ _ _ _ => (ev 6)))))
    (dss_cons (ds_setC (i := 4) rfl sc_bestkeeping.nd rfl rfl rfl (di_seq (ev 4)) (blkOk_by (N := N_bestkeeping) (sc := (defScope (top 27))) (own := [("start", 6)]) (by decide +kernel)) (fun _ _ _ _ _ => kn 6 sc_bestkeeping.nd) (fun _ _ _ _ _ => dc_one (dt_cmp op_gtD (dg_val (de_ix ix_D (gv 2) (gv 6))) (gv 5) (by rfl))) (fun _ _ _ _ _ => (ev 6)))
    (dss_cons (ds_if (dt_cmp (op_eqDD hu64) (dg_val (de_callB cl_len rfl (T.free "len" (by decide)) (by decide +kernel) (das_cons (gv 4) das_nil))) (gv 1) (by rfl)) (dss_cons (srem 4 (de_maxK (lam := kyX) (e := kyE) (mk := kyF) (fr := ["follows"]) (lpos := kyPos) C hG hRj (gv 4) L hm0 hu0 (hq0.trans hq.symm) (fun c cs h => hnf c cs h) hFn hcl hC (by decide) (fun _ => hfn _) (T.free "max" (by decide))))
    dss_nil) dss_nil)
    (dss_cons (ds_if (dt_cmp op_isNotD (dg_val (de_ix ix_D (gv 2) (gv 5))) (dg_val de_non) (by rfl)) (dss_cons (sapp 4 (ev 5))
    dss_nil) dss_nil)
    dss_nil)))))
    (dss_cons (ds_ret (de_callTy cl_tuple rfl (T.free "tuple" (by decide)) (by decide +kernel) (das_cons (dg_val (de_new (dn_comp rfl sc_bestkeeping.nd (di_range1 rfl (T.free "range" (by decide)) (dls_cons (de_callB cl_len rfl (T.free "len" (by decide)) (by decide +kernel) (das_cons (gv 0) das_nil)) dls_nil)) (blkOk_by (N := N_bestkeeping) (sc := (defScope (top 27))) (own := [("start", 6)]) (by decide +kernel)) (fun _ _ _ _ _ => kn 6 sc_bestkeeping.nd) (fun _ _ _ _ _ => dc_nil) (fun _ _ _ _ _ => (de_cmp (op_inDD hu) (gv 6) (gv 3) (by rfl)))))) das_nil)))
    dss_nil))))))
abbrev N_leastmisses : List Str := ["names", "lines"]
theorem sc_leastmisses : FnScope N_leastmisses ["names", "lines"] (defScope (top 26)) := ⟨rfl, rfl, rfl, by decide +kernel, rfl, by decide +kernel, by decide +kernel⟩
def g_leastmisses : SF := (fSq (fRet (fMe "tuple" tCountD (gVal (fCa 2 F_bestkeeping (aCons (gVar 0) (aCons (gVar 1) aNil)))) (aCons (gVal (fC (.bool false))) aNil)))
  fNx)
def F_leastmisses : FF := fBody 0 g_leastmisses
theorem ok_leastmisses (F : FunD K "least_misses" "least_misses" (defArgs (top 26)) (defBody (top 26)) (defScope (top 26)) [] [] f fd) (T : Fx K w mg) (c_bestkeeping : Cal P w K mg base k "best_keeping" ["names", "lines"] (spD w K 2 F_bestkeeping)) :
    FnG P w K mg base (k + 1) f fd ["names", "lines"] (spD w K 2 F_leastmisses) := by
  have h1 := okD (P := P) (w := w) (base := base) (mg := mg) (k := k) F sc_leastmisses (g := g_leastmisses)
  rw [show F_leastmisses = fBody (N_leastmisses.length - (["names", "lines"] : List Str).length) g_leastmisses from rfl]
  refine h1 fun cdv A outer s H E hG hR => ?_
  have hu : (A.deeper (envOfC "least_misses" (defScope (top 26)) s.heap.objs.size f cdv)).units + 65 < cLine := by
    have := hR.un
    omega
  have hu64 : (A.deeper (envOfC "least_misses" (defScope (top 26)) s.heap.objs.size f cdv)).units + 64 < cLine := by omega
  exact (dss_cons (ds_ret (mtcount (dg_val (ecall c_bestkeeping hG hR (das_cons (gv 0) (das_cons (gv 1) das_nil)))) (das_cons (dg_val de_bl) das_nil)))
    dss_nil)
end
end K77
namespace K77
open PySem PySem.Spec PyProof.Rows L2 GX StX DL PySem.Calls NdefX
variable [DL.FT]
section
variable {P : Program} {w : World} {K : PySem.W.Frag} {mg : Str → Option Value} {base : Heap} {k : Nat} {f : Addr} {fd : FuncData}
abbrev N_Llater : List Str := ["_law_row_here", "_law_found", "_law_at", "_law_rest", "_law_spot"]
theorem sc_Llater : FnScope N_Llater ["_law_row_here"] (defScope (top 61)) := ⟨rfl, rfl, rfl, by decide +kernel, rfl, by decide +kernel, by decide +kernel⟩
def g_Llater : SF := (fSq (fHold 1 (lLst lNil))
  (fSq (fFor (iRange1 (lCons (fCl lenD (aCons (gVar 0) aNil)) lNil)) (tName 2) (fSq (fHold 3 (fComp (iRange2 (lCons (fOp addD (gVar 2) (gVal (fC (.int 1)))) (lCons (fCl lenD (aCons (gVar 0) aNil)) lNil))) [4] (tName 4) (fTst (fOp eqD (gVal (fOp ixD (gVar 0) (gVar 4))) (gVal (fOp ixD (gVar 0) (gVar 2))))) (fVar 4)))
  (fSq (fApp 1 (fOp ixD (gVal (fOp addD (gVar 3) (gVal (fLst (lLst (lCons (fC .none) lNil)))))) (gVal (fC (.int 0)))))
  fNx)))
  (fSq (fRet (fVar 1))
  fNx)))
def F_Llater : FF := fBody 4 g_Llater
theorem ok_Llater (F : FunD K "_law_later" "_law_later" (defArgs (top 61)) (defBody (top 61)) (defScope (top 61)) [] [] f fd) (T : Fx K w mg) :
    FnG P w K mg base (k + 1) f fd ["_law_row_here"] (spD w K 1 F_Llater) := by
  have h1 := okD (P := P) (w := w) (base := base) (mg := mg) (k := k) F sc_Llater (g := g_Llater)
  rw [show F_Llater = fBody (N_Llater.length - (["_law_row_here"] : List Str).length) g_Llater from rfl]
  refine h1 fun cdv A outer s H E hG hR => ?_
  have hu : (A.deeper (envOfC "_law_later" (defScope (top 61)) s.heap.objs.size f cdv)).units + 65 < cLine := by
    have := hR.un
    omega
  have hu64 : (A.deeper (envOfC "_law_later" (defScope (top 61)) s.heap.objs.size f cdv)).units + 64 < cLine := by omega
  exact (dss_cons (shold 1 sc_Llater.nd (dn_lst dls_nil))
    (dss_cons (ds_for PassesOwn.never rfl (di_range1 rfl (T.free "range" (by decide)) (dls_cons (de_callB cl_len rfl (T.free "len" (by decide)) (by decide +kernel) (das_cons (gv 0) das_nil)) dls_nil)) (tn 2 sc_Llater.nd) (dss_cons (ds_setC (i := 3) rfl sc_Llater.nd rfl rfl rfl (di_range2 rfl (T.free "range" (by decide)) (dls_cons (de_op op_addD (gv 2) (dg_val de_int)) (dls_cons (de_callB cl_len rfl (T.free "len" (by decide)) (by decide +kernel) (das_cons (gv 0) das_nil)) dls_nil))) (blkOk_by (N := N_Llater) (sc := (defScope (top 61))) (own := [("_law_spot", 4)]) (by decide +kernel)) (fun _ _ _ _ _ => kn 4 sc_Llater.nd) (fun _ _ _ _ _ => dc_one (dt_cmp (op_eqDD hu64) (dg_val (de_ix ix_D (gv 0) (gv 4))) (dg_val (de_ix ix_D (gv 0) (gv 2))) (by rfl))) (fun _ _ _ _ _ => (ev 4)))
    (dss_cons (sapp 1 (de_ix ix_D (dg_val (de_op op_addD (gv 3) (dg_val (de_new (dn_lst (dls_cons de_non dls_nil)))))) (dg_val de_int)))
    dss_nil)))
    (dss_cons (ds_ret (ev 1))
    dss_nil)))
abbrev N_Ldeviceright : List Str := ["_law_unit", "_law_row_here", "_law_many", "_law_told", "_law_goals", "_law_kept", "_law_goal", "_law_box", "_law_who"]
theorem sc_Ldeviceright : FnScope N_Ldeviceright ["_law_unit", "_law_row_here"] (defScope (top 63)) := ⟨rfl, rfl, rfl, by decide +kernel, rfl, by decide +kernel, by decide +kernel⟩
def g_Ldeviceright : SF := (fSq (fAsg (fTup (lCons (fCa 1 F_countlines (aCons (gVar 0) aNil)) (lCons (fCa 2 F_answers (aCons (gVar 0) (aCons (gVar 1) aNil))) lNil))) (tTupT 2 [(tName 2), (tName 3)]))
  (fSq (fAsg (fCa 1 F_Llater (aCons (gVar 1) aNil)) (tName 4))
  (fSq (fAsg (fCl tupleD (aCons (gVal (fLst (fComp (iSeq (fVar 4)) [6] (tName 6) fYes (fAndV (fOp isNotD (gVar 6) (gVal (fC .none))) (fOp ixD (gVar 3) (gVar 6)))))) aNil)) (tName 5))
  (fSq (fIfS (fOr (fNot (fTst (fCa 1 F_isdevice (aCons (gVar 0) aNil)))) (fTst (fOp isNotBD (gVal (fCa 3 F_iskeeping (aCons (gVar 1) (aCons (gVar 2) (aCons (gVar 5) aNil))))) (gVal (fC (.bool true)))))) (fSq (fRet (fC (.bool false)))
  fNx) fNx)
  (fSq (fIfS (fOr (fTst (fOp neD (gVal (fCa 2 F_countmisses (aCons (gVar 0) (aCons (gVar 1) aNil)))) (gVal (fOp subD (gVal (fCl lenD (aCons (gVar 1) aNil))) (gVal (fMe "tuple" tCountD (gVar 5) (aCons (gVal (fC (.bool true))) aNil))))))) (fTst (fOp ltD (gVal (fCa 2 F_countmisses (aCons (gVar 0) (aCons (gVar 1) aNil)))) (gVal (fCa 2 F_leastmisses (aCons (gVar 1) (aCons (gVar 2) aNil))))))) (fSq (fRet (fC (.bool false)))
  fNx) fNx)
  (fSq (fMk 7 "Cache" 2 F_Minit (aCons (gVar 0) aNil))
  (fSq (fRet (fAndV (fOp eqD (gVal (fLst (fComp (iSeq (fVar 1)) [8] (tName 8) fYes (fMt 2 F_Mrequest "Cache" 7 "request" (aCons (gVar 8) aNil))))) (gVal (fLst (fListC (aCons (gVar 3) aNil))))) (fOp geD (gVal (fPr F_Mmisses "Cache" 7)) (gVal (fCa 2 F_leastmisses (aCons (gVar 1) (aCons (gVar 2) aNil)))))))
  fNx)))))))
def F_Ldeviceright : FF := fBody 7 g_Ldeviceright
theorem ok_Ldeviceright (F : FunD K "_law_device_right" "_law_device_right" (defArgs (top 63)) (defBody (top 63)) (defScope (top 63)) [] [] f fd) (T : Fx K w mg) (c_Llater : Cal P w K mg base k "_law_later" ["_law_row_here"] (spD w K 1 F_Llater)) (c_answers : Cal P w K mg base k "answers" ["device", "names"] (spD w K 2 F_answers)) (c_countlines : Cal P w K mg base k "count_lines" ["device"] (spD w K 1 F_countlines)) (c_countmisses : Cal P w K mg base k "count_misses" ["device", "names"] (spD w K 2 F_countmisses)) (c_isdevice : Cal P w K mg base k "is_device" ["value"] (spD w K 1 F_isdevice)) (c_iskeeping : Cal P w K mg base k "is_keeping" ["names", "lines", "value"] (spD w K 3 F_iskeeping)) (c_leastmisses : Cal P w K mg base k "least_misses" ["names", "lines"] (spD w K 2 F_leastmisses)) {j_Minit : Nat} (hj_Minit : j_Minit + 1 ≤ k) (i_Minit : CalI P w K mg base j_Minit T.cls.choose ["self", "device"] (spD w K 2 F_Minit)) (m_Mrequest : CalM P w K mg base k T.cls.choose "request" ["self", "name"] (spD w K 2 F_Mrequest)) {j_Mmisses : Nat} (hj_Mmisses : j_Mmisses + 1 ≤ k) (p_Mmisses : CalP P w K mg base j_Mmisses T.cls.choose "misses" (spD w K 1 F_Mmisses)) :
    FnG P w K mg base (k + 1) f fd ["_law_unit", "_law_row_here"] (spD w K 2 F_Ldeviceright) := by
  have h1 := okD (P := P) (w := w) (base := base) (mg := mg) (k := k) F sc_Ldeviceright (g := g_Ldeviceright)
  rw [show F_Ldeviceright = fBody (N_Ldeviceright.length - (["_law_unit", "_law_row_here"] : List Str).length) g_Ldeviceright from rfl]
  refine h1 fun cdv A outer s H E hG hR => ?_
  have hu : (A.deeper (envOfC "_law_device_right" (defScope (top 63)) s.heap.objs.size f cdv)).units + 65 < cLine := by
    have := hR.un
    omega
  have hu64 : (A.deeper (envOfC "_law_device_right" (defScope (top 63)) s.heap.objs.size f cdv)).units + 64 < cLine := by omega
  exact (dss_cons (ds_asg (de_tup (dls_cons (ecall c_countlines hG hR (das_cons (gv 0) das_nil)) (dls_cons (ecall c_answers hG hR (das_cons (gv 0) (das_cons (gv 1) das_nil))) dls_nil))) (dtg_tup rfl (dtgs_cons (tn 2 sc_Ldeviceright.nd) (dtgs_cons (tn 3 sc_Ldeviceright.nd) dtgs_nil))))
    (dss_cons (sset 4 sc_Ldeviceright.nd (ecall c_Llater hG hR (das_cons (gv 1) das_nil)))
    (dss_cons (sset 5 sc_Ldeviceright.nd (de_callTy cl_tuple rfl (T.free "tuple" (by decide)) (by decide +kernel) (das_cons (dg_val (de_new (dn_comp rfl sc_Ldeviceright.nd (di_seq (ev 4)) (blkOk_by (N := N_Ldeviceright) (sc := (defScope (top 63))) (own := [("_law_goal", 6)]) (by decide +kernel)) (fun _ _ _ _ _ => kn 6 sc_Ldeviceright.nd) (fun _ _ _ _ _ => dc_nil) (fun _ _ _ _ _ => (de_and (de_cmp op_isNotD (gv 6) (dg_val de_non) (by rfl)) (de_one (de_ix ix_D (gv 3) (gv 6)))))))) das_nil)))
    (dss_cons (ds_if (dt_w (dw_or (dt_not (dt_val (ecall c_isdevice hG hR (das_cons (gv 0) das_nil)))) (dw_or1 (dt_cmp op_isNotBD (dg_val (ecall c_iskeeping hG hR (das_cons (gv 1) (das_cons (gv 2) (das_cons (gv 5) das_nil))))) (dg_val de_bl) (by rfl))))) (dss_cons (ds_ret de_bl)
    dss_nil) dss_nil)
    (dss_cons (ds_if (dt_w (dw_or (dt_cmp (op_neDD hu64) (dg_val (ecall c_countmisses hG hR (das_cons (gv 0) (das_cons (gv 1) das_nil)))) (dg_val (de_op op_subD (dg_val (de_callB cl_len rfl (T.free "len" (by decide)) (by decide +kernel) (das_cons (gv 1) das_nil))) (dg_val (mtcount (gv 5) (das_cons (dg_val de_bl) das_nil))))) (by rfl)) (dw_or1 (dt_cmp op_ltD (dg_val (ecall c_countmisses hG hR (das_cons (gv 0) (das_cons (gv 1) das_nil)))) (dg_val (ecall c_leastmisses hG hR (das_cons (gv 1) (das_cons (gv 2) das_nil)))) (by rfl))))) (dss_cons (ds_ret de_bl)
    dss_nil) dss_nil)
    (dss_cons (ds_mk i_Minit hG (hR.mono hj_Minit) T.cls.choose_spec.cl rfl T.cls.choose_spec.mg sc_Ldeviceright.nd (j := 7) rfl (by first | exact Or.inl rfl | exact Or.inr rfl) (das_cons (gv 0) das_nil))
    (dss_cons (ds_ret (de_and (de_cmp (op_eqDD hu64) (dg_val (de_new (dn_comp rfl sc_Ldeviceright.nd (di_seq (ev 1)) (blkOk_by (N := N_Ldeviceright) (sc := (defScope (top 63))) (own := [("_law_who", 8)]) (by decide +kernel)) (fun _ _ _ _ _ => kn 8 sc_Ldeviceright.nd) (fun _ _ _ _ _ => dc_nil) (fun _ _ _ _ _ => (mcall m_Mrequest hG hR T.cls.choose_spec.cl T.cls.choose_spec.cls (i := 7) rfl (by first | exact Or.inl rfl | exact Or.inr (Or.inl rfl) | exact Or.inr (Or.inr rfl)) (das_cons (gv 8) das_nil)))))) (dg_val (de_new (dn_listC rfl (T.free "list" (by decide)) (by decide +kernel) (das_cons (gv 3) das_nil)))) (by rfl)) (de_one (de_cmp op_geD (dg_val (de_prop p_Mmisses hG (hR.mono hj_Mmisses) T.cls.choose_spec.cl T.cls.choose_spec.cls (i := 7) rfl (by first | exact Or.inl rfl | exact Or.inr (Or.inl rfl) | exact Or.inr (Or.inr rfl)))) (dg_val (ecall c_leastmisses hG hR (das_cons (gv 1) (das_cons (gv 2) das_nil)))) (by rfl)))))
    dss_nil)))))))
end
end K77
namespace K77
open PySem PySem.Spec PyProof.Rows L2 GX StX DL PySem.Calls NdefX
variable [DL.FT]
section
variable {P : Program} {w : World} {K : PySem.W.Frag} {mg : Str → Option Value} {base : Heap} {k : Nat} {f : Addr} {fd : FuncData}
abbrev N_Lrowright : List Str := ["_law_pool_here", "_law_row_here", "_law_told", "_law_many", "_law_at", "_law_first", "_law_second"]
theorem sc_Lrowright : FnScope N_Lrowright ["_law_pool_here", "_law_row_here"] (defScope (top 64)) := ⟨rfl, rfl, rfl, by decide +kernel, rfl, by decide +kernel, by decide +kernel⟩
def g_Lrowright : SF := (fSq (fAsg (fLst (fComp (iRange2 (lCons (fC (.int 1)) (lCons (fC (.int 5)) lNil))) [3] (tName 3) fYes (fCa 2 F_leastmisses (aCons (gVar 1) (aCons (gVar 3) aNil))))) (tName 2))
  (fSq (fIfS (fOr (fTst (fOp neD (gVar 2) (gVal (fLst (fSortRev (gVar 2)))))) (fAnd (fTst (fOp neD (gVar 2) (gVal (fLst (lLst lNil))))) (fTst (fOp ltD (gVal (fOp ixD (gVar 2) (gVal (fC (.int (-1)))))) (gVal (fLenSetZ (gVar 1))))))) (fSq (fRet (fC (.bool false)))
  fNx) fNx)
  (fSq (fIfS (fTst (fOp neD (gVal (fOp ixD (gVar 2) (gVal (fC (.int 0))))) (gVal (fCl lenD (aCons (gVal (fLst (fComp (iRange1 (lCons (fCl lenD (aCons (gVar 1) aNil)) lNil)) [4] (tName 4) (fTst (fOp neD (gVal (fSl (gVal (fSl (gVar 1) oNone (oSome (fVar 4)))) (oSome (fC (.int (-1)))) oNone)) (gVal (fSl (gVar 1) (oSome (fVar 4)) (oSome (fOp addD (gVar 4) (gVal (fC (.int 1))))))))) (fVar 4)))) aNil))))) (fSq (fRet (fC (.bool false)))
  fNx) fNx)
  (fSq (fIfS (fTst (fOp neD (gVal (fLst (fComp (iRange2 (lCons (fLenSetZ (gVar 1)) (lCons (fC (.int 5)) lNil))) [3] (tName 3) (fAnd (fTst (fOp gtD (gVar 3) (gVal (fC (.int 0))))) (fTst (fOp neD (gVal (fOp ixD (gVar 2) (gVal (fOp subD (gVar 3) (gVal (fC (.int 1))))))) (gVal (fLenSetZ (gVar 1)))))) (fVar 3)))) (gVal (fLst (lLst lNil))))) (fSq (fRet (fC (.bool false)))
  fNx) fNx)
  (fSq (fPar 4 3 (lCons (fCa 2 F_Ldraw (aCons (gVar 0) (aCons (gVal (fOp addD (gVal (fCl lenD (aCons (gVar 1) aNil))) (gVal (fC (.int 1))))) aNil))) (lCons (fOp addD (gVal (fC (.int 1))) (gVal (fCa 2 F_Ldraw (aCons (gVar 0) (aCons (gVal (fC (.int 4))) aNil))))) lNil)))
  (fSq (fPar 5 6 (lCons (fCa 2 F_leastmisses (aCons (gVal (fSl (gVar 1) oNone (oSome (fVar 4)))) (aCons (gVar 3) aNil))) (lCons (fCa 2 F_leastmisses (aCons (gVal (fSl (gVar 1) (oSome (fVar 4)) oNone)) (aCons (gVar 3) aNil))) lNil)))
  (fSq (fIfS (fOr (fTst (fOp gtD (gVar 5) (gVal (fOp ixD (gVar 2) (gVal (fOp subD (gVar 3) (gVal (fC (.int 1))))))))) (fOr (fTst (fOp gtD (gVal (fOp ixD (gVar 2) (gVal (fOp subD (gVar 3) (gVal (fC (.int 1))))))) (gVal (fOp addD (gVar 5) (gVar 6))))) (fTst (fOp gtD (gVar 6) (gVal (fOp addD (gVal (fOp ixD (gVar 2) (gVal (fOp subD (gVar 3) (gVal (fC (.int 1))))))) (gVar 3))))))) (fSq (fRet (fC (.bool false)))
  fNx) fNx)
  (fSq (fRet (fOp eqD (gVal (fMe "tuple" tCountD (gVal (fCa 2 F_bestkeeping (aCons (gVar 1) (aCons (gVar 3) aNil)))) (aCons (gVal (fC (.bool true))) aNil))) (gVal (fOp subD (gVal (fCl lenD (aCons (gVar 1) aNil))) (gVal (fOp ixD (gVar 2) (gVal (fOp subD (gVar 3) (gVal (fC (.int 1)))))))))))
  fNx))))))))
def F_Lrowright : FF := fBody 5 g_Lrowright
theorem ok_Lrowright (F : FunD K "_law_row_right" "_law_row_right" (defArgs (top 64)) (defBody (top 64)) (defScope (top 64)) [] [] f fd) (T : Fx K w mg) (c_Ldraw : Cal P w K mg base k "_law_draw" ["_law_pool_here", "_law_most"] (spD w K 2 F_Ldraw)) (c_bestkeeping : Cal P w K mg base k "best_keeping" ["names", "lines"] (spD w K 2 F_bestkeeping)) (c_leastmisses : Cal P w K mg base k "least_misses" ["names", "lines"] (spD w K 2 F_leastmisses)) :
    FnG P w K mg base (k + 1) f fd ["_law_pool_here", "_law_row_here"] (spD w K 2 F_Lrowright) := by
  have h1 := okD (P := P) (w := w) (base := base) (mg := mg) (k := k) F sc_Lrowright (g := g_Lrowright)
  rw [show F_Lrowright = fBody (N_Lrowright.length - (["_law_pool_here", "_law_row_here"] : List Str).length) g_Lrowright from rfl]
  refine h1 fun cdv A outer s H E hG hR => ?_
  have hu : (A.deeper (envOfC "_law_row_right" (defScope (top 64)) s.heap.objs.size f cdv)).units + 65 < cLine := by
    have := hR.un
    omega
  have hu64 : (A.deeper (envOfC "_law_row_right" (defScope (top 64)) s.heap.objs.size f cdv)).units + 64 < cLine := by omega
  exact (dss_cons (sset 2 sc_Lrowright.nd (de_new (dn_comp rfl sc_Lrowright.nd (di_range2 rfl (T.free "range" (by decide)) (dls_cons de_int (dls_cons de_int dls_nil))) (blkOk_by (N := N_Lrowright) (sc := (defScope (top 64))) (own := [("_law_many", 3)]) (by decide +kernel)) (fun _ _ _ _ _ => kn 3 sc_Lrowright.nd) (fun _ _ _ _ _ => dc_nil) (fun _ _ _ _ _ => (ecall c_leastmisses hG hR (das_cons (gv 1) (das_cons (gv 3) das_nil)))))))
    (dss_cons (ds_if (dt_w (dw_or (dt_cmp (op_neDD hu64) (gv 2) (dg_val (de_new (dn_sortRev rfl (T.free "sorted" (by decide)) (gv 2) pe_bl))) (by rfl)) (dw_or1 (dt_w (dw_and (dt_cmp (op_neDD hu64) (gv 2) (dg_val (de_new (dn_lst dls_nil))) (by rfl)) (dw_and1 (dt_cmp op_ltD (dg_val (de_ix ix_D (gv 2) (dg_val de_neg))) (dg_val (de_lenSetZ rfl rfl (T.free "len" (by decide)) rfl (T.free "set" (by decide)) (gv 1))) (by rfl)))))))) (dss_cons (ds_ret de_bl)
    dss_nil) dss_nil)
    (dss_cons (ds_if (dt_cmp (op_neDD hu64) (dg_val (de_ix ix_D (gv 2) (dg_val de_int))) (dg_val (de_callB cl_len rfl (T.free "len" (by decide)) (by decide +kernel) (das_cons (dg_val (de_new (dn_comp rfl sc_Lrowright.nd (di_range1 rfl (T.free "range" (by decide)) (dls_cons (de_callB cl_len rfl (T.free "len" (by decide)) (by decide +kernel) (das_cons (gv 1) das_nil)) dls_nil)) (blkOk_by (N := N_Lrowright) (sc := (defScope (top 64))) (own := [("_law_at", 4)]) (by decide +kernel)) (fun _ _ _ _ _ => kn 4 sc_Lrowright.nd) (fun _ _ _ _ _ => dc_one (dt_cmp (op_neDD hu64) (dg_val (de_slice (dg_val (de_slice (gv 1) do_none (do_some (ev 4)))) (do_some de_neg) do_none)) (dg_val (de_slice (gv 1) (do_some (ev 4)) (do_some (de_op op_addD (gv 4) (dg_val de_int))))) (by rfl))) (fun _ _ _ _ _ => (ev 4))))) das_nil))) (by rfl)) (dss_cons (ds_ret de_bl)
    dss_nil) dss_nil)
    (dss_cons (ds_if (dt_cmp (op_neDD hu64) (dg_val (de_new (dn_comp rfl sc_Lrowright.nd (di_range2 rfl (T.free "range" (by decide)) (dls_cons (de_lenSetZ rfl rfl (T.free "len" (by decide)) rfl (T.free "set" (by decide)) (gv 1)) (dls_cons de_int dls_nil))) (blkOk_by (N := N_Lrowright) (sc := (defScope (top 64))) (own := [("_law_many", 3)]) (by decide +kernel)) (fun _ _ _ _ _ => kn 3 sc_Lrowright.nd) (fun _ _ _ _ _ => dc_one (dt_w (dw_and (dt_cmp op_gtD (gv 3) (dg_val de_int) (by rfl)) (dw_and1 (dt_cmp (op_neDD hu64) (dg_val (de_ix ix_D (gv 2) (dg_val (de_op op_subD (gv 3) (dg_val de_int))))) (dg_val (de_lenSetZ rfl rfl (T.free "len" (by decide)) rfl (T.free "set" (by decide)) (gv 1))) (by rfl)))))) (fun _ _ _ _ _ => (ev 3))))) (dg_val (de_new (dn_lst dls_nil))) (by rfl)) (dss_cons (ds_ret de_bl)
    dss_nil) dss_nil)
    (dss_cons (ds_par (i := 4) (j := 3) rfl sc_Lrowright.nd rfl rfl (by decide) rfl rfl (dls_cons (ecall c_Ldraw hG hR (das_cons (gv 0) (das_cons (dg_val (de_op op_addD (dg_val (de_callB cl_len rfl (T.free "len" (by decide)) (by decide +kernel) (das_cons (gv 1) das_nil))) (dg_val de_int))) das_nil))) (dls_cons (de_op op_addD (dg_val de_int) (dg_val (ecall c_Ldraw hG hR (das_cons (gv 0) (das_cons (dg_val de_int) das_nil))))) dls_nil)) rfl)
    (dss_cons (ds_par (i := 5) (j := 6) rfl sc_Lrowright.nd rfl rfl (by decide) rfl rfl (dls_cons (ecall c_leastmisses hG hR (das_cons (dg_val (de_slice (gv 1) do_none (do_some (ev 4)))) (das_cons (gv 3) das_nil))) (dls_cons (ecall c_leastmisses hG hR (das_cons (dg_val (de_slice (gv 1) (do_some (ev 4)) do_none)) (das_cons (gv 3) das_nil))) dls_nil)) rfl)
    (dss_cons (ds_if (dt_w (dw_or (dt_cmp op_gtD (gv 5) (dg_val (de_ix ix_D (gv 2) (dg_val (de_op op_subD (gv 3) (dg_val de_int))))) (by rfl)) (dw_or (dt_cmp op_gtD (dg_val (de_ix ix_D (gv 2) (dg_val (de_op op_subD (gv 3) (dg_val de_int))))) (dg_val (de_op op_addD (gv 5) (gv 6))) (by rfl)) (dw_or1 (dt_cmp op_gtD (gv 6) (dg_val (de_op op_addD (dg_val (de_ix ix_D (gv 2) (dg_val (de_op op_subD (gv 3) (dg_val de_int))))) (gv 3))) (by rfl)))))) (dss_cons (ds_ret de_bl)
    dss_nil) dss_nil)
    (dss_cons (ds_ret (de_cmp (op_eqDD hu64) (dg_val (mtcount (dg_val (ecall c_bestkeeping hG hR (das_cons (gv 1) (das_cons (gv 3) das_nil)))) (das_cons (dg_val de_bl) das_nil))) (dg_val (de_op op_subD (dg_val (de_callB cl_len rfl (T.free "len" (by decide)) (by decide +kernel) (das_cons (gv 1) das_nil))) (dg_val (de_ix ix_D (gv 2) (dg_val (de_op op_subD (gv 3) (dg_val de_int))))))) (by rfl)))
    dss_nil))))))))
end
end K77
namespace K77
open PySem PySem.Spec PyProof.Rows L2 GX StX DL PySem.Calls NdefX
variable [DL.FT]
section
variable {P : Program} {w : World} {K : PySem.W.Frag} {mg : Str → Option Value} {base : Heap} {k : Nat} {f : Addr} {fd : FuncData}
abbrev N_Lright : List Str := ["_law_pool_here", "_law_turn", "_law_unit", "_law_again", "_law_row_here"]
theorem sc_Lright : FnScope N_Lright ["_law_pool_here"] (defScope (top 65)) := ⟨rfl, rfl, rfl, by decide +kernel, rfl, by decide +kernel, by decide +kernel⟩
noncomputable def g_Lright : SF := (fSq (fFor (iRange1 (lCons (fC (.int 3)) lNil)) (tName 1) (fSq (fAsg (fCa 1 F_Lkit (aCons (gVar 0) aNil)) (tName 2))
  (fSq (fFor (iRange1 (lCons (fC (.int 3)) lNil)) (tName 3) (fSq (fAsg (fCa 3 F_Lrow (aCons (gVar 0) (aCons (gVal (fC (.int 30))) (aCons (gVal (fC (.int 7))) aNil)))) (tName 4))
  (fSq (fIfS (fOr (fNot (fTst (fCa 2 F_Ldeviceright (aCons (gVar 2) (aCons (gVar 4) aNil))))) (fNot (fTst (fCa 2 F_Lrowright (aCons (gVar 0) (aCons (gVar 4) aNil)))))) (fSq (fRet (fC (.bool false)))
  fNx) fNx)
  fNx)))
  fNx)))
  (fSq (fRet (fC (.bool true)))
  fNx))
noncomputable def F_Lright : FF := fBody 4 g_Lright
theorem ok_Lright (F : FunD K "_law_right" "_law_right" (defArgs (top 65)) (defBody (top 65)) (defScope (top 65)) [] [] f fd) (T : Fx K w mg) (c_Ldeviceright : Cal P w K mg base k "_law_device_right" ["_law_unit", "_law_row_here"] (spD w K 2 F_Ldeviceright)) (c_Lkit : Cal P w K mg base k "_law_kit" ["_law_pool_here"] (spD w K 1 F_Lkit)) (c_Lrow : Cal P w K mg base k "_law_row" ["_law_pool_here", "_law_many", "_law_most"] (spD w K 3 F_Lrow)) (c_Lrowright : Cal P w K mg base k "_law_row_right" ["_law_pool_here", "_law_row_here"] (spD w K 2 F_Lrowright)) :
    FnG P w K mg base (k + 1) f fd ["_law_pool_here"] (spD w K 1 F_Lright) := by
  have h1 := okD (P := P) (w := w) (base := base) (mg := mg) (k := k) F sc_Lright (g := g_Lright)
  rw [show F_Lright = fBody (N_Lright.length - (["_law_pool_here"] : List Str).length) g_Lright from rfl]
  refine h1 fun cdv A outer s H E hG hR => ?_
  have hu : (A.deeper (envOfC "_law_right" (defScope (top 65)) s.heap.objs.size f cdv)).units + 65 < cLine := by
    have := hR.un
    omega
  have hu64 : (A.deeper (envOfC "_law_right" (defScope (top 65)) s.heap.objs.size f cdv)).units + 64 < cLine := by omega
  exact (dss_cons (ds_for PassesOwn.never rfl (di_range1 rfl (T.free "range" (by decide)) (dls_cons de_int dls_nil)) (tn 1 sc_Lright.nd) (dss_cons (sset 2 sc_Lright.nd (ecall c_Lkit hG hR (das_cons (gv 0) das_nil)))
    (dss_cons (ds_for PassesOwn.never rfl (di_range1 rfl (T.free "range" (by decide)) (dls_cons de_int dls_nil)) (tn 3 sc_Lright.nd) (dss_cons (sset 4 sc_Lright.nd (ecall c_Lrow hG hR (das_cons (gv 0) (das_cons (dg_val de_int) (das_cons (dg_val de_int) das_nil)))))
    (dss_cons (ds_if (dt_w (dw_or (dt_not (dt_val (ecall c_Ldeviceright hG hR (das_cons (gv 2) (das_cons (gv 4) das_nil))))) (dw_or1 (dt_not (dt_val (ecall c_Lrowright hG hR (das_cons (gv 0) (das_cons (gv 4) das_nil)))))))) (dss_cons (ds_ret de_bl)
    dss_nil) dss_nil)
    dss_nil)))
    dss_nil)))
    (dss_cons (ds_ret de_bl)
    dss_nil))
abbrev N_law : List Str := ["_law_script", "_law_k"]
theorem sc_law : FnScope N_law ["_law_script"] (defScope (top 66)) := ⟨rfl, rfl, rfl, by decide +kernel, rfl, by decide +kernel, by decide +kernel⟩
noncomputable def g_law : SF := (fSq (fRet (fCl allD (aCons (gVal (fLst (fComp (iRange1 (lCons (fCl maxD (aCons (gVal (fC (.int 2))) (aCons (gVal (fCl min2D (aCons (gVal (fScrLen 0)) (aCons (gVal (fC (.int 6))) aNil)))) aNil))) lNil)) [1] (tName 1) fYes (fCaN F_Lright (fCaL 1 F_Lpool (aCons (gVal (fCa 2 F_Lcell (aCons (gScr 0) (aCons (gVar 1) aNil)))) aNil)))))) aNil)))
  fNx)
noncomputable def F_law : FF := fBody 1 g_law
theorem ok_law (F : FunD K "law" "law" (defArgs (top 66)) (defBody (top 66)) (defScope (top 66)) [] [] f fd) (T : Fx K w mg) (c_Lcell : Cal P w K mg base k "_law_cell" ["_law_script", "_law_k"] (spD w K 2 F_Lcell)) (c_Lpool : Cal P w K mg base k "_law_pool" ["_law_figure"] (spL w K 1 F_Lpool)) (c_Lright : Cal P w K mg base k "_law_right" ["_law_pool_here"] (spD w K 1 F_Lright)) :
    FnG P w K mg base (k + 1) f fd ["_law_script"] (spD w K 1 F_law) := by
  have h1 := okD (P := P) (w := w) (base := base) (mg := mg) (k := k) F sc_law (g := g_law)
  rw [show F_law = fBody (N_law.length - (["_law_script"] : List Str).length) g_law from rfl]
  refine h1 fun cdv A outer s H E hG hR => ?_
  have hu : (A.deeper (envOfC "law" (defScope (top 66)) s.heap.objs.size f cdv)).units + 65 < cLine := by
    have := hR.un
    omega
  have hu64 : (A.deeper (envOfC "law" (defScope (top 66)) s.heap.objs.size f cdv)).units + 64 < cLine := by omega
  exact (dss_cons (ds_ret (de_callB (cl_all rfl) rfl (T.free "all" (by decide)) (by decide +kernel) (das_cons (dg_val (de_new (dn_comp rfl sc_law.nd (di_range1 rfl (T.free "range" (by decide)) (dls_cons (de_callB (cl_max rfl) rfl (T.free "max" (by decide)) (by decide +kernel) (das_cons (dg_val de_int) (das_cons (dg_val (de_callB (cl_min2 rfl) rfl (T.free "min" (by decide)) (by decide +kernel) (das_cons (dg_val (eslen 0 (T.free "len" (by decide)))) (das_cons (dg_val de_int) das_nil)))) das_nil))) dls_nil)) (blkOk_by (N := N_law) (sc := (defScope (top 66))) (own := [("_law_k", 1)]) (by decide +kernel)) (fun _ _ _ _ _ => kn 1 sc_law.nd) (fun _ _ _ _ _ => dc_nil) (fun _ _ _ _ _ => (de_callN c_Lright hG hR (ncall c_Lpool hG hR (das_cons (dg_val (ecall c_Lcell hG hR (das_cons (sv 0) (das_cons (gv 1) das_nil)))) das_nil))))))) das_nil)))
    dss_nil)
end
end K77
namespace K77
open PySem PySem.Spec PyProof.Rows L2 GX StX DL PySem.Calls NdefX
variable [DL.FT]
section
variable {P : Program} {w : World} {K : PySem.W.Frag} {mg : Str → Option Value} {base : Heap} {k : Nat}
abbrev N_key : List Str := ["start", "follows"]
theorem ns_key : NScope N_key ["start"] ["follows"] kyS := nscope_by (by decide +kernel)
theorem clo_key (hnf : ∀ c cs φ, FT.nf "key" c cs = some φ → cs.length = 1 ∧ φ = LamO (kyF c cs) kyE) (hgl : FT.gl "key" = none) (hq : FT.qn "key" = kyQ) : CloG P w K mg base (k + 1) "key" 1 Mkey := by
  refine clo_ofE (N := N_key) (ps := ["start"]) (fr := ["follows"]) (mk := kyF) (sc := kyS) (g := g_key) hnf hgl (fun _ _ => rfl) (fun _ _ => rfl) (fun _ _ => ⟨rfl, hq.symm⟩) (by decide) ns_key (fun c cs pm ctv us h => ?_) (fun c cs f A outer s H hG hR => ?_)
  · match us, h with
    | [u], _ => rfl
  · exact de_ix ix_D (gv 1) (gv 0)
end
end K77
namespace He
open PySem PySem.Spec PyProof.Rows L2
/-- the getter of the property m of the class x -/
def prA (K : PySem.W.Frag) (x m : Str) : Addr := match PySem.W.recIn K (ma K (ga K x) m) "property" with
  | some (.ref g :: _) => g
  | _ => 0
def fnA (K : PySem.W.Frag) (a : Addr) : FnW := match K.lookup a with
  | some ⟨_, _, .func fd, _⟩ => some (fd.name, fd.qualname, fd.params, fd.body, fd.scope, fd.globals, fd.closure, fd.builtins)
  | _ => none
def okA (K : PySem.W.Frag) (a : Addr) (d : DefD) : Bool := PySem.W.keepIn K (.ref a) && (match K.lookup a with
  | some ⟨_, _, .func fd, _⟩ => PySem.W.codeIn K fd.code d.qual && (dflB K fd.defaults (d.dvs K) && kwdB K fd.kwdefaults (d.kws K))
  | _ => false)
theorem funA {K : PySem.W.Frag} {a : Addr} {d : DefD} (e : fnA K a = d.val) (c : okA K a d = true) : ∃ fd, FunD K d.name d.qual d.params d.body d.scope (d.dvs K) (d.kws K) a fd := by
  obtain ⟨kp, c2⟩ := ba c
  unfold fnA at e
  cases q : K.lookup a with
  | none =>
    rw [q] at c2
    cases c2
  | some o =>
    obtain ⟨oc, od, dt, osl⟩ := o
    rw [q] at c2 e
    cases dt with
    | func fd =>
      obtain ⟨n1, n2, n3, n4, n5, n6, n7, n8, n9, n10, n11, n12, n13, n14, n15⟩ := fd
      have e2 : (some (n1, n2, n3, n4, n5, n6, n7, n15) : FnW) = some (d.name, d.qual, d.params, .stmts d.body, d.scope, mainGlobals, [], builtinsNs) := e
      simp only [Option.some.injEq, Prod.mk.injEq] at e2
      obtain ⟨h1, h2, h3, h4, h5, h6, h7, h8⟩ := e2
      subst h1 h2 h3 h4 h5 h6 h7 h8
      have c3 : (PySem.W.codeIn K n13 d.qual && (dflB K n8 (d.dvs K) && kwdB K n9 (d.kws K))) = true := c2
      obtain ⟨k1, k2⟩ := ba c3
      obtain ⟨k3, k4⟩ := ba k2
      exact ⟨_, ⟨oc, od, n8, n9, n10, n11, n12, n13, n14, osl, rfl, q, k1, dflB_ok k3, kwdB_ok k4⟩, kp⟩
    | _ => cases c2
/-- the class x has the property m -/
def propB (K : PySem.W.Frag) (x m : Str) : Bool := eqO (PySem.W.findIn K (.ref (ga K x)) m) (some (some (.ref (ma K (ga K x) m)))) && (eqO (PySem.W.specialIn K (.ref (ma K (ga K x) m)) "__get__") (some (some (.builtin "property.__get__"))) &&
  (decide (PySem.W.takesIn K (.ref (ma K (ga K x) m)) = some true) && (match PySem.W.recIn K (ma K (ga K x) m) "property" with
    | some (.ref _ :: _) => true
    | _ => false)))
theorem propB_ok {K : PySem.W.Frag} {x m : Str} (h : propB K x m = true) : PropOf K (ga K x) m (ma K (ga K x) m) (prA K x m) := by
  obtain ⟨h1, h⟩ := ba h
  obtain ⟨h2, h⟩ := ba h
  obtain ⟨h3, h4⟩ := ba h
  refine ⟨eqO_ok h1, eqO_ok h2, of_decide_eq_true h3, ?_⟩
  unfold prA
  cases q : PySem.W.recIn K (ma K (ga K x) m) "property" with
  | none =>
    rw [q] at h4
    cases h4
  | some vs =>
    cases vs with
    | nil =>
      rw [q] at h4
      cases h4
    | cons v r =>
      cases v with
      | ref g => exact ⟨r, rfl⟩
      | _ =>
        rw [q] at h4
        cases h4
/-- a class, its property, the getter -/
abbrev PrD : Type := Str × Str × DefD
def prB (prs : List PrD) (K : PySem.W.Frag) : Bool := prs.all fun q => propB K q.1 q.2.1 && okA K (prA K q.1 q.2.1) q.2.2
abbrev AlY : Type := AlX × List FnW
def obsY (n : Nat) (fa : List Fa) (fn : List DefD) (ts : List Tab) (tf : List Defn) (ex : PySem.W.Frag → Bool) (prs : List PrD) (g : Addr → Option Obj) : AlY := (obsX n fa fn ts tf (fun K => ex K && prB prs K) g, prs.map fun q => fnA (frT g (asD g n)) (prA (frT g (asD g n)) q.1 q.2.1))
structure SaysY (fa : List Fa) (fn : List DefD) (ts : List Tab) (tf : List Defn) (ex : PySem.W.Frag → Bool) (prs : List PrD) (w : World) (h : Heap) (K : PySem.W.Frag) : Prop where
  x : SaysX fa fn ts tf (fun K => ex K && prB prs K) w h K
  p : (prs.map fun q => fnA K (prA K q.1 q.2.1)) = prs.map fun q => q.2.2.val
def valY (fn : List DefD) (ts : List Tab) (prs : List PrD) (w : World) : AlY := (valX fn ts w, prs.map fun (q : PrD) => q.2.2.val)
theorem saysY_of {n : Nat} {fa : List Fa} {fn : List DefD} {ts : List Tab} {tf : List Defn} {ex : PySem.W.Frag → Bool} {prs : List PrD} {w : World} {h : Heap} (e : obsY n fa fn ts tf ex prs h.get? = valY fn ts prs w) : SaysY fa fn ts tf ex prs w h (frT h.get? (asD h.get? n)) := by
  have e1 := congrArg (fun z : AlY => z.1) e
  have e2 := congrArg (fun z : AlY => z.2) e
  exact ⟨saysX_of e1, e2⟩
def hookY (n : Nat) (fa : List Fa) (fn : List DefD) (ts : List Tab) (tf : List Defn) (ex : PySem.W.Frag → Bool) (prs : List PrD) : PySem.W.Hook where
  α := AlY
  obs := fun s => obsY n fa fn ts tf ex prs s.heap.get?
  val := fun w => valY fn ts prs w
  says := fun w h => ∃ K : PySem.W.Frag, K.In h ∧ SaysY fa fn ts tf ex prs w h K
  of := fun _ _ e => ⟨_, frT_in, saysY_of e⟩
  keeps := fun _ _ _ ⟨K, hK, c, d⟩ k => ⟨K, PySem.W.Frag.In.keeps hK k, ⟨c.t, c.more, c.hd, c.out, fun p hp => k _ _ (c.empty p hp)⟩, d⟩
theorem obsY_eq {n : Nat} {fa : List Fa} {fn : List DefD} {ts : List Tab} {tf : List Defn} {ex : PySem.W.Frag → Bool} {prs : List PrD} {g : Addr → Option Obj} {s : Shared} (h : ∀ a, g a = s.heap.get? a) : obsY n fa fn ts tf ex prs g = (hookY n fa fn ts tf ex prs).obs s := by
  have e : g = s.heap.get? := funext h
  rw [e] <;> rfl
section
variable {fa : List Fa} {fn : List DefD} {ts : List Tab} {tf : List Defn} {ex : PySem.W.Frag → Bool} {prs : List PrD} {w : World} {h : Heap} {K : PySem.W.Frag}
theorem SaysY.prop (c : SaysY fa fn ts tf ex prs w h K) {x m : Str} {d : DefD} (hd : (x, m, d) ∈ prs) : PropOf K (ga K x) m (ma K (ga K x) m) (prA K x m) ∧ ∃ fd, FunD K d.name d.qual d.params d.body d.scope (d.dvs K) (d.kws K) (prA K x m) fd := by
  obtain ⟨_, hb⟩ := ba c.x.more
  obtain ⟨b1, b2⟩ := ba (List.all_eq_true.mp hb (x, m, d) hd)
  refine ⟨propB_ok b1, funA ?_ b2⟩
  obtain ⟨i, hi, e⟩ := List.mem_iff_getElem.mp hd
  have z := congrArg (fun l : List FnW => l[i]?) c.p
  simp only [List.getElem?_map, List.getElem?_eq_getElem hi, e, Option.map_some, Option.some.injEq] at z
  exact z
theorem SaysY.exB (c : SaysY fa fn ts tf ex prs w h K) : ex K = true := (ba c.x.more).1
end
end He
set_option maxHeartbeats 0
namespace K77
open PySem PySem.Spec PyProof.Rows L2 GX DL
def dTop (x : Str) (i : Nat) : He.DefD := ⟨(x, none), x, x, defArgs (top i), defBody (top i), defScope (top i), [], []⟩
def dMth (x m qn : Str) (i j : Nat) : He.DefD := ⟨(x, some m), m, qn, defArgs (meth i j), defBody (meth i j), defScope (meth i j), [], []⟩
def defs : List (Str × Nat) := [(("is_whole" : Str), (10 : Nat)), (("is_between" : Str), (11 : Nat)), (("is_truth" : Str), (12 : Nat)), (("is_tuple" : Str), (13 : Nat)), (("is_name" : Str), (21 : Nat)), (("check_name" : Str), (22 : Nat)), (("check_history" : Str), (23 : Nat)), (("check_known" : Str), (28 : Nat)), (("next_requests" : Str), (29 : Nat)), (("best_keeping" : Str), (27 : Nat)), (("least_misses" : Str), (26 : Nat)), (("is_keeping" : Str), (25 : Nat)), (("exchanged" : Str), (31 : Nat)), (("ask" : Str), (36 : Nat)), (("swap" : Str), (37 : Nat)), (("serve_levels" : Str), (35 : Nat)), (("serve" : Str), (34 : Nat)), (("start_of" : Str), (33 : Nat)), (("is_row" : Str), (41 : Nat)), (("is_policy" : Str), (40 : Nat)), (("is_device" : Str), (42 : Nat)), (("check_device" : Str), (43 : Nat)), (("count_lines" : Str), (44 : Nat)), (("answers" : Str), (50 : Nat)), (("count_misses" : Str), (51 : Nat)), (("_law_cell" : Str), (53 : Nat)), (("_law_pool" : Str), (54 : Nat)), (("_law_draw" : Str), (55 : Nat)), (("_law_policy" : Str), (56 : Nat)), (("_law_recent" : Str), (57 : Nat)), (("_law_queue" : Str), (58 : Nat)), (("_law_device" : Str), (59 : Nat)), (("_law_row" : Str), (60 : Nat)), (("_law_kit" : Str), (62 : Nat)), (("_law_later" : Str), (61 : Nat)), (("_law_device_right" : Str), (63 : Nat)), (("_law_row_right" : Str), (64 : Nat)), (("_law_right" : Str), (65 : Nat)), (("law" : Str), (66 : Nat))]
def mths : List (Str × Str × Nat) := [(("__init__" : Str), ("Cache.__init__" : Str), (2 : Nat)), (("take" : Str), ("Cache.take" : Str), (14 : Nat)), (("request" : Str), ("Cache.request" : Str), (10 : Nat))]
def fn : List He.DefD := (defs.map fun p => dTop p.1 p.2) ++ mths.map fun p => dMth "Cache" p.1 p.2.1 46 p.2.2
def numsI : List (Str × Int) := [("MOST_LINES", 4), ("MOST_STATES", 64), ("MOST_REQUESTS", 2000), ("MOST_KEPT", 200), ("LONGEST", 6)]
def fields : List Str := ["served", "place", "hit_count", "miss_count"]
def fa : List He.Fa := defs.map (fun p => .glo p.1) ++ ([.glo "LEVELS", .str "LETTERS" "abcdefghijklmnopqrstuvwxyz", .glo "Cache", .cls "Cache", .mkr "Cache", .meth "Cache" "take", .meth "Cache" "request"] ++ (fields.map (.noat "Cache") ++ (frees.map .free ++ numsI.map (fun p => .int p.1 p.2))))
def ts : List He.Tab := [(fun K => He.ga K "LEVELS", ["cache", "plain", "inclusive", "victim"])]
def tf : List He.Defn := [(("best_keeping" : Str), none)]
def ex (K : PySem.W.Frag) : Bool := He.valsB K (He.ga K "LEVELS") [("cache", .int 1), ("plain", .int 2), ("inclusive", .int 2), ("victim", .int 2)]
def dPr : He.DefD := dMth "Cache" "misses" "Cache.misses" 46 9
def prs : List He.PrD := [("Cache", "misses", dPr)]
abbrev R : PySem.W.OpenRow := PySem.W.OpenLaw.row PySem.Challenge.rw_missbounds_k77_whole_no_device_with_fewe
abbrev Says (w : World) (h : Heap) (K : PySem.W.Frag) : Prop := He.SaysY fa fn ts tf ex prs w h K
def DEPTH : Nat := 5
def hk : PySem.W.Hook := He.hookY DEPTH fa fn ts tf ex prs
def ob (s : PySem.W.SharedT) : He.AlY := He.obsY DEPTH fa fn ts tf ex prs (HandSHeadRun.getT s)
theorem ob_eq (s : PySem.W.SharedT) : ob s = hk.obs s.abs := He.obsY_eq (HandSHeadRun.getT_eq s)
end K77
namespace K77
open PySem PySem.Spec PyProof.Rows L2 GX DL
def loose : List Str := [("_wall" : Str), ("InputError" : Str), ("SizeError" : Str), ("InvalidLines" : Str), ("InvalidDevice" : Str), ("InvalidName" : Str), ("InvalidHistory" : Str), ("TooManyRequests" : Str), ("is_whole" : Str), ("is_between" : Str), ("is_truth" : Str), ("is_tuple" : Str), ("MOST_LINES" : Str), ("MOST_STATES" : Str), ("MOST_REQUESTS" : Str), ("MOST_KEPT" : Str), ("LETTERS" : Str), ("LONGEST" : Str), ("is_name" : Str), ("check_name" : Str), ("check_history" : Str), ("is_keeping" : Str), ("least_misses" : Str), ("best_keeping" : Str), ("check_known" : Str), ("next_requests" : Str), ("exchanged" : Str), ("start_of" : Str), ("serve" : Str), ("serve_levels" : Str), ("ask" : Str), ("swap" : Str), ("LEVELS" : Str), ("is_policy" : Str), ("is_row" : Str), ("is_device" : Str), ("check_device" : Str), ("count_lines" : Str), ("Cache" : Str), ("levels_of" : Str), ("names_in" : Str), ("answers" : Str), ("count_misses" : Str), ("_law_cell" : Str), ("_law_pool" : Str), ("_law_draw" : Str), ("_law_policy" : Str), ("_law_recent" : Str), ("_law_queue" : Str), ("_law_device" : Str), ("_law_row" : Str), ("_law_later" : Str), ("_law_kit" : Str), ("_law_device_right" : Str), ("_law_row_right" : Str), ("_law_right" : Str)]
theorem headRunA (w : World) : HandSHeadRun.RunEq R (PySem.W.view R.prog [66]) hk ob 20000 loose (w.withFollow "special-get-raises" false) := by
  intro os
  kernel_rfl
theorem headRunB (w : World) : HandSHeadRun.RunEq R (PySem.W.view R.prog [66]) hk ob 20000 loose (w.withFollow "special-get-raises" true) := by
  intro os
  kernel_rfl
theorem headRun (w : World) : HandSHeadRun.RunEq R (PySem.W.view R.prog [66]) hk ob 20000 loose w := PySem.W.byRow2 "special-get-raises" (P := fun w => HandSHeadRun.RunEq R (PySem.W.view R.prog [66]) hk ob 20000 loose w) headRunA headRunB w
end K77
set_option maxHeartbeats 4000000
namespace K77
open PySem PySem.Spec PyProof.Rows L2 GX StX DL BX PySem.Calls NdefX
theorem code_of {K : PySem.W.Frag} {x q : Str} {ps : Arguments} {b : List Stmt} {sc : Scope} {fd : FuncData} (F : FunD K x q ps b sc [] [] (He.ga K x) fd) : fd.code = .ref (He.cT K (x, none)).1 := by
  obtain ⟨oc, od, dV, kV, doc, pm, an, cdv, ct, osl, rfl, lk, hcd, _, _⟩ := F.ex
  obtain ⟨c, rfl⟩ := He.codeIn_ref hcd
  have e : He.codeOf K (x, none) = c := He.codeOf_eq (p := (x, none)) lk rfl
  show (Value.ref c : Value) = .ref (He.codeOf K (x, none))
  rw [e]
/-- the name of the function that is made at a place -/
def nm (l c : Nat) : Str := if l = kyPos.line ∧ c = kyPos.col then kyQ else ""
theorem nm_key : nm kyPos.line kyPos.col = kyQ := by kernel_rfl
/-- the functions that the row makes; its class -/
def ftOf (w : World) (P1 C1 : Addr) : DL.FT where
  nf t c cs := if t = "key" ∧ cs.length = 1 then some (LamO (kyF c cs) kyE) else none
  qn _ := kyQ
  tabs := [(P1, nm)]
  wd := some w
  cl t := if t = "Cache" then some C1 else none
structure FtOk [DL.FT] (w : World) (P1 C1 : Addr) : Prop where
  wd : FT.wd = some w
  g0 : ∀ t, FT.gl t = none
  m1 : (P1, nm) ∈ FT.tabs
  u : ∀ p ∈ FT.tabs, p.2 = nm
  ql : FT.qn "key" = kyQ
  nl1 : ∀ c cs, cs.length = 1 → FT.nf "key" c cs = some (LamO (kyF c cs) kyE)
  nl2 : ∀ c cs φ, FT.nf "key" c cs = some φ → cs.length = 1 ∧ φ = LamO (kyF c cs) kyE
  cl : FT.cl "Cache" = some C1
theorem ft_ok (w : World) (P1 C1 : Addr) : letI := ftOf w P1 C1; FtOk w P1 C1 := by
  letI := ftOf w P1 C1
  refine ⟨rfl, fun _ => rfl, List.mem_cons_self, fun p hp => ?_, rfl, fun c cs h => if_pos ⟨rfl, h⟩, fun c cs φ h => ?_, if_pos rfl⟩
  · have hp2 : p ∈ [(P1, nm)] := hp
    simp only [List.mem_cons, List.not_mem_nil, or_false] at hp2
    rw [hp2]
  · have h2 : (if ("key" : Str) = "key" ∧ cs.length = 1 then some (LamO (kyF c cs) kyE) else none) = some φ := h
    by_cases q : cs.length = 1
    · rw [if_pos ⟨rfl, q⟩] at h2
      exact ⟨q, (Option.some.inj h2).symm⟩
    · rw [if_neg (fun z => q z.2)] at h2
      cases h2
abbrev cps (K : PySem.W.Frag) : List (Addr × Addr) := tf.map fun x => He.cT K x
theorem lev_of {K : PySem.W.Frag} {w : World} {d : Addr} (h : He.dicW K d = some (He.keysIn w.params ["cache", "plain", "inclusive", "victim"])) (v : He.valsB K d [("cache", .int 1), ("plain", .int 2), ("inclusive", .int 2), ("victim", .int 2)] = true) : Lev K w d := by
  obtain ⟨es, n, D⟩ := He.dicW_ok h
  have ks : es.toList.map He.keyOf = He.keysIn w.params ["cache", "plain", "inclusive", "victim"] := by
    unfold He.dicW at h
    rw [D.at_] at h
    dsimp only at h
    split at h
    · exact Option.some.inj h
    · cases h
  refine ⟨⟨es, n, D⟩, fun z hz => ?_, fun z k hz => ?_⟩
  · have go : ∀ (l : List DictEntry) (xs : List Str), l.map He.keyOf = He.keysIn w.params xs → z ∉ xs → (l.find? (·.key.isStr z)) = none ∧ l.any (·.refKey) = false := by
      intro l
      induction l with
      | nil => intro xs _ _; exact ⟨rfl, rfl⟩
      | cons e r ih =>
        intro xs hx hn
        cases xs with
        | nil => cases hx
        | cons x xs =>
          have h1 : He.keyOf e :: r.map He.keyOf = some (x, PyData.keyHash w.params x) :: He.keysIn w.params xs := hx
          injection h1 with h2 h3
          obtain ⟨i1, i2⟩ := ih xs h3 fun q => hn (List.mem_cons_of_mem _ q)
          unfold He.keyOf at h2
          split at h2
          · rename_i y t q
            obtain ⟨h5, _⟩ := Prod.mk.inj (Option.some.inj h2)
            have ne : y ≠ z := fun e => hn (by rw [← e, h5]; exact List.mem_cons_self)
            rw [List.find?_cons, List.any_cons]
            have a1 : e.key.isStr z = false := by rw [q]; exact decide_eq_false ne
            have a2 : e.refKey = false := by unfold DictEntry.refKey; rw [q]
            rw [a1, a2]
            exact ⟨i1, i2⟩
          · cases h2
    have nz : z ∉ (["cache", "plain", "inclusive", "victim"] : List Str) := by
      intro q
      simp only [List.mem_cons, List.not_mem_nil, or_false] at q
      rcases q with rfl | rfl | rfl | rfl <;> exact absurd hz (by decide +kernel)
    obtain ⟨g1, g2⟩ := go es.toList _ ks nz
    unfold PySem.W.nsIn
    rw [D.at_]
    dsimp only
    rw [g1, g2]
    rfl
  · have mem : ((z, He.Dv.int (k : Nat)) : Str × He.Dv) ∈ [(("cache" : Str), He.Dv.int 1), ("plain", .int 2), ("inclusive", .int 2), ("victim", .int 2)] := by
      unfold levels at hz
      simp only [List.lookup_cons, List.lookup_nil] at hz
      have fin : ∀ {x : Str}, (z == x) = true → z = x := fun q => eq_of_beq q
      split at hz
      · rename_i q
        cases hz
        rw [fin q]
        exact List.mem_cons_self
      · split at hz
        · rename_i q
          cases hz
          rw [fin q]
          exact List.mem_cons_of_mem _ List.mem_cons_self
        · split at hz
          · rename_i q
            cases hz
            rw [fin q]
            exact List.mem_cons_of_mem _ (List.mem_cons_of_mem _ List.mem_cons_self)
          · split at hz
            · rename_i q
              cases hz
              rw [fin q]
              exact List.mem_cons_of_mem _ (List.mem_cons_of_mem _ (List.mem_cons_of_mem _ List.mem_cons_self))
            · cases hz
    obtain ⟨u, e1, e2⟩ := He.valsB_ok v mem
    obtain ⟨t, rfl⟩ := e2
    exact ⟨t, e1⟩
theorem facts [DL.FT] {P : Program} {w : World} {K : PySem.W.Frag} {h : Heap} {mg : Str → Option Value} {f : Addr} (X : K.In h) (G : h.Ns mainGlobals mg) (hfa : mg ("law" : Str) = some (.ref f)) (cY : Says w h K) (ok : FtOk w (He.cT K ("best_keeping", none)).2 (He.ga K "Cache")) :
    ∃ fd : FuncData, (∀ (s : Shared) (v : Value), BindsTo s fd ⟨[v], []⟩ [("_law_script", v)]) ∧ ∀ base : Heap, K.In base → base.Ns mainGlobals mg → (∀ p ∈ cps K, LamX.TabB base mg p.1 p.2) → FnG P w K mg base 11 f fd ["_law_script"] (spD w K 1 F_law) := by
  have c := cY.x
  have c0 := c.t
  have cx := cY.exB
  have c1 := He.SaysT.d c0
  have inl : ∀ {x : He.Fa}, x ∈ defs.map (fun p => He.Fa.glo p.1) → x.ok K = true := fun z => He.SaysD.facts c1 (List.mem_append_left _ z)
  have inr : ∀ {x : He.Fa}, x ∈ ([.glo "LEVELS", .str "LETTERS" "abcdefghijklmnopqrstuvwxyz", .glo "Cache", .cls "Cache", .mkr "Cache", .meth "Cache" "take", .meth "Cache" "request"] ++ (fields.map (.noat "Cache") ++ (frees.map .free ++ numsI.map (fun p => .int p.1 p.2))) : List He.Fa) → x.ok K = true := fun z => He.SaysD.facts c1 (List.mem_append_right _ z)
  have in7 : ∀ {x : He.Fa}, x ∈ ([.glo "LEVELS", .str "LETTERS" "abcdefghijklmnopqrstuvwxyz", .glo "Cache", .cls "Cache", .mkr "Cache", .meth "Cache" "take", .meth "Cache" "request"] : List He.Fa) → x.ok K = true := fun z => inr (List.mem_append_left _ z)
  have glo : ∀ p ∈ defs, mg p.1 = some (.ref (He.ga K p.1)) := fun p hp => He.glo_ok X G (inl (List.mem_map.mpr ⟨p, hp, rfl⟩))
  have dfs : ∀ p ∈ defs, ∃ fd, FunD K p.1 p.1 (defArgs (top p.2)) (defBody (top p.2)) (defScope (top p.2)) [] [] (He.ga K p.1) fd := fun p hp => He.SaysD.defs c1 (d := dTop p.1 p.2) (List.mem_append_left _ (List.mem_map.mpr ⟨p, hp, rfl⟩))
  have mfs : ∀ p ∈ mths, ∃ fd, FunD K p.1 p.2.1 (defArgs (meth 46 p.2.2)) (defBody (meth 46 p.2.2)) (defScope (meth 46 p.2.2)) [] [] (He.ma K (He.ga K "Cache") p.1) fd := fun p hp => He.SaysD.defs c1 (d := dMth "Cache" p.1 p.2.1 46 p.2.2) (List.mem_append_right _ (List.mem_map.mpr ⟨p, hp, rfl⟩))
  have int : ∀ p ∈ numsI, ∃ t, mg p.1 = some (.int p.2 t) := fun p hp => He.int_ok X G (inr (List.mem_append_right _ (List.mem_append_right _ (List.mem_append_right _ (List.mem_map.mpr ⟨p, hp, rfl⟩)))))
  have tb : He.dicW K (He.ga K "LEVELS") = some (He.keysIn w.params ["cache", "plain", "inclusive", "victim"]) := by
    have e : ts.map (fun t => He.dicW K (t.1 K)) = ts.map fun t => some (He.keysIn w.params t.2) := congrArg (fun z : He.AlT => z.2) c0
    injection e with e1 e2
  have cK : ClsK K mg "Cache" (He.ga K "Cache") := by
    refine ⟨ok.cl, He.cls_ok (in7 (by simp)), fun f hf => He.noat_ok (inr (List.mem_append_right _ (List.mem_append_left _ (List.mem_map.mpr ⟨f, hf, rfl⟩)))), He.glo_ok X G (in7 (by simp))⟩
  have T : Fx K w mg := by
    refine ⟨fun x hx => He.free_ok X G (inr (List.mem_append_right _ (List.mem_append_right _ (List.mem_append_left _ (List.mem_map.mpr ⟨x, hx, rfl⟩))))), ok.wd, int ("MOST_LINES", 4) (by decide +kernel), int ("MOST_STATES", 64) (by decide +kernel), int ("MOST_REQUESTS", 2000) (by decide +kernel), int ("MOST_KEPT", 200) (by decide +kernel), int ("LONGEST", 6) (by decide +kernel),
      He.str_ok X G (in7 (by simp)), ⟨He.ga K "LEVELS", He.glo_ok X G (in7 (by simp)), lev_of tb cx⟩, ⟨_, cK⟩⟩
  have eC : T.cls.choose = He.ga K "Cache" := Option.some.inj (T.cls.choose_spec.cl.symm.trans ok.cl)
  obtain ⟨fd_iswhole, F_iswholex⟩ := dfs ("is_whole", 10) (by decide +kernel)
  have g_iswholex := glo ("is_whole", 10) (by decide +kernel)
  obtain ⟨fd_isbetween, F_isbetweenx⟩ := dfs ("is_between", 11) (by decide +kernel)
  have g_isbetweenx := glo ("is_between", 11) (by decide +kernel)
  obtain ⟨fd_istruth, F_istruthx⟩ := dfs ("is_truth", 12) (by decide +kernel)
  have g_istruthx := glo ("is_truth", 12) (by decide +kernel)
  obtain ⟨fd_istuple, F_istuplex⟩ := dfs ("is_tuple", 13) (by decide +kernel)
  have g_istuplex := glo ("is_tuple", 13) (by decide +kernel)
  obtain ⟨fd_isname, F_isnamex⟩ := dfs ("is_name", 21) (by decide +kernel)
  have g_isnamex := glo ("is_name", 21) (by decide +kernel)
  obtain ⟨fd_checkname, F_checknamex⟩ := dfs ("check_name", 22) (by decide +kernel)
  have g_checknamex := glo ("check_name", 22) (by decide +kernel)
  obtain ⟨fd_checkhistory, F_checkhistoryx⟩ := dfs ("check_history", 23) (by decide +kernel)
  have g_checkhistoryx := glo ("check_history", 23) (by decide +kernel)
  obtain ⟨fd_checkknown, F_checkknownx⟩ := dfs ("check_known", 28) (by decide +kernel)
  have g_checkknownx := glo ("check_known", 28) (by decide +kernel)
  obtain ⟨fd_nextrequests, F_nextrequestsx⟩ := dfs ("next_requests", 29) (by decide +kernel)
  have g_nextrequestsx := glo ("next_requests", 29) (by decide +kernel)
  obtain ⟨fd_bestkeeping, F_bestkeepingx⟩ := dfs ("best_keeping", 27) (by decide +kernel)
  have g_bestkeepingx := glo ("best_keeping", 27) (by decide +kernel)
  obtain ⟨fd_leastmisses, F_leastmissesx⟩ := dfs ("least_misses", 26) (by decide +kernel)
  have g_leastmissesx := glo ("least_misses", 26) (by decide +kernel)
  obtain ⟨fd_iskeeping, F_iskeepingx⟩ := dfs ("is_keeping", 25) (by decide +kernel)
  have g_iskeepingx := glo ("is_keeping", 25) (by decide +kernel)
  obtain ⟨fd_exchanged, F_exchangedx⟩ := dfs ("exchanged", 31) (by decide +kernel)
  have g_exchangedx := glo ("exchanged", 31) (by decide +kernel)
  obtain ⟨fd_ask, F_askx⟩ := dfs ("ask", 36) (by decide +kernel)
  have g_askx := glo ("ask", 36) (by decide +kernel)
  obtain ⟨fd_swap, F_swapx⟩ := dfs ("swap", 37) (by decide +kernel)
  have g_swapx := glo ("swap", 37) (by decide +kernel)
  obtain ⟨fd_servelevels, F_servelevelsx⟩ := dfs ("serve_levels", 35) (by decide +kernel)
  have g_servelevelsx := glo ("serve_levels", 35) (by decide +kernel)
  obtain ⟨fd_serve, F_servex⟩ := dfs ("serve", 34) (by decide +kernel)
  have g_servex := glo ("serve", 34) (by decide +kernel)
  obtain ⟨fd_startof, F_startofx⟩ := dfs ("start_of", 33) (by decide +kernel)
  have g_startofx := glo ("start_of", 33) (by decide +kernel)
  obtain ⟨fd_isrow, F_isrowx⟩ := dfs ("is_row", 41) (by decide +kernel)
  have g_isrowx := glo ("is_row", 41) (by decide +kernel)
  obtain ⟨fd_ispolicy, F_ispolicyx⟩ := dfs ("is_policy", 40) (by decide +kernel)
  have g_ispolicyx := glo ("is_policy", 40) (by decide +kernel)
  obtain ⟨fd_isdevice, F_isdevicex⟩ := dfs ("is_device", 42) (by decide +kernel)
  have g_isdevicex := glo ("is_device", 42) (by decide +kernel)
  obtain ⟨fd_checkdevice, F_checkdevicex⟩ := dfs ("check_device", 43) (by decide +kernel)
  have g_checkdevicex := glo ("check_device", 43) (by decide +kernel)
  obtain ⟨fd_countlines, F_countlinesx⟩ := dfs ("count_lines", 44) (by decide +kernel)
  have g_countlinesx := glo ("count_lines", 44) (by decide +kernel)
  obtain ⟨fd_answers, F_answersx⟩ := dfs ("answers", 50) (by decide +kernel)
  have g_answersx := glo ("answers", 50) (by decide +kernel)
  obtain ⟨fd_countmisses, F_countmissesx⟩ := dfs ("count_misses", 51) (by decide +kernel)
  have g_countmissesx := glo ("count_misses", 51) (by decide +kernel)
  obtain ⟨fd_Lcell, F_Lcellx⟩ := dfs ("_law_cell", 53) (by decide +kernel)
  have g_Lcellx := glo ("_law_cell", 53) (by decide +kernel)
  obtain ⟨fd_Lpool, F_Lpoolx⟩ := dfs ("_law_pool", 54) (by decide +kernel)
  have g_Lpoolx := glo ("_law_pool", 54) (by decide +kernel)
  obtain ⟨fd_Ldraw, F_Ldrawx⟩ := dfs ("_law_draw", 55) (by decide +kernel)
  have g_Ldrawx := glo ("_law_draw", 55) (by decide +kernel)
  obtain ⟨fd_Lpolicy, F_Lpolicyx⟩ := dfs ("_law_policy", 56) (by decide +kernel)
  have g_Lpolicyx := glo ("_law_policy", 56) (by decide +kernel)
  obtain ⟨fd_Lrecent, F_Lrecentx⟩ := dfs ("_law_recent", 57) (by decide +kernel)
  have g_Lrecentx := glo ("_law_recent", 57) (by decide +kernel)
  obtain ⟨fd_Lqueue, F_Lqueuex⟩ := dfs ("_law_queue", 58) (by decide +kernel)
  have g_Lqueuex := glo ("_law_queue", 58) (by decide +kernel)
  obtain ⟨fd_Ldevice, F_Ldevicex⟩ := dfs ("_law_device", 59) (by decide +kernel)
  have g_Ldevicex := glo ("_law_device", 59) (by decide +kernel)
  obtain ⟨fd_Lrow, F_Lrowx⟩ := dfs ("_law_row", 60) (by decide +kernel)
  have g_Lrowx := glo ("_law_row", 60) (by decide +kernel)
  obtain ⟨fd_Lkit, F_Lkitx⟩ := dfs ("_law_kit", 62) (by decide +kernel)
  have g_Lkitx := glo ("_law_kit", 62) (by decide +kernel)
  obtain ⟨fd_Llater, F_Llaterx⟩ := dfs ("_law_later", 61) (by decide +kernel)
  have g_Llaterx := glo ("_law_later", 61) (by decide +kernel)
  obtain ⟨fd_Ldeviceright, F_Ldevicerightx⟩ := dfs ("_law_device_right", 63) (by decide +kernel)
  have g_Ldevicerightx := glo ("_law_device_right", 63) (by decide +kernel)
  obtain ⟨fd_Lrowright, F_Lrowrightx⟩ := dfs ("_law_row_right", 64) (by decide +kernel)
  have g_Lrowrightx := glo ("_law_row_right", 64) (by decide +kernel)
  obtain ⟨fd_Lright, F_Lrightx⟩ := dfs ("_law_right", 65) (by decide +kernel)
  have g_Lrightx := glo ("_law_right", 65) (by decide +kernel)
  obtain ⟨fd_law, F_lawx⟩ := dfs ("law", 66) (by decide +kernel)
  obtain ⟨fd_Minit, F_Minitx⟩ := mfs ("__init__", "Cache.__init__", 2) (by decide +kernel)
  obtain ⟨fd_Mtake, F_Mtakex⟩ := mfs ("take", "Cache.take", 14) (by decide +kernel)
  obtain ⟨fd_Mrequest, F_Mrequestx⟩ := mfs ("request", "Cache.request", 10) (by decide +kernel)
  obtain ⟨pr_Mmisses, fd_Mmisses, F_Mmissesx⟩ := cY.prop (x := "Cache") (m := "misses") (d := dPr) List.mem_cons_self
  have e := hfa.symm.trans (glo ("law", 66) (by decide +kernel))
  cases e
  have b_iswhole : Binds K fd_iswhole ["value"] [] := F_iswholex.bindsN fun _ _ _ _ _ _ us hl => match us, hl with | [_], _ => rfl
  have b_isbetween : Binds K fd_isbetween ["value", "least", "most"] [] := F_isbetweenx.bindsN fun _ _ _ _ _ _ us hl => match us, hl with | [_, _, _], _ => rfl
  have b_istruth : Binds K fd_istruth ["value"] [] := F_istruthx.bindsN fun _ _ _ _ _ _ us hl => match us, hl with | [_], _ => rfl
  have b_istuple : Binds K fd_istuple ["value", "least", "most"] [] := F_istuplex.bindsN fun _ _ _ _ _ _ us hl => match us, hl with | [_, _, _], _ => rfl
  have b_isname : Binds K fd_isname ["value"] [] := F_isnamex.bindsN fun _ _ _ _ _ _ us hl => match us, hl with | [_], _ => rfl
  have b_checkname : Binds K fd_checkname ["value"] [] := F_checknamex.bindsN fun _ _ _ _ _ _ us hl => match us, hl with | [_], _ => rfl
  have b_checkhistory : Binds K fd_checkhistory ["value"] [] := F_checkhistoryx.bindsN fun _ _ _ _ _ _ us hl => match us, hl with | [_], _ => rfl
  have b_checkknown : Binds K fd_checkknown ["names", "lines"] [] := F_checkknownx.bindsN fun _ _ _ _ _ _ us hl => match us, hl with | [_, _], _ => rfl
  have b_nextrequests : Binds K fd_nextrequests ["names"] [] := F_nextrequestsx.bindsN fun _ _ _ _ _ _ us hl => match us, hl with | [_], _ => rfl
  have b_bestkeeping : Binds K fd_bestkeeping ["names", "lines"] [] := F_bestkeepingx.bindsN fun _ _ _ _ _ _ us hl => match us, hl with | [_, _], _ => rfl
  have b_leastmisses : Binds K fd_leastmisses ["names", "lines"] [] := F_leastmissesx.bindsN fun _ _ _ _ _ _ us hl => match us, hl with | [_, _], _ => rfl
  have b_iskeeping : Binds K fd_iskeeping ["names", "lines", "value"] [] := F_iskeepingx.bindsN fun _ _ _ _ _ _ us hl => match us, hl with | [_, _, _], _ => rfl
  have b_exchanged : Binds K fd_exchanged ["parts", "index", "part"] [] := F_exchangedx.bindsN fun _ _ _ _ _ _ us hl => match us, hl with | [_, _, _], _ => rfl
  have b_ask : Binds K fd_ask ["policy", "state", "level", "name"] [] := F_askx.bindsN fun _ _ _ _ _ _ us hl => match us, hl with | [_, _, _, _], _ => rfl
  have b_swap : Binds K fd_swap ["policy", "state", "level", "name", "left"] [] := F_swapx.bindsN fun _ _ _ _ _ _ us hl => match us, hl with | [_, _, _, _, _], _ => rfl
  have b_servelevels : Binds K fd_servelevels ["device", "states", "contents", "name"] [] := F_servelevelsx.bindsN fun _ _ _ _ _ _ us hl => match us, hl with | [_, _, _, _], _ => rfl
  have b_serve : Binds K fd_serve ["device", "states", "contents", "name"] [] := F_servex.bindsN fun _ _ _ _ _ _ us hl => match us, hl with | [_, _, _, _], _ => rfl
  have b_startof : Binds K fd_startof ["device"] [] := F_startofx.bindsN fun _ _ _ _ _ _ us hl => match us, hl with | [_], _ => rfl
  have b_isrow : Binds K fd_isrow ["value", "lines", "states"] [] := F_isrowx.bindsN fun _ _ _ _ _ _ us hl => match us, hl with | [_, _, _], _ => rfl
  have b_ispolicy : Binds K fd_ispolicy ["value"] [] := F_ispolicyx.bindsN fun _ _ _ _ _ _ us hl => match us, hl with | [_], _ => rfl
  have b_isdevice : Binds K fd_isdevice ["value"] [] := F_isdevicex.bindsN fun _ _ _ _ _ _ us hl => match us, hl with | [_], _ => rfl
  have b_checkdevice : Binds K fd_checkdevice ["value"] [] := F_checkdevicex.bindsN fun _ _ _ _ _ _ us hl => match us, hl with | [_], _ => rfl
  have b_countlines : Binds K fd_countlines ["device"] [] := F_countlinesx.bindsN fun _ _ _ _ _ _ us hl => match us, hl with | [_], _ => rfl
  have b_answers : Binds K fd_answers ["device", "names"] [] := F_answersx.bindsN fun _ _ _ _ _ _ us hl => match us, hl with | [_, _], _ => rfl
  have b_countmisses : Binds K fd_countmisses ["device", "names"] [] := F_countmissesx.bindsN fun _ _ _ _ _ _ us hl => match us, hl with | [_, _], _ => rfl
  have b_Minit : Binds K fd_Minit ["self", "device"] [] := F_Minitx.bindsN fun _ _ _ _ _ _ us hl => match us, hl with | [_, _], _ => rfl
  have b_Mtake : Binds K fd_Mtake ["self", "name"] [] := F_Mtakex.bindsN fun _ _ _ _ _ _ us hl => match us, hl with | [_, _], _ => rfl
  have b_Mmisses : Binds K fd_Mmisses ["self"] [] := F_Mmissesx.bindsN fun _ _ _ _ _ _ us hl => match us, hl with | [_], _ => rfl
  have b_Mrequest : Binds K fd_Mrequest ["self", "name"] [] := F_Mrequestx.bindsN fun _ _ _ _ _ _ us hl => match us, hl with | [_, _], _ => rfl
  have b_Lcell : Binds K fd_Lcell ["_law_script", "_law_k"] [] := F_Lcellx.bindsN fun _ _ _ _ _ _ us hl => match us, hl with | [_, _], _ => rfl
  have b_Lpool : Binds K fd_Lpool ["_law_figure"] [] := F_Lpoolx.bindsN fun _ _ _ _ _ _ us hl => match us, hl with | [_], _ => rfl
  have b_Ldraw : Binds K fd_Ldraw ["_law_pool_here", "_law_most"] [] := F_Ldrawx.bindsN fun _ _ _ _ _ _ us hl => match us, hl with | [_, _], _ => rfl
  have b_Lpolicy : Binds K fd_Lpolicy ["_law_pool_here", "_law_lines", "_law_states"] [] := F_Lpolicyx.bindsN fun _ _ _ _ _ _ us hl => match us, hl with | [_, _, _], _ => rfl
  have b_Lrecent : Binds K fd_Lrecent ["_law_lines"] [] := F_Lrecentx.bindsN fun _ _ _ _ _ _ us hl => match us, hl with | [_], _ => rfl
  have b_Lqueue : Binds K fd_Lqueue ["_law_lines"] [] := F_Lqueuex.bindsN fun _ _ _ _ _ _ us hl => match us, hl with | [_], _ => rfl
  have b_Ldevice : Binds K fd_Ldevice ["_law_pool_here", "_law_most", "_law_states"] [] := F_Ldevicex.bindsN fun _ _ _ _ _ _ us hl => match us, hl with | [_, _, _], _ => rfl
  have b_Lrow : Binds K fd_Lrow ["_law_pool_here", "_law_many", "_law_most"] [] := F_Lrowx.bindsN fun _ _ _ _ _ _ us hl => match us, hl with | [_, _, _], _ => rfl
  have b_Lkit : Binds K fd_Lkit ["_law_pool_here"] [] := F_Lkitx.bindsN fun _ _ _ _ _ _ us hl => match us, hl with | [_], _ => rfl
  have b_Llater : Binds K fd_Llater ["_law_row_here"] [] := F_Llaterx.bindsN fun _ _ _ _ _ _ us hl => match us, hl with | [_], _ => rfl
  have b_Ldeviceright : Binds K fd_Ldeviceright ["_law_unit", "_law_row_here"] [] := F_Ldevicerightx.bindsN fun _ _ _ _ _ _ us hl => match us, hl with | [_, _], _ => rfl
  have b_Lrowright : Binds K fd_Lrowright ["_law_pool_here", "_law_row_here"] [] := F_Lrowrightx.bindsN fun _ _ _ _ _ _ us hl => match us, hl with | [_, _], _ => rfl
  have b_Lright : Binds K fd_Lright ["_law_pool_here"] [] := F_Lrightx.bindsN fun _ _ _ _ _ _ us hl => match us, hl with | [_], _ => rfl
  have b := FunD.bindsA (ps := ["_law_script"]) F_lawx fun _ _ _ _ _ _ us hl => match us, hl with | [_], _ => rfl
  refine ⟨fd_law, fun s v => b s [v] rfl, fun base _ _ hTB => ?_⟩
  have TB1 := hTB (He.cT K ("best_keeping", none)) (List.mem_map.mpr ⟨("best_keeping", none), List.mem_cons_self, rfl⟩)
  have o_iswhole := ok_iswhole (P := P) (w := w) (base := base) (k := 0) F_iswholex T 
  have c_iswhole : Cal P w K mg base 1 "is_whole" ["value"] (spD w K 1 F_iswhole) := ⟨_, _, o_iswhole, g_iswholex, F_iswholex.kp, b_iswhole⟩
  have o_isbetween := ok_isbetween (P := P) (w := w) (base := base) (k := 1) F_isbetweenx T (c_iswhole.mono (by decide))
  have c_isbetween : Cal P w K mg base 2 "is_between" ["value", "least", "most"] (spD w K 3 F_isbetween) := ⟨_, _, o_isbetween, g_isbetweenx, F_isbetweenx.kp, b_isbetween⟩
  have o_istruth := ok_istruth (P := P) (w := w) (base := base) (k := 0) F_istruthx T 
  have c_istruth : Cal P w K mg base 1 "is_truth" ["value"] (spD w K 1 F_istruth) := ⟨_, _, o_istruth, g_istruthx, F_istruthx.kp, b_istruth⟩
  have o_istuple := ok_istuple (P := P) (w := w) (base := base) (k := 0) F_istuplex T 
  have c_istuple : Cal P w K mg base 1 "is_tuple" ["value", "least", "most"] (spD w K 3 F_istuple) := ⟨_, _, o_istuple, g_istuplex, F_istuplex.kp, b_istuple⟩
  have o_isname := ok_isname (P := P) (w := w) (base := base) (k := 0) F_isnamex T 
  have c_isname : Cal P w K mg base 1 "is_name" ["value"] (spD w K 1 F_isname) := ⟨_, _, o_isname, g_isnamex, F_isnamex.kp, b_isname⟩
  have o_checkname := ok_checkname (P := P) (w := w) (base := base) (k := 1) F_checknamex T (c_isname.mono (by decide))
  have c_checkname : Cal P w K mg base 2 "check_name" ["value"] (spD w K 1 F_checkname) := ⟨_, _, o_checkname, g_checknamex, F_checknamex.kp, b_checkname⟩
  have o_checkhistory := ok_checkhistory (P := P) (w := w) (base := base) (k := 1) F_checkhistoryx T (c_isname.mono (by decide)) (c_istuple.mono (by decide))
  have c_checkhistory : Cal P w K mg base 2 "check_history" ["value"] (spD w K 1 F_checkhistory) := ⟨_, _, o_checkhistory, g_checkhistoryx, F_checkhistoryx.kp, b_checkhistory⟩
  have o_checkknown := ok_checkknown (P := P) (w := w) (base := base) (k := 2) F_checkknownx T (c_checkhistory.mono (by decide)) (c_isbetween.mono (by decide))
  have c_checkknown : Cal P w K mg base 3 "check_known" ["names", "lines"] (spD w K 2 F_checkknown) := ⟨_, _, o_checkknown, g_checkknownx, F_checkknownx.kp, b_checkknown⟩
  have o_nextrequests := ok_nextrequests (P := P) (w := w) (base := base) (k := 0) F_nextrequestsx T 
  have c_nextrequests : Cal P w K mg base 1 "next_requests" ["names"] (spD w K 1 F_nextrequests) := ⟨_, _, o_nextrequests, g_nextrequestsx, F_nextrequestsx.kp, b_nextrequests⟩
  have t_key := clo_key (P := P) (w := w) (K := K) (mg := mg) (base := base) (k := 0) ok.nl2 (ok.g0 _) ok.ql
  have o_bestkeeping := ok_bestkeeping (P := P) (w := w) (base := base) (k := 3) F_bestkeepingx T (by decide) t_key (code_of F_bestkeepingx) TB1 ok.m1 (fun p hp _ => ok.u p hp) ok.ql nm_key ok.nl1 (c_checkknown.mono (by decide)) (c_nextrequests.mono (by decide))
  have c_bestkeeping : Cal P w K mg base 4 "best_keeping" ["names", "lines"] (spD w K 2 F_bestkeeping) := ⟨_, _, o_bestkeeping, g_bestkeepingx, F_bestkeepingx.kp, b_bestkeeping⟩
  have o_leastmisses := ok_leastmisses (P := P) (w := w) (base := base) (k := 4) F_leastmissesx T (c_bestkeeping.mono (by decide))
  have c_leastmisses : Cal P w K mg base 5 "least_misses" ["names", "lines"] (spD w K 2 F_leastmisses) := ⟨_, _, o_leastmisses, g_leastmissesx, F_leastmissesx.kp, b_leastmisses⟩
  have o_iskeeping := ok_iskeeping (P := P) (w := w) (base := base) (k := 3) F_iskeepingx T (c_checkknown.mono (by decide)) (c_istruth.mono (by decide)) (c_istuple.mono (by decide)) (c_nextrequests.mono (by decide))
  have c_iskeeping : Cal P w K mg base 4 "is_keeping" ["names", "lines", "value"] (spD w K 3 F_iskeeping) := ⟨_, _, o_iskeeping, g_iskeepingx, F_iskeepingx.kp, b_iskeeping⟩
  have o_exchanged := ok_exchanged (P := P) (w := w) (base := base) (k := 0) F_exchangedx T 
  have c_exchanged : Cal P w K mg base 1 "exchanged" ["parts", "index", "part"] (spD w K 3 F_exchanged) := ⟨_, _, o_exchanged, g_exchangedx, F_exchangedx.kp, b_exchanged⟩
  have o_ask := ok_ask (P := P) (w := w) (base := base) (k := 1) F_askx T (c_exchanged.mono (by decide))
  have c_ask : Cal P w K mg base 2 "ask" ["policy", "state", "level", "name"] (spD w K 4 F_ask) := ⟨_, _, o_ask, g_askx, F_askx.kp, b_ask⟩
  have o_swap := ok_swap (P := P) (w := w) (base := base) (k := 1) F_swapx T (c_exchanged.mono (by decide))
  have c_swap : Cal P w K mg base 2 "swap" ["policy", "state", "level", "name", "left"] (spD w K 5 F_swap) := ⟨_, _, o_swap, g_swapx, F_swapx.kp, b_swap⟩
  have o_servelevels := ok_servelevels (P := P) (w := w) (base := base) (k := 2) F_servelevelsx T (c_ask.mono (by decide)) (c_swap.mono (by decide))
  have c_servelevels : Cal P w K mg base 3 "serve_levels" ["device", "states", "contents", "name"] (spD w K 4 F_servelevels) := ⟨_, _, o_servelevels, g_servelevelsx, F_servelevelsx.kp, b_servelevels⟩
  have o_serve := ok_serve (P := P) (w := w) (base := base) (k := 3) F_servex T (c_ask.mono (by decide)) (c_servelevels.mono (by decide))
  have c_serve : Cal P w K mg base 4 "serve" ["device", "states", "contents", "name"] (spD w K 4 F_serve) := ⟨_, _, o_serve, g_servex, F_servex.kp, b_serve⟩
  have o_startof := ok_startof (P := P) (w := w) (base := base) (k := 0) F_startofx T 
  have c_startof : Cal P w K mg base 1 "start_of" ["device"] (spD w K 1 F_startof) := ⟨_, _, o_startof, g_startofx, F_startofx.kp, b_startof⟩
  have o_isrow := ok_isrow (P := P) (w := w) (base := base) (k := 2) F_isrowx T (c_isbetween.mono (by decide)) (c_istuple.mono (by decide))
  have c_isrow : Cal P w K mg base 3 "is_row" ["value", "lines", "states"] (spD w K 3 F_isrow) := ⟨_, _, o_isrow, g_isrowx, F_isrowx.kp, b_isrow⟩
  have o_ispolicy := ok_ispolicy (P := P) (w := w) (base := base) (k := 3) F_ispolicyx T (c_isbetween.mono (by decide)) (c_isrow.mono (by decide)) (c_istuple.mono (by decide))
  have c_ispolicy : Cal P w K mg base 4 "is_policy" ["value"] (spD w K 1 F_ispolicy) := ⟨_, _, o_ispolicy, g_ispolicyx, F_ispolicyx.kp, b_ispolicy⟩
  have o_isdevice := ok_isdevice (P := P) (w := w) (base := base) (k := 4) F_isdevicex T (c_ispolicy.mono (by decide)) (c_istuple.mono (by decide))
  have c_isdevice : Cal P w K mg base 5 "is_device" ["value"] (spD w K 1 F_isdevice) := ⟨_, _, o_isdevice, g_isdevicex, F_isdevicex.kp, b_isdevice⟩
  have o_checkdevice := ok_checkdevice (P := P) (w := w) (base := base) (k := 5) F_checkdevicex T (c_isdevice.mono (by decide))
  have c_checkdevice : Cal P w K mg base 6 "check_device" ["value"] (spD w K 1 F_checkdevice) := ⟨_, _, o_checkdevice, g_checkdevicex, F_checkdevicex.kp, b_checkdevice⟩
  have o_countlines := ok_countlines (P := P) (w := w) (base := base) (k := 6) F_countlinesx T (c_checkdevice.mono (by decide))
  have c_countlines : Cal P w K mg base 7 "count_lines" ["device"] (spD w K 1 F_countlines) := ⟨_, _, o_countlines, g_countlinesx, F_countlinesx.kp, b_countlines⟩
  have o_answers := ok_answers (P := P) (w := w) (base := base) (k := 6) F_answersx T (c_checkdevice.mono (by decide)) (c_checkhistory.mono (by decide)) (c_serve.mono (by decide)) (c_startof.mono (by decide))
  have c_answers : Cal P w K mg base 7 "answers" ["device", "names"] (spD w K 2 F_answers) := ⟨_, _, o_answers, g_answersx, F_answersx.kp, b_answers⟩
  have o_countmisses := ok_countmisses (P := P) (w := w) (base := base) (k := 7) F_countmissesx T (c_answers.mono (by decide))
  have c_countmisses : Cal P w K mg base 8 "count_misses" ["device", "names"] (spD w K 2 F_countmisses) := ⟨_, _, o_countmisses, g_countmissesx, F_countmissesx.kp, b_countmisses⟩
  have o_Minit := ok_Minit (P := P) (w := w) (base := base) (k := 6) F_Minitx T (c_checkdevice.mono (by decide)) (c_startof.mono (by decide))
  have i_Minit : CalI P w K mg base 7 T.cls.choose ["self", "device"] (spD w K 2 F_Minit) := ⟨_, _, o_Minit, (by rw [eC]; exact He.mkr_ok (in7 (by simp))), b_Minit⟩
  have o_Mtake := ok_Mtake (P := P) (w := w) (base := base) (k := 4) F_Mtakex T (c_serve.mono (by decide))
  have m_Mtake : CalM P w K mg base 5 T.cls.choose "take" ["self", "name"] (spD w K 2 F_Mtake) := ⟨_, _, o_Mtake, (by rw [eC]; exact He.meth_ok (in7 (by simp))), b_Mtake⟩
  have o_Mmisses := ok_Mmisses (P := P) (w := w) (base := base) (k := 0) F_Mmissesx T 
  have p_Mmisses : CalP P w K mg base 1 T.cls.choose "misses" (spD w K 1 F_Mmisses) := ⟨_, _, _, o_Mmisses, (by rw [eC]; exact pr_Mmisses), b_Mmisses⟩
  have o_Mrequest := ok_Mrequest (P := P) (w := w) (base := base) (k := 5) F_Mrequestx T (c_checkname.mono (by decide)) (m_Mtake.mono (by decide))
  have m_Mrequest : CalM P w K mg base 6 T.cls.choose "request" ["self", "name"] (spD w K 2 F_Mrequest) := ⟨_, _, o_Mrequest, (by rw [eC]; exact He.meth_ok (in7 (by simp))), b_Mrequest⟩
  have o_Lcell := ok_Lcell (P := P) (w := w) (base := base) (k := 0) F_Lcellx T 
  have c_Lcell : Cal P w K mg base 1 "_law_cell" ["_law_script", "_law_k"] (spD w K 2 F_Lcell) := ⟨_, _, o_Lcell, g_Lcellx, F_Lcellx.kp, b_Lcell⟩
  have o_Lpool := ok_Lpool (P := P) (w := w) (base := base) (k := 0) F_Lpoolx T 
  have c_Lpool : Cal P w K mg base 1 "_law_pool" ["_law_figure"] (spL w K 1 F_Lpool) := ⟨_, _, o_Lpool, g_Lpoolx, F_Lpoolx.kp, b_Lpool⟩
  have o_Ldraw := ok_Ldraw (P := P) (w := w) (base := base) (k := 0) F_Ldrawx T 
  have c_Ldraw : Cal P w K mg base 1 "_law_draw" ["_law_pool_here", "_law_most"] (spD w K 2 F_Ldraw) := ⟨_, _, o_Ldraw, g_Ldrawx, F_Ldrawx.kp, b_Ldraw⟩
  have o_Lpolicy := ok_Lpolicy (P := P) (w := w) (base := base) (k := 1) F_Lpolicyx T (c_Ldraw.mono (by decide))
  have c_Lpolicy : Cal P w K mg base 2 "_law_policy" ["_law_pool_here", "_law_lines", "_law_states"] (spD w K 3 F_Lpolicy) := ⟨_, _, o_Lpolicy, g_Lpolicyx, F_Lpolicyx.kp, b_Lpolicy⟩
  have o_Lrecent := ok_Lrecent (P := P) (w := w) (base := base) (k := 0) F_Lrecentx T 
  have c_Lrecent : Cal P w K mg base 1 "_law_recent" ["_law_lines"] (spD w K 1 F_Lrecent) := ⟨_, _, o_Lrecent, g_Lrecentx, F_Lrecentx.kp, b_Lrecent⟩
  have o_Lqueue := ok_Lqueue (P := P) (w := w) (base := base) (k := 0) F_Lqueuex T 
  have c_Lqueue : Cal P w K mg base 1 "_law_queue" ["_law_lines"] (spD w K 1 F_Lqueue) := ⟨_, _, o_Lqueue, g_Lqueuex, F_Lqueuex.kp, b_Lqueue⟩
  have o_Ldevice := ok_Ldevice (P := P) (w := w) (base := base) (k := 2) F_Ldevicex T (c_Ldraw.mono (by decide)) (c_Lpolicy.mono (by decide)) (c_Lqueue.mono (by decide)) (c_Lrecent.mono (by decide))
  have c_Ldevice : Cal P w K mg base 3 "_law_device" ["_law_pool_here", "_law_most", "_law_states"] (spD w K 3 F_Ldevice) := ⟨_, _, o_Ldevice, g_Ldevicex, F_Ldevicex.kp, b_Ldevice⟩
  have o_Lrow := ok_Lrow (P := P) (w := w) (base := base) (k := 1) F_Lrowx T (c_Ldraw.mono (by decide))
  have c_Lrow : Cal P w K mg base 2 "_law_row" ["_law_pool_here", "_law_many", "_law_most"] (spD w K 3 F_Lrow) := ⟨_, _, o_Lrow, g_Lrowx, F_Lrowx.kp, b_Lrow⟩
  have o_Lkit := ok_Lkit (P := P) (w := w) (base := base) (k := 3) F_Lkitx T (c_Ldevice.mono (by decide)) (c_Ldraw.mono (by decide)) (c_Lpolicy.mono (by decide)) (c_Lqueue.mono (by decide)) (c_Lrecent.mono (by decide))
  have c_Lkit : Cal P w K mg base 4 "_law_kit" ["_law_pool_here"] (spD w K 1 F_Lkit) := ⟨_, _, o_Lkit, g_Lkitx, F_Lkitx.kp, b_Lkit⟩
  have o_Llater := ok_Llater (P := P) (w := w) (base := base) (k := 0) F_Llaterx T 
  have c_Llater : Cal P w K mg base 1 "_law_later" ["_law_row_here"] (spD w K 1 F_Llater) := ⟨_, _, o_Llater, g_Llaterx, F_Llaterx.kp, b_Llater⟩
  have o_Ldeviceright := ok_Ldeviceright (P := P) (w := w) (base := base) (k := 8) F_Ldevicerightx T (c_Llater.mono (by decide)) (c_answers.mono (by decide)) (c_countlines.mono (by decide)) (c_countmisses.mono (by decide)) (c_isdevice.mono (by decide)) (c_iskeeping.mono (by decide)) (c_leastmisses.mono (by decide)) (by decide) i_Minit (m_Mrequest.mono (by decide)) (by decide) p_Mmisses
  have c_Ldeviceright : Cal P w K mg base 9 "_law_device_right" ["_law_unit", "_law_row_here"] (spD w K 2 F_Ldeviceright) := ⟨_, _, o_Ldeviceright, g_Ldevicerightx, F_Ldevicerightx.kp, b_Ldeviceright⟩
  have o_Lrowright := ok_Lrowright (P := P) (w := w) (base := base) (k := 5) F_Lrowrightx T (c_Ldraw.mono (by decide)) (c_bestkeeping.mono (by decide)) (c_leastmisses.mono (by decide))
  have c_Lrowright : Cal P w K mg base 6 "_law_row_right" ["_law_pool_here", "_law_row_here"] (spD w K 2 F_Lrowright) := ⟨_, _, o_Lrowright, g_Lrowrightx, F_Lrowrightx.kp, b_Lrowright⟩
  have o_Lright := ok_Lright (P := P) (w := w) (base := base) (k := 9) F_Lrightx T (c_Ldeviceright.mono (by decide)) (c_Lkit.mono (by decide)) (c_Lrow.mono (by decide)) (c_Lrowright.mono (by decide))
  have c_Lright : Cal P w K mg base 10 "_law_right" ["_law_pool_here"] (spD w K 1 F_Lright) := ⟨_, _, o_Lright, g_Lrightx, F_Lrightx.kp, b_Lright⟩
  exact ok_law (k := 10) F_lawx T (c_Lcell.mono (by decide)) (c_Lpool.mono (by decide)) (c_Lright.mono (by decide))
end K77
namespace DL
open PySem PySem.Spec PyProof.Rows L2 GX StX
@[simp] theorem q_fVar  (i : Nat) (ρ : Rho) : fVar i ρ = (match ρ[i]? with
  | some (.dat d) => some (d, ρ)
  | some (.own _ (.l ds)) => some (.list ds, ρ.set i (.dat (.list ds)))
  | _ => none) := rfl
@[simp] theorem q_gVar  (i : Nat) (ρ : Rho) : gVar i ρ = (match look ρ (.v i) with
  | some _ => some (.v i, ρ)
  | none => none) := rfl
@[simp] theorem q_gVal  (f : EF) (ρ : Rho) : gVal f ρ = (match f ρ with
  | some (d, ρ') => some (.d d, ρ')
  | none => none) := rfl
@[simp] theorem q_fC  (d : PyData) (ρ : Rho) : fC d ρ = (some (d, ρ)) := rfl
@[simp] theorem q_fTst  (f : EF) (ρ : Rho) : fTst f ρ = (match f ρ with
  | some (.bool b, ρ') => some (b, ρ')
  | _ => none) := rfl
@[simp] theorem q_fNot  (f : TF) (ρ : Rho) : fNot f ρ = (match f ρ with
  | some (b, ρ') => some (!b, ρ')
  | none => none) := rfl
@[simp] theorem q_fAnd  (f g : TF) (ρ : Rho) : fAnd f g ρ = (match f ρ with
  | some (true, ρ') => g ρ'
  | some (false, ρ') => some (false, ρ')
  | none => none) := rfl
@[simp] theorem q_fOr  (f g : TF) (ρ : Rho) : fOr f g ρ = (match f ρ with
  | some (false, ρ') => g ρ'
  | some (true, ρ') => some (true, ρ')
  | none => none) := rfl
@[simp] theorem q_fAndV  (f g : EF) (ρ : Rho) : fAndV f g ρ = (match f ρ with
  | some (.bool true, ρ') => g ρ'
  | some (.bool false, ρ') => some (.bool false, ρ')
  | _ => none) := rfl
@[simp] theorem q_fOrV  (f g : EF) (ρ : Rho) : fOrV f g ρ = (match f ρ with
  | some (.bool false, ρ') => g ρ'
  | some (.bool true, ρ') => some (.bool true, ρ')
  | _ => none) := rfl
@[simp] theorem q_fNotV  (f : EF) (ρ : Rho) : fNotV f ρ = (match f ρ with
  | some (.bool b, ρ') => some (.bool (!b), ρ')
  | _ => none) := rfl
@[simp] theorem q_fIf  (c : TF) (f g : EF) (ρ : Rho) : fIf c f g ρ = (match c ρ with
  | some (true, ρ') => f ρ'
  | some (false, ρ') => g ρ'
  | none => none) := rfl
@[simp] theorem q_fOp  (op : Op2) (f g : GF) (ρ : Rho) : fOp op f g ρ = (match f ρ with
  | none => none
  | some (a, ρ1) => match g ρ1 with
    | none => none
    | some (b, ρ2) => match look ρ2 a, look ρ2 b with
      | some d, some e => match op d e with
        | none => none
        | some r => some (r, ρ2)
      | _, _ => none) := rfl
@[simp] theorem q_fChain  (o1 o2 : Op2) (f g h : GF) (ρ : Rho) : fChain o1 o2 f g h ρ = (match f ρ with
  | none => none
  | some (a, ρ1) => match g ρ1 with
    | none => none
    | some (b, ρ2) => match look ρ2 a, look ρ2 b with
      | some d, some e => match o1 d e with
        | some (.bool true) => match h ρ2 with
          | none => none
          | some (c, ρ3) => match look ρ3 b, look ρ3 c with
            | some e', some m => match o2 e' m with
              | none => none
              | some r => some (r, ρ3)
            | _, _ => none
        | some (.bool false) => some (.bool false, ρ2)
        | _ => none
      | _, _ => none) := rfl
@[simp] theorem q_lNil  (ρ : Rho) : lNil  ρ = (some ([], ρ)) := rfl
@[simp] theorem q_lCons  (f : EF) (g : LF) (ρ : Rho) : lCons f g ρ = (match f ρ with
  | none => none
  | some (d, ρ1) => match g ρ1 with
    | none => none
    | some (ds, ρ2) => some (d :: ds, ρ2)) := rfl
@[simp] theorem q_lStar  (f : EF) (g : LF) (ρ : Rho) : lStar f g ρ = (match f ρ with
  | some (.tuple es, ρ1) => match g ρ1 with
    | none => none
    | some (ds, ρ2) => some (es ++ ds, ρ2)
  | some (.list es, ρ1) => match g ρ1 with
    | none => none
    | some (ds, ρ2) => some (es ++ ds, ρ2)
  | _ => none) := rfl
@[simp] theorem q_fTup  (g : LF) (ρ : Rho) : fTup g ρ = (match g ρ with
  | some (ds, ρ') => if fits ds.length = true then some (.tuple ds, ρ') else none
  | none => none) := rfl
@[simp] theorem q_lLst  (g : LF) (ρ : Rho) : lLst g ρ = (match g ρ with
  | some (ds, ρ') => if fits ds.length = true then some (ds, ρ') else none
  | none => none) := rfl
@[simp] theorem q_fLst  (f : LF) (ρ : Rho) : fLst f ρ = ((f ρ).map fun r => (.list r.1, r.2)) := rfl
@[simp] theorem q_aNil  (ρ : Rho) : aNil  ρ = (some ([], ρ)) := rfl
@[simp] theorem q_aCons  (f : GF) (g : AF) (ρ : Rho) : aCons f g ρ = (match f ρ with
  | none => none
  | some (a, ρ1) => match g ρ1 with
    | none => none
    | some (as, ρ2) => some (a :: as, ρ2)) := rfl
@[simp] theorem q_fCl  (op : OpN) (f : AF) (ρ : Rho) : fCl op f ρ = (match f ρ with
  | none => none
  | some (as, ρ1) => match looks ρ1 as with
    | none => none
    | some ds => match op ds with
      | none => none
      | some r => some (r, ρ1)) := rfl
@[simp] theorem q_oNone  (ρ : Rho) : oNone  ρ = (some (none, ρ)) := rfl
@[simp] theorem q_oSome  (f : EF) (ρ : Rho) : oSome f ρ = (match f ρ with
  | some (.int i, ρ') => some (some i, ρ')
  | _ => none) := rfl
@[simp] theorem q_fSl  (f : GF) (l h : OF) (ρ : Rho) : fSl f l h ρ = (match f ρ with
  | none => none
  | some (a, ρ1) => match l ρ1 with
    | none => none
    | some (lo, ρ2) => match h ρ2 with
      | none => none
      | some (hi, ρ3) => match look ρ3 a with
        | none => none
        | some d => match sliceD d lo hi with
          | none => none
          | some r => some (r, ρ3)) := rfl
@[simp] theorem q_fMe  (T : String) (op : OpM) (f : GF) (g : AF) (ρ : Rho) : fMe T op f g ρ = (match f ρ with
  | none => none
  | some (a, ρ1) => match look ρ1 a with
    | none => none
    | some d0 => if tyD T d0 = true then match g ρ1 with
        | none => none
        | some (as, ρ2) => match look ρ2 a, looks ρ2 as with
          | some d, some ds => match op d ds with
            | none => none
            | some r => some (r, ρ2)
          | _, _ => none
      else none) := rfl
@[simp] theorem q_fIsa  (b : PyData → Bool) (f : GF) (ρ : Rho) : fIsa b f ρ = (match f ρ with
  | none => none
  | some (a, ρ1) => match look ρ1 a with
    | none => none
    | some (.dict (_ :: _)) => none
    | some d => some (.bool (b d), ρ1)) := rfl
@[simp] theorem q_fCall  (F : FF) (f : AF) (ρ : Rho) : fCall F f ρ = (match f ρ with
  | none => none
  | some (as, ρ1) => if (as.filterMap (ownJ ρ1)).Nodup then match F (as.map (toSl ρ1)) with
      | none => none
      | some (d, sls') => if sls'.length = as.length then some (d, backC ρ1 as sls') else none
    else none) := rfl
@[simp] theorem q_fCa  (n : Nat) (F : FF) (g : AF) (ρ : Rho) : fCa n F g ρ = (match fCall F g ρ with | some r => (match g ρ with | some (as, _) => if as.length = n then some r else none | none => none) | none => none) := rfl
@[simp] theorem q_fCaL  (n : Nat) (F : FL) (f : AF) (ρ : Rho) : fCaL n F f ρ = (match f ρ with
  | none => none
  | some (as, ρ1) => if (as.filterMap (ownJ ρ1)).Nodup ∧ as.length = n then match F (as.map (toSl ρ1)) with
      | none => none
      | some (d, sls') => if sls'.length = as.length then some (d, backC ρ1 as sls') else none
    else none) := rfl
@[simp] theorem q_tName  (i : Nat) (d : PyData) (ρ : Rho) : tName i d ρ = (some (ρ.set i (.dat d))) := rfl
@[simp] theorem q_tTupT  (n : Nat) (ts : List GT) (d : PyData) (ρ : Rho) : tTupT n ts d ρ = (match d with
  | .tuple ds => if ds.length = n then goT ts ds ρ else none
  | .list ds => if ds.length = n then goT ts ds ρ else none
  | _ => none) := rfl
@[simp] theorem q_tSub  (j : Nat) (f : EF) (d : PyData) (ρ : Rho) : tSub j f d ρ = (match f ρ with
  | some (.int i, ρ1) => match ρ[j]?, ρ1[j]? with
    | some (.own _ (.l _)), some (.own b (.l ds)) => match ixN ds.length i with
      | some k => some (ρ1.set j (.own b (ds.set k d)))
      | none => none
    | _, _ => none
  | _ => none) := rfl
@[simp] theorem q_tRest  (i j : Nat) (d : PyData) (ρ : Rho) : tRest i j d ρ = (match d with
  | .tuple (d0 :: ds) => if ds.length ≤ 1000 then some ((ρ.set i (.dat d0)).set j (.dat (.list ds))) else none
  | _ => none) := rfl
@[simp] theorem q_fAsg  (f : EF) (t : GT) (ρ : Rho) : fAsg f t ρ = (match f ρ with
  | none => none
  | some (d, ρ1) => match t d ρ1 with
    | none => none
    | some ρ2 => some (.nx ρ2)) := rfl
@[simp] theorem q_fHold  (i : Nat) (f : LF) (ρ : Rho) : fHold i f ρ = (match f ρ with
  | none => none
  | some (ds, ρ1) => some (.nx (ρ1.set i (.own false ds)))) := rfl
@[simp] theorem q_fApp  (j : Nat) (f : EF) (ρ : Rho) : fApp j f ρ = (match ρ[j]? with
  | some (.own _ (.l _)) => match f ρ with
    | some (d, ρ1) => match ρ1[j]? with
      | some (.own b (.l ds)) => if fits (ds.length + 1) = true then some (.nx (ρ1.set j (.own b (ds ++ [d])))) else none
      | _ => none
    | none => none
  | _ => none) := rfl
@[simp] theorem q_fExt  (j : Nat) (f : EF) (ρ : Rho) : fExt j f ρ = (match ρ[j]? with
  | some (.own _ (.l _)) => match f ρ with
    | some (.list es, ρ1) => match ρ1[j]? with
      | some (.own b (.l ds)) => if fits (ds.length + es.length) = true then some (.nx (ρ1.set j (.own b (ds ++ es)))) else none
      | _ => none
    | _ => none
  | _ => none) := rfl
@[simp] theorem q_fIfS  (c : TF) (g h : SF) (ρ : Rho) : fIfS c g h ρ = (match c ρ with
  | some (true, ρ') => g ρ'
  | some (false, ρ') => h ρ'
  | none => none) := rfl
@[simp] theorem q_fFor  (it : LF) (t : GT) (g : SF) (ρ : Rho) : fFor it t g ρ = (match it ρ with
  | none => none
  | some (ds, ρ1) => fLoop t g ds ρ1) := rfl
@[simp] theorem q_fRet  (f : EF) (ρ : Rho) : fRet f ρ = (match f ρ with
  | some (d, ρ') => some (.rt d ρ')
  | none => none) := rfl
@[simp] theorem q_fRetN  (ρ : Rho) : fRetN  ρ = (some (.rt .none ρ)) := rfl
@[simp] theorem q_fDrop  (f : EF) (ρ : Rho) : fDrop f ρ = (match f ρ with
  | some (_, ρ') => some (.nx ρ')
  | none => none) := rfl
@[simp] theorem q_fSq  (g h : SF) (ρ : Rho) : fSq g h ρ = (match g ρ with
  | some (.nx ρ1) => h ρ1
  | r => r) := rfl
@[simp] theorem q_fThen  (g : SF) (h : LF) (ρ : Rho) : fThen g h ρ = (match g ρ with
  | some (.nx ρ1) => h ρ1
  | _ => none) := rfl
@[simp] theorem q_fNx  (ρ : Rho) : fNx  ρ = (some (.nx ρ)) := rfl
@[simp] theorem q_fNv  (z0 : Rho) : fNv  z0 = (none) := rfl
@[simp] theorem q_fPar  (i j : Nat) (f : LF) (ρ : Rho) : fPar i j f ρ = (match f ρ with
  | some ([d, e], ρ1) => some (.nx ((ρ1.set i (.dat d)).set j (.dat e)))
  | _ => none) := rfl
@[simp] theorem q_fPar3  (i j l : Nat) (f g h : IF) (ρ : Rho) : fPar3 i j l f g h ρ = (match f ρ with
  | none => none
  | some (a, ρ1) => match g ρ1 with
    | none => none
    | some (b, ρ2) => match h ρ2 with
      | none => none
      | some (c, ρ3) => some (.nx (setX (setX (setX ρ3 i a) j b) l c))) := rfl
@[simp] theorem q_fComp  (it : LF) (ks : List Nat) (t : GT) (c : TF) (f : EF) (ρ : Rho) : fComp it ks t c f ρ = (match it ρ with
  | none => none
  | some (ds, ρ1) => cLoop ks t c f ds [] (wipeR ρ1 ks)) := rfl
@[simp] theorem q_iSeq  (f : EF) (ρ : Rho) : iSeq f ρ = (match f ρ with
  | some (.list ds, ρ') => some (ds, ρ')
  | some (.tuple ds, ρ') => some (ds, ρ')
  | _ => none) := rfl
@[simp] theorem q_iEnum  (f : EF) (ρ : Rho) : iEnum f ρ = (match f ρ with
  | some (.tuple ds, ρ') => some (pairsD ds, ρ')
  | _ => none) := rfl
@[simp] theorem q_iTxt  (f : EF) (ρ : Rho) : iTxt f ρ = (match f ρ with
  | some (.str x, ρ') => some (lettersOf x, ρ')
  | _ => none) := rfl
@[simp] theorem q_fTupRg  (f : EF) (ρ : Rho) : fTupRg f ρ = (match f ρ with
  | some (.int n, ρ') => if 0 ≤ n ∧ n ≤ 1000 then some (.tuple (rangeD 0 n.toNat), ρ') else none
  | _ => none) := rfl
@[simp] theorem q_fRepL  (f g : EF) (ρ : Rho) : fRepL f g ρ = (match f ρ with
  | some (.list ds, ρ1) => match g ρ1 with
    | some (.int k, ρ2) => if 0 ≤ k ∧ k ≤ 2000 ∧ ds.length ≤ 500 then some (timesL ds k.toNat, ρ2) else none
    | _ => none
  | _ => none) := rfl
@[simp] theorem q_fScrLen  (i : Nat) (ρ : Rho) : fScrLen i ρ = (match ρ[i]? with
  | some (.scr ns) => some (.int ns.length, ρ)
  | _ => none) := rfl
@[simp] theorem q_fScrIx  (i : Nat) (f : EF) (ρ : Rho) : fScrIx i f ρ = (match ρ[i]? with
  | some (.scr ns) => match f ρ with
    | some (.int k, ρ1) => match atI ns k with
      | some n => match ρ1[i]? with
        | some (.scr ms) => if ms = ns then some (.int n, ρ1) else none
        | _ => none
      | none => none
    | _ => none
  | _ => none) := rfl
@[simp] theorem q_fScrTo  (i : Nat) (hi : Int) (ρ : Rho) : fScrTo i hi ρ = (match ρ[i]? with
  | some (.scr ns) => some (.list (cutL (ns.map .int) none (some hi)), ρ)
  | _ => none) := rfl
@[simp] theorem q_gScr  (i : Nat) (ρ : Rho) : gScr i ρ = (match ρ[i]? with
  | some (.scr _) => some (.v i, ρ)
  | _ => none) := rfl
@[simp] theorem q_fLev  (f : EF) (ρ : Rho) : fLev f ρ = (match f ρ with
  | some (.str z, ρ') => some (levD z, ρ')
  | _ => none) := rfl
@[simp] theorem q_fYes  (ρ : Rho) : fYes  ρ = (some (true, ρ)) := rfl
@[simp] theorem q_xDat  (f : EF) (ρ : Rho) : xDat f ρ = (match f ρ with
  | some (d, ρ') => some (.d d, ρ')
  | none => none) := rfl
@[simp] theorem q_xNew  (f : LF) (ρ : Rho) : xNew f ρ = (match f ρ with
  | some (ds, ρ') => some (.n ds, ρ')
  | none => none) := rfl
@[simp] theorem q_fBody  (m : Nat) (g : SF) (sls : List Sl) : fBody m g sls = (match g (sls ++ List.replicate m .un) with
  | some (.rt d ρ') => some (d, backP sls.length ρ')
  | some (.nx ρ') => some (.none, backP sls.length ρ')
  | _ => none) := rfl
@[simp] theorem q_fBodyL  (m : Nat) (g : LF) (sls : List Sl) : fBodyL m g sls = (match g (sls ++ List.replicate m .un) with
  | some (ds, ρ') => some (ds, backP sls.length ρ')
  | none => none) := rfl
@[simp] theorem q_fDic  (i : Nat) (ρ : Rho) : fDic i ρ = (some (.nx (ρ.set i (.own false (.k []))))) := rfl
@[simp] theorem q_fAugI  (i : Nat) (f : EF) (ρ : Rho) : fAugI i f ρ = (match ρ[i]? with
  | some (.dat (.int a)) => match f ρ with
    | some (.int b, ρ1) => some (.nx (ρ1.set i (.dat (.int (a + b)))))
    | _ => none
  | _ => none) := rfl
@[simp] theorem q_fPar2  (i j : Nat) (f g : IF) (ρ : Rho) : fPar2 i j f g ρ = (match f ρ with
  | none => none
  | some (a, ρ1) => match g ρ1 with
    | none => none
    | some (b, ρ2) => some (.nx (setX (setX ρ2 i a) j b))) := rfl
@[simp] theorem q_gBox  (i : Nat) (ρ : Rho) : gBox i ρ = (match ρ[i]? with
  | some (.own _ (.b _ _ _ _ _)) => some (.v i, ρ)
  | _ => none) := rfl
@[simp] theorem q_fReprB  (i : Nat) (ρ : Rho) : fReprB i ρ = (match ρ[i]? with
  | some (.own _ (.b _ _ _ ss ls)) => if boxOk ss ls = true then some (.str (listText (PyData.shownAll (boxDs ss ls))), ρ) else none
  | _ => none) := rfl
@[simp] theorem q_tSubK  (j : Nat) (f : EF) (d : PyData) (ρ : Rho) : tSubK j f d ρ = (match f ρ with
  | some (.tuple es, ρ1) => match ρ[j]?, ρ1[j]?, keyD (.tuple es) with
    | some (.own _ (.k _)), some (.own b (.k kvs)), some k => if (decide (NestedKey.depth k ≤ 8) && fits kvs.length) = true then some (ρ1.set j (.own b (.k (kPut kvs k d)))) else none
    | _, _, _ => none
  | _ => none) := rfl
@[simp] theorem q_iZipD  (f g : EF) (ρ : Rho) : iZipD f g ρ = (match f ρ with
  | some (.list xs, ρ1) => (match g ρ1 with
    | some (.list ys, ρ2) => some (zipD xs ys, ρ2)
    | _ => none)
  | some (.tuple xs, ρ1) => (match g ρ1 with
    | some (.tuple ys, ρ2) => some (zipD xs ys, ρ2)
    | _ => none)
  | _ => none) := rfl
@[simp] theorem q_fListC  (f : AF) (ρ : Rho) : fListC f ρ = (match f ρ with
  | none => none
  | some (as, ρ1) => match looks ρ1 as with
    | some [.list ds] => some (ds, ρ1)
    | some [.tuple ds] => some (ds, ρ1)
    | _ => none) := rfl
@[simp] theorem q_fCaN  (F : FF) (f : LF) (ρ : Rho) : fCaN F f ρ = (match f ρ with
  | none => none
  | some (ds, ρ1) => match F [.own true (.l ds)] with
    | none => none
    | some (d, _) => some (d, ρ1)) := rfl
@[simp] theorem q_fDicP  (i : Nat) (ρ : Rho) : fDicP i ρ = (some (.nx (ρ.set i (.own false (.d []))))) := rfl
@[simp] theorem q_tSubP  (j : Nat) (f : EF) (d : PyData) (ρ : Rho) : tSubP j f d ρ = (match f ρ with
  | some (e, ρ1) => match ρ[j]?, ρ1[j]?, keyP e with
    | some (.own _ (.d _)), some (.own b (.d kvs)), some k => if fits (kvs.length + 1) = true then some (ρ1.set j (.own b (.d (putD kvs k d)))) else none
    | _, _, _ => none
  | none => none) := rfl
@[simp] theorem q_fGetP  (j : Nat) (f : EF) (ρ : Rho) : fGetP j f ρ = (match f ρ with
  | some (e, ρ1) => match ρ[j]?, ρ1[j]?, keyP e with
    | some (.own _ (.d _)), some (.own _ (.d kvs)), some k => some ((valD kvs k).getD .none, ρ1)
    | _, _, _ => none
  | none => none) := rfl
@[simp] theorem q_fIxP  (j : Nat) (f : EF) (ρ : Rho) : fIxP j f ρ = (match f ρ with
  | some (e, ρ1) => match ρ[j]?, ρ1[j]?, keyP e with
    | some (.own _ (.d _)), some (.own _ (.d kvs)), some k => (valD kvs k).map fun d => (d, ρ1)
    | _, _, _ => none
  | none => none) := rfl
@[simp] theorem q_fPop  (j : Nat) (f : EF) (ρ : Rho) : fPop j f ρ = (match f ρ with
  | some (.int i, ρ1) => match ρ[j]?, ρ1[j]? with
    | some (.own _ (.l _)), some (.own b (.l ds)) => if 0 ≤ i ∧ i.toNat < ds.length ∧ i < 1000000 then (ds[i.toNat]?).map fun d => (d, ρ1.set j (.own b (.l (ds.eraseIdx i.toNat)))) else none
    | _, _ => none
  | _ => none) := rfl
@[simp] theorem q_fRevL  (f : GF) (ρ : Rho) : fRevL f ρ = (match f ρ with
  | some (a, ρ1) => match look ρ1 a with
    | some (.list ds) => some (ds.reverse, ρ1)
    | _ => none
  | none => none) := rfl
@[simp] theorem q_fLstRg  (f : EF) (ρ : Rho) : fLstRg f ρ = (match f ρ with
  | some (.int n, ρ') => if 0 ≤ n ∧ n ≤ 100000 then some (rangeD 0 n.toNat, ρ') else none
  | _ => none) := rfl
@[simp] theorem q_iRev  (f : EF) (ρ : Rho) : iRev f ρ = (match f ρ with
  | some (.int j, ρ') => if 0 ≤ j ∧ j ≤ 1000000 then some (revD j.toNat, ρ') else none
  | _ => none) := rfl
@[simp] theorem q_iEnumL  (f : EF) (ρ : Rho) : iEnumL f ρ = (match f ρ with
  | some (.list ds, ρ') => some (pairsD ds, ρ')
  | _ => none) := rfl
@[simp] theorem q_look_v (ρ : Rho) (i : Nat) : look ρ (.v i) = (match ρ[i]? with | some (.dat d) => some d | some (.own _ (.l ds)) => some (.list ds) | some (.own _ (.k kvs)) => some (dicD kvs) | some (.own _ (.f kvs)) => some (dfD kvs) | _ => none) := rfl
@[simp] theorem q_look_d (ρ : Rho) (d : PyData) : look ρ (.d d) = some d := rfl
@[simp] theorem q_looks_nil (ρ : Rho) : looks ρ [] = some [] := rfl
@[simp] theorem q_toSl_d (ρ : Rho) (d : PyData) : toSl ρ (.d d) = .dat d := rfl
@[simp] theorem q_toSl_v (ρ : Rho) (j : Nat) : toSl ρ (.v j) = (match ρ[j]? with | some (.own _ ds) => .own true ds | some s => s | none => .un) := rfl
@[simp] theorem q_ownJ_d (ρ : Rho) (d : PyData) : ownJ ρ (.d d) = none := rfl
@[simp] theorem q_ownJ_v (ρ : Rho) (j : Nat) : ownJ ρ (.v j) = (match ρ[j]? with | some (.own _ _) => some j | _ => none) := rfl
@[simp] theorem q_goT_nil (ρ : Rho) : goT [] [] ρ = some ρ := rfl
@[simp] theorem q_add (i j : Int) : addD (.int i) (.int j) = some (.int (i + j)) := rfl
@[simp] theorem q_sub (i j : Int) : subD (.int i) (.int j) = some (.int (i - j)) := rfl
@[simp] theorem q_mulL {i : Int} (j : Int) (h : smallI i = true) : mulD (.int i) (.int j) = some (.int (i * j)) := by
  show (if (smallI i || smallI j) = true then some (PyData.int (i * j)) else none) = _
  rw [h, Bool.true_or, if_pos rfl]
@[simp] theorem q_mulR (i : Int) {j : Int} (h : smallI j = true) : mulD (.int i) (.int j) = some (.int (i * j)) := by
  show (if (smallI i || smallI j) = true then some (PyData.int (i * j)) else none) = _
  rw [h, Bool.or_true, if_pos rfl]
theorem q_iR {f : LF} {ρ ρ' : Rho} {j : Int} (h : f ρ = some ([.int j], ρ')) (s : small62 j = true) : iRange1 f ρ = some (rangeD 0 j.toNat, ρ') := by
  unfold iRange1
  rw [h]
  exact if_pos s
@[simp] theorem q_mod (i j : Int) : modD (.int i) (.int j) = if 0 < j then some (.int (i % j)) else none := rfl
@[simp] theorem q_div (i j : Int) : divD (.int i) (.int j) = if 0 < j ∧ j < 1073741824 then some (.int (i / j)) else none := rfl
@[simp] theorem q_lt (i j : Int) : ltD (.int i) (.int j) = some (.bool (decide (i < j))) := rfl
@[simp] theorem q_le (i j : Int) : leD (.int i) (.int j) = some (.bool (decide (i ≤ j))) := rfl
@[simp] theorem q_gt (i j : Int) : gtD (.int i) (.int j) = some (.bool (decide (j < i))) := rfl
@[simp] theorem q_ge (i j : Int) : geD (.int i) (.int j) = some (.bool (decide (j ≤ i))) := rfl
@[simp] theorem q_int (i : Int) : intD [.int i] = some (.int i) := rfl
@[simp] theorem q_intb (b : Bool) : intD [.bool b] = some (.int (if b then 1 else 0)) := rfl
@[simp] theorem q_divmod (i j : Int) : divmodD [.int i, .int j] = if 0 < j ∧ j < 1073741824 then some (.tuple [.int (i / j), .int (i % j)]) else none := rfl
@[simp] theorem q_len_t (ds : List PyData) : lenD [.tuple ds] = some (.int ds.length) := rfl
@[simp] theorem q_len_l (ds : List PyData) : lenD [.list ds] = some (.int ds.length) := rfl
@[simp] theorem q_tuple_t (ds : List PyData) : tupleD [.tuple ds] = some (.tuple ds) := rfl
@[simp] theorem q_tuple_l (ds : List PyData) : tupleD [.list ds] = some (.tuple ds) := rfl
@[simp] theorem q_ix_t (ds : List PyData) (i : Int) : ixD (.tuple ds) (.int i) = atI ds i := rfl
@[simp] theorem q_ix_l (ds : List PyData) (i : Int) : ixD (.list ds) (.int i) = atI ds i := rfl
@[simp] theorem q_backP (n : Nat) (ρ : Rho) : backP n ρ = (List.range n).map fun (i : Nat) => parOf ρ[i]? := rfl
@[simp] theorem q_par_t (ds : Cn) : parOf (some (.own true ds)) = .own true ds := rfl
@[simp] theorem q_par_f (ds : Cn) : parOf (some (.own false ds)) = .un := rfl
@[simp] theorem q_par_d (d : PyData) : parOf (some (.dat d)) = .un := rfl
@[simp] theorem q_par_u : parOf (some .un) = .un := rfl
@[simp] theorem q_par_s (ns : List Int) : parOf (some (.scr ns)) = .un := rfl
@[simp] theorem q_par_n : parOf none = .un := rfl
@[simp] theorem q_looks_c (ρ : Rho) (a : Ag) (as : List Ag) : looks ρ (a :: as) = (match look ρ a, looks ρ as with | some d, some ds => some (d :: ds) | _, _ => none) := rfl
@[simp] theorem q_goT_c (t : GT) (ts : List GT) (d : PyData) (ds : List PyData) (ρ : Rho) : goT (t :: ts) (d :: ds) ρ = (match t d ρ with | some ρ1 => goT ts ds ρ1 | none => none) := rfl
@[simp] theorem q_backC_n (ρ : Rho) (ss : List Sl) : backC ρ [] ss = ρ := by cases ss <;> rfl
@[simp] theorem q_backC_c (ρ : Rho) (a : Ag) (as : List Ag) (s : Sl) (ss : List Sl) : backC ρ (a :: as) (s :: ss) = (match ownJ ρ a, s with
    | some j, .own true ds => (match ρ[j]? with
      | some (.own b _) => (backC ρ as ss).set j (.own b ds)
      | _ => backC ρ as ss)
    | some j, _ => (backC ρ as ss).set j .un
    | none, _ => backC ρ as ss) := rfl
@[simp] theorem q_caK (n : Nat) (F : FF) (π : List Nat) (g : AF) (ρ : Rho) : fCaK n F π g ρ = fCa n F (fun ρ => match g ρ with | some (as, ρ') => some (permL π as, ρ') | none => none) ρ := rfl
@[simp] theorem q_loop_n (t : GT) (g : SF) (ρ : Rho) : fLoop t g [] ρ = some (.nx ρ) := rfl
theorem q_loop_c (t : GT) (g : SF) (d : PyData) (ds : List PyData) (ρ : Rho) : fLoop t g (d :: ds) ρ = (match t d ρ with
  | none => none
  | some ρ1 => (match g ρ1 with
      | some (.nx ρ2) => fLoop t g ds ρ2
      | some (.ct ρ2) => fLoop t g ds ρ2
      | some (.bk ρ2) => some (.nx ρ2)
      | some (.rt d ρ2) => some (.rt d ρ2)
      | none => none)) := rfl
@[simp] theorem fm_d (ρ : Rho) (x : PyData) (as : List Ag) : List.filterMap (ownJ ρ) (.d x :: as) = List.filterMap (ownJ ρ) as := rfl
@[simp] theorem fm_v (ρ : Rho) (j : Nat) (as : List Ag) : List.filterMap (ownJ ρ) (.v j :: as) = (match ρ[j]? with | some (.own _ _) => j :: List.filterMap (ownJ ρ) as | _ => List.filterMap (ownJ ρ) as) := by
  rw [List.filterMap_cons, q_ownJ_v]
  cases ρ[j]? with
  | none => rfl
  | some s => cases s <;> rfl
theorem atI_nat {α : Type} {xs : List α} {i : Nat} (h : i < xs.length) : atI xs (i : Int) = some xs[i] := by
  unfold atI ixN
  rw [if_pos (by omega), if_pos (by omega)]
  simp [h]
@[simp] theorem q_fTupB (i : Nat) (ρ : Rho) : fTupB i ρ = (match ρ[i]? with
  | some (.own _ (.b _ _ _ ss _)) => some (.tuple (ss.map PyData.int), ρ)
  | _ => none) := rfl
@[simp] theorem q_fTru (f : GF) (ρ : Rho) : fTru f ρ = (match f ρ with
  | some (a, ρ1) => (match look ρ1 a with
    | some (.list ds) => some (!ds.isEmpty, ρ1)
    | some (.tuple ds) => some (!ds.isEmpty, ρ1)
    | _ => none)
  | none => none) := rfl
@[simp] theorem q_fLenSet (f : GF) (ρ : Rho) : fLenSet f ρ = (match f ρ with
  | some (a, ρ1) => (match look ρ1 a with
    | some (.list es) => (match BX.strsOf es with
      | some xs => if xs.length ≤ 4000 then some (.int ((ddS xs).length : Nat), ρ1) else none
      | none => none)
    | _ => none)
  | none => none) := rfl
@[simp] theorem q_fSortSet (f : GF) (ρ : Rho) : fSortSet f ρ = (match f ρ with
  | some (a, ρ1) => (match look ρ1 a with
    | some (.list es) => (match intsOf es with
      | some xs => if xs.length < 64 then some ((srtI xs).map PyData.int, ρ1) else none
      | none => none)
    | _ => none)
  | none => none) := rfl
end DL
namespace K77
open PySem PySem.Spec PyProof.Rows L2 GX StX DL
theorem m_whole (i : Int) : F_iswhole [.dat (.int i)] = some (.bool true, [.un]) := rfl
theorem m_betw (i a b : Int) : F_isbetween [.dat (.int i), .dat (.int a), .dat (.int b)] = some (.bool (decide (a ≤ i) && decide (i ≤ b)), [.un, .un, .un]) := by
  cases h1 : decide (a ≤ i) <;> cases h2 : decide (i ≤ b) <;> simp [F_isbetween, g_isbetween, m_whole, h1, h2, List.range, List.range.loop]
theorem m_tup (ds : List PyData) (a b : Int) : F_istuple [.dat (.tuple ds), .dat (.int a), .dat (.int b)] = some (.bool (decide (a ≤ ds.length) && decide ((ds.length : Int) ≤ b)), [.un, .un, .un]) := by
  cases h1 : decide (a ≤ (ds.length : Int)) <;> cases h2 : decide ((ds.length : Int) ≤ b) <;> simp [F_istuple, g_istuple, dTup, h1, h2, List.range, List.range.loop]
theorem m_draw {x y z m : Int} (hx : 0 ≤ x) (hx2 : x < 2147483249) (m1 : 1 ≤ m) (m2 : m < 1073741824) : ∃ d x' y' z', F_Ldraw [.own true (.l [.int x, .int y, .int z]), .dat (.int m)] = some (.int d, [.own true (.l [.int x', .int y', .int z']), .un]) ∧ 0 ≤ d ∧ d < m ∧ 0 ≤ x' ∧ x' < 2147483249 := by
  have s1 : smallI x = true := by unfold smallI; simp; omega
  have s2 : smallI 80021 = true := by decide
  have mp : 0 < m := by omega
  by_cases hy : 0 < y
  · refine ⟨y % m, (x * (x % 50021 + 30011) + 80021 * (z + 1)) % 2147483249, y / m, z + 1, ?_, Int.emod_nonneg _ (by omega), Int.emod_lt_of_pos _ mp, Int.emod_nonneg _ (by omega), Int.emod_lt_of_pos _ (by omega)⟩
    simp [F_Ldraw, g_Ldraw, atI, ixN, s1, s2, hy, mp, m2, List.range, List.range.loop]
  · refine ⟨((x * (x % 50021 + 30011) + 80021 * (z + 1)) % 2147483249) / 64 % m, (x * (x % 50021 + 30011) + 80021 * (z + 1)) % 2147483249, y, z + 1, ?_, Int.emod_nonneg _ (by omega), Int.emod_lt_of_pos _ mp, Int.emod_nonneg _ (by omega), Int.emod_lt_of_pos _ (by omega)⟩
    simp [F_Ldraw, g_Ldraw, atI, ixN, s1, s2, hy, mp, m2, List.range, List.range.loop]
end K77
namespace DL
open PySem PySem.Spec PyProof.Rows L2 GX StX
theorem comp_inv {k : Nat} {f : EF} (I : Rho → Prop) (O : PyData → Prop) : ∀ (ds acc : List PyData) (ρ : Rho), I ρ → (∀ d ∈ ds, ∀ ρ, I ρ → ∃ y ρ', f (ρ.set k (.dat d)) = some (y, ρ') ∧ I (ρ'.set k .un) ∧ O y) → acc.length + ds.length ≤ 1000000 →
    ∃ ys ρ', cLoop [k] (tName k) fYes f ds acc ρ = some (acc ++ ys, ρ') ∧ ys.length = ds.length ∧ (∀ y ∈ ys, O y) ∧ I ρ'
  | [], acc, ρ, h, _, _ => ⟨[], ρ, by simp [cLoop], rfl, by simp, h⟩
  | d :: ds, acc, ρ, h, step, len => by
    obtain ⟨y, ρ1, e1, i1, o1⟩ := step d (by simp) ρ h
    have hf : fits (acc.length + 1) = true := by
      simp only [List.length_cons] at len
      exact decide_eq_true (by omega)
    obtain ⟨ys, ρ2, e2, l2, o2, i2⟩ := comp_inv I O ds (acc ++ [y]) (ρ1.set k .un) i1 (fun d' hd => step d' (by simp [hd])) (by simp only [List.length_append, List.length_cons, List.length_nil] at len ⊢; omega)
    refine ⟨y :: ys, ρ2, ?_, by simp [l2], fun z hz => ?_, i2⟩
    · unfold cLoop
      simp only [q_tName, q_fYes, e1, hf, if_true]
      show cLoop [k] (tName k) fYes f ds (acc ++ [y]) (ρ1.set k .un) = _
      rw [e2]
      simp
    · rcases List.mem_cons.mp hz with rfl | hz
      · exact o1
      · exact o2 z hz
/-- the same with what each turn gives told -/
theorem comp_map {k : Nat} {f : EF} {h : PyData → PyData} {ρ : Rho} : ∀ (ds acc : List PyData), (∀ d ∈ ds, ∃ ρ', f (ρ.set k (.dat d)) = some (h d, ρ') ∧ ρ'.set k .un = ρ) → acc.length + ds.length ≤ 1000000 →
    cLoop [k] (tName k) fYes f ds acc ρ = some (acc ++ ds.map h, ρ)
  | [], acc, _, _ => by simp [cLoop]
  | d :: ds, acc, step, len => by
    obtain ⟨ρ1, e1, i1⟩ := step d (by simp)
    have hf : fits (acc.length + 1) = true := by
      simp only [List.length_cons] at len
      exact decide_eq_true (by omega)
    have e2 := comp_map ds (acc ++ [h d]) (fun d' hd => step d' (by simp [hd])) (by simp only [List.length_append, List.length_cons, List.length_nil] at len ⊢; omega)
    unfold cLoop
    simp only [q_tName, q_fYes, e1, hf, if_true]
    show cLoop [k] (tName k) fYes f ds (acc ++ [h d]) (ρ1.set k .un) = _
    rw [i1, e2]
    simp
theorem loop_inv {t : GT} {g : SF} (I : Nat → Rho → Prop) : ∀ (ds : List PyData) (i : Nat) (ρ : Rho), I i ρ → (∀ d ∈ ds, ∀ i ρ, I i ρ → ∃ ρ1 ρ2, t d ρ = some ρ1 ∧ g ρ1 = some (.nx ρ2) ∧ I (i + 1) ρ2) → ∃ ρ', fLoop t g ds ρ = some (.nx ρ') ∧ I (i + ds.length) ρ'
  | [], i, ρ, h, _ => ⟨ρ, rfl, h⟩
  | d :: ds, i, ρ, h, step => by
    obtain ⟨ρ1, ρ2, e1, e2, h2⟩ := step d (by simp) i ρ h
    obtain ⟨ρ3, e3, h3⟩ := loop_inv I ds (i + 1) ρ2 h2 fun d' hd => step d' (by simp [hd])
    refine ⟨ρ3, ?_, ?_⟩
    · rw [q_loop_c, e1]
      simp only [e2]
      exact e3
    · rw [List.length_cons, show i + (ds.length + 1) = i + 1 + ds.length by omega]
      exact h3
theorem wipe1 (ρ : Rho) (k : Nat) : wipeR ρ [k] = ρ.set k .un := rfl
theorem rangeD_len (lo : Int) (n : Nat) : (rangeD lo n).length = n := by simp [rangeD]
theorem rangeD_mem {lo : Int} {n : Nat} {d : PyData} (h : d ∈ rangeD lo n) : ∃ i : Nat, i < n ∧ d = .int (lo + i) := by
  unfold rangeD at h
  obtain ⟨i, hi, rfl⟩ := List.mem_map.mp h
  exact ⟨i, List.mem_range.mp hi, rfl⟩
theorem cutL_map (ns : List Int) (lo hi : Option Int) : ∃ ms : List Int, cutL (ns.map PyData.int) lo hi = ms.map PyData.int := by
  unfold cutL
  rw [← List.map_drop, ← List.map_take]
  exact ⟨_, rfl⟩
end DL
namespace K77
open PySem PySem.Spec PyProof.Rows L2 GX StX DL
def Pool (ds : List PyData) : Prop := ∃ x y z : Int, ds = [.int x, .int y, .int z] ∧ 0 ≤ x ∧ x < 2147483249
theorem draw {P : List PyData} {m : Int} (h : Pool P) (m1 : 1 ≤ m) (m2 : m < 1073741824) : ∃ (d : Int) (P' : List PyData), F_Ldraw [.own true P, .dat (.int m)] = some (.int d, [.own true P', .un]) ∧ 0 ≤ d ∧ d < m ∧ Pool P' := by
  obtain ⟨x, y, z, rfl, h1, h2⟩ := h
  obtain ⟨d, x', y', z', e, a, b, c1, c2⟩ := m_draw (y := y) (z := z) h1 h2 m1 m2
  exact ⟨d, _, e, a, b, x', y', z', rfl, c1, c2⟩
theorem hp10 : powD (.int 10) (.int 18) = some (.int 1000000000000000000) := by
  show (if (0 : Int) ≤ 18 ∧ (18 : Int) ≤ 1000000 ∧ (10 : Int).natAbs < 2 ^ 64 then some (PyData.int (10 ^ (18 : Int).toNat)) else none) = _
  rw [if_pos (by decide)]
  rfl
theorem m_pool (v : Int) : ∃ P, F_Lpool [.dat (.int v)] = some (P, [.un]) ∧ Pool P := by
  have key : ∃ y : Int, F_Lpool [.dat (.int v)] = some ([.int (v % 2147483249), .int y, .int 0], [.un]) := by
    by_cases h1 : v < 0
    · exact ⟨-v, by simp [F_Lpool, g_Lpool, absD, h1, fits, List.range, List.range.loop]⟩
    · by_cases h2 : 1000000000000000000 ≤ v
      · exact ⟨v, by simp [F_Lpool, g_Lpool, absD, h1, h2, hp10, fits, List.range, List.range.loop]⟩
      · exact ⟨0, by simp [F_Lpool, g_Lpool, absD, h1, h2, hp10, fits, List.range, List.range.loop]⟩
  obtain ⟨y, e⟩ := key
  exact ⟨_, e, _, _, _, rfl, Int.emod_nonneg _ (by omega), Int.emod_lt_of_pos _ (by omega)⟩
theorem m_cell_lt (ns : List Int) (k : Nat) (h : k < ns.length) : F_Lcell [.scr ns, .dat (.int k)] = some (.int ns[k], [.un, .un]) := by
  have e := atI_nat h
  simp [F_Lcell, g_Lcell, h, e, List.range, List.range.loop]
theorem smallI_nat {k : Nat} (hk : k ≤ 1000) : smallI (k : Int) = true := by
  unfold smallI
  rw [Bool.and_eq_true]
  exact ⟨decide_eq_true (by omega), decide_eq_true (by omega)⟩
def gCell (a m : Int) : SF := fSq (fAsg (fOp modD (gVal (fOp addD (gVal (fOp mulD (gVar 2) (gVal (fC (.int a))))) (gVal (fCl intD (aCons (gVar 3) aNil))))) (gVal (fC (.int m)))) (tName 2)) fNx
theorem cell_turn {a m : Int} (ha : smallI a = true) (hm : 0 < m) (ns : List Int) (k : Nat) (v j : Int) : gCell a m [.scr ns, .dat (.int k), .dat (.int v), .dat (.int j)] = some (.nx [.scr ns, .dat (.int k), .dat (.int ((v * a + j) % m)), .dat (.int j)]) := by
  simp [gCell, ha, hm]
theorem cell_loop {a m : Int} (ha : smallI a = true) (hm : 0 < m) (ns : List Int) (k : Nat) : ∀ (ms : List Int) (v : Int) (u : Sl), ∃ v' u', fLoop (tName 3) (gCell a m) (ms.map .int) [.scr ns, .dat (.int k), .dat (.int v), u] = some (.nx [.scr ns, .dat (.int k), .dat (.int v'), u'])
  | [], v, u => ⟨v, u, rfl⟩
  | j :: ms, v, u => by
    obtain ⟨v', u', e⟩ := cell_loop ha hm ns k ms ((v * a + j) % m) (.dat (.int j))
    refine ⟨v', u', ?_⟩
    rw [List.map_cons, q_loop_c]
    simp only [q_tName, List.set_cons_succ, List.set_cons_zero, cell_turn ha hm]
    exact e
def gCell0 (b c a m : Int) : SF := fSq (fAsg (fOp modD (gVal (fOp mulD (gVal (fC (.int b))) (gVal (fOp addD (gVal (fOp addD (gVal (fOp mulD (gVar 1) (gVar 1))) (gVal (fOp mulD (gVal (fC (.int c))) (gVar 1))))) (gVal (fC (.int 3))))))) (gVal (fC (.int m)))) (tName 2))
  (fSq (fFor (iSeq (fScrTo 0 3)) (tName 3) (gCell a m)) (fSq (fRet (fVar 2)) fNx))
theorem cell_0a {b c m i : Int} (hb : smallI b = true) (hc : smallI c = true) (hm : 0 < m) (ns : List Int) (s1 : smallI i = true) : fAsg (fOp modD (gVal (fOp mulD (gVal (fC (.int b))) (gVal (fOp addD (gVal (fOp addD (gVal (fOp mulD (gVar 1) (gVar 1))) (gVal (fOp mulD (gVal (fC (.int c))) (gVar 1))))) (gVal (fC (.int 3))))))) (gVal (fC (.int m)))) (tName 2) [.scr ns, .dat (.int i), .un, .un] = some (.nx [.scr ns, .dat (.int i), .dat (.int (b * (i * i + c * i + 3) % m)), .un]) := by
  simp [s1, hb, hc, hm]
theorem cell_0 {b c a m : Int} (hb : smallI b = true) (hc : smallI c = true) (ha : smallI a = true) (hm : 0 < m) (ns : List Int) (k : Nat) (s1 : smallI (k : Int) = true) : ∃ v u, gCell0 b c a m [.scr ns, .dat (.int k), .un, .un] = some (.rt (.int v) [.scr ns, .dat (.int k), .dat (.int v), u]) := by
  obtain ⟨ms, em⟩ := cutL_map ns none (some 3)
  obtain ⟨v', u', e⟩ := cell_loop ha hm ns k ms (b * ((k : Int) * k + c * k + 3) % m) .un
  refine ⟨v', u', ?_⟩
  unfold gCell0
  rw [q_fSq, cell_0a hb hc hm ns s1]
  dsimp only
  rw [q_fSq, q_fFor, q_iSeq, q_fScrTo]
  simp [em, e]
theorem m_cell (ns : List Int) (k : Nat) (hk : k ≤ 1000) : ∃ v : Int, F_Lcell [.scr ns, .dat (.int k)] = some (.int v, [.un, .un]) := by
  by_cases h : k < ns.length
  · exact ⟨_, m_cell_lt ns k h⟩
  · obtain ⟨v, u, e⟩ := cell_0 (b := 60013) (c := 5) (a := 41221) (m := 2147483249) (by decide) (by decide) (by decide) (by decide) ns k (smallI_nat hk)
    refine ⟨v, ?_⟩
    have z : g_Lcell = fSq (fIfS (fTst (fOp ltD (gVar 1) (gVal (fScrLen 0)))) (fSq (fRet (fCl intD (aCons (gVal (fScrIx 0 (fVar 1))) aNil))) fNx) fNx) (gCell0 60013 5 41221 2147483249) := rfl
    simp [F_Lcell, z, h, e, List.range, List.range.loop]
end K77
namespace DL
open PySem PySem.Spec PyProof.Rows L2 GX StX
theorem loop_invB {t : GT} {g : SF} (I : Nat → Rho → Prop) (N : Nat) : ∀ (ds : List PyData) (i : Nat) (ρ : Rho), I i ρ → i + ds.length ≤ N → (∀ d ∈ ds, ∀ i ρ, i < N → I i ρ → ∃ ρ1 ρ2, t d ρ = some ρ1 ∧ g ρ1 = some (.nx ρ2) ∧ I (i + 1) ρ2) → ∃ ρ', fLoop t g ds ρ = some (.nx ρ') ∧ I (i + ds.length) ρ'
  | [], i, ρ, h, _, _ => ⟨ρ, rfl, h⟩
  | d :: ds, i, ρ, h, hN, step => by
    rw [List.length_cons] at hN
    obtain ⟨ρ1, ρ2, e1, e2, h2⟩ := step d (by simp) i ρ (by omega) h
    obtain ⟨ρ3, e3, h3⟩ := loop_invB I N ds (i + 1) ρ2 h2 (by omega) fun d' hd => step d' (by simp [hd])
    refine ⟨ρ3, ?_, ?_⟩
    · rw [q_loop_c, e1]
      simp only [e2]
      exact e3
    · rw [List.length_cons, show i + (ds.length + 1) = i + 1 + ds.length by omega]
      exact h3
theorem ints_of {Q : Int → Prop} : ∀ {ys : List PyData}, (∀ y ∈ ys, ∃ h, y = .int h ∧ Q h) → ∃ hs : List Int, ys = hs.map PyData.int ∧ ∀ h ∈ hs, Q h
  | [], _ => ⟨[], rfl, by simp⟩
  | y :: ys, h => by
    obtain ⟨hs, rfl, q⟩ := ints_of (ys := ys) fun z hz => h z (by simp [hz])
    obtain ⟨i, rfl, qi⟩ := h y (by simp)
    exact ⟨i :: hs, rfl, fun z hz => by
      rcases List.mem_cons.mp hz with rfl | hz
      · exact qi
      · exact q z hz⟩
theorem strs_of {Q : Str → Prop} : ∀ {ys : List PyData}, (∀ y ∈ ys, ∃ h, y = .str h ∧ Q h) → ∃ hs : List Str, ys = hs.map PyData.str ∧ ∀ h ∈ hs, Q h
  | [], _ => ⟨[], rfl, by simp⟩
  | y :: ys, h => by
    obtain ⟨hs, rfl, q⟩ := strs_of (ys := ys) fun z hz => h z (by simp [hz])
    obtain ⟨i, rfl, qi⟩ := h y (by simp)
    exact ⟨i :: hs, rfl, fun z hz => by
      rcases List.mem_cons.mp hz with rfl | hz
      · exact qi
      · exact q z hz⟩
theorem small62_le {n : Int} (h0 : 0 ≤ n) (h1 : n ≤ 1000000) : small62 n = true := by
  unfold small62
  rw [Bool.and_eq_true]
  exact ⟨decide_eq_true (by omega), decide_eq_true (by omega)⟩
theorem atI_int {α : Type} {xs : List α} {i : Int} (h0 : 0 ≤ i) (h1 : i < xs.length) : ∃ a, a ∈ xs ∧ xs[i.toNat]? = some a ∧ atI xs i = some a := by
  have h : i.toNat < xs.length := by omega
  refine ⟨xs[i.toNat], List.getElem_mem h, List.getElem?_eq_getElem h, ?_⟩
  have e := atI_nat h
  rwa [Int.toNat_of_nonneg h0] at e
end DL
namespace K77
open PySem PySem.Spec PyProof.Rows L2 GX StX DL
def RowOk (n m : Int) (r : PyData) : Prop := ∃ (v a : Int) (hs : List Int), r = .tuple [.int v, .int a, .tuple (hs.map .int)] ∧ 0 ≤ v ∧ v < n ∧ 0 ≤ a ∧ a < m ∧ (hs.length : Int) = n ∧ ∀ h ∈ hs, 0 ≤ h ∧ h < m
def TabOk (t : PyData) : Prop := ∃ (n : Int) (rows : List PyData), t = .tuple [.int n, .tuple rows] ∧ 1 ≤ n ∧ n ≤ 4 ∧ 1 ≤ rows.length ∧ rows.length ≤ 64 ∧ ∀ r ∈ rows, RowOk n rows.length r
def hitB (m : Int) : PyData → Bool
  | .int h => decide (0 ≤ h) && decide (h < m)
  | _ => false
def rowB (n m : Int) : PyData → Bool
  | .tuple [.int v, .int a, .tuple hs] => decide (0 ≤ v) && (decide (v < n) && (decide (0 ≤ a) && (decide (a < m) && (decide ((hs.length : Int) = n) && hs.all (hitB m)))))
  | _ => false
def tabB : PyData → Bool
  | .tuple [.int n, .tuple rows] => decide (1 ≤ n) && (decide (n ≤ 4) && (decide (1 ≤ rows.length) && (decide (rows.length ≤ 64) && rows.all (rowB n rows.length))))
  | _ => false
/-- how many lines a table tells -/
def lnT : PyData → Int
  | .tuple (.int n :: _) => n
  | _ => 0
def resB (n : Int) : Option (PyData × List Sl) → Bool
  | some (t, [.un]) => tabB t && decide (lnT t = n)
  | _ => false
theorem rowB_ok {n m : Int} {r : PyData} (h : rowB n m r = true) : RowOk n m r := by
  unfold rowB at h
  split at h
  · rename_i v a hs
    simp only [Bool.and_eq_true, decide_eq_true_eq] at h
    obtain ⟨h1, h2, h3, h4, h5, h6⟩ := h
    obtain ⟨is, rfl, q⟩ := ints_of (ys := hs) (Q := fun h => 0 ≤ h ∧ h < m) fun y hy => by
      have z := List.all_eq_true.mp h6 y hy
      unfold hitB at z
      split at z
      · rename_i i
        simp only [Bool.and_eq_true, decide_eq_true_eq] at z
        exact ⟨i, rfl, z⟩
      · cases z
    rw [List.length_map] at h5
    exact ⟨v, a, is, rfl, h1, h2, h3, h4, h5, q⟩
  · cases h
theorem tabB_ok {t : PyData} (h : tabB t = true) : TabOk t := by
  unfold tabB at h
  split at h
  · rename_i n rows
    simp only [Bool.and_eq_true, decide_eq_true_eq] at h
    obtain ⟨h1, h2, h3, h4, h5⟩ := h
    exact ⟨n, rows, rfl, h1, h2, h3, h4, fun r hr => rowB_ok (List.all_eq_true.mp h5 r hr)⟩
  · cases h
theorem resB_ok {n : Int} {r : Option (PyData × List Sl)} (h : resB n r = true) : ∃ t, r = some (t, [.un]) ∧ TabOk t ∧ lnT t = n := by
  unfold resB at h
  split at h
  · rename_i t
    rw [Bool.and_eq_true] at h
    exact ⟨t, rfl, tabB_ok h.1, of_decide_eq_true h.2⟩
  · cases h
theorem four {n : Int} (h1 : 1 ≤ n) (h2 : n ≤ 4) : n = 1 ∨ n = 2 ∨ n = 3 ∨ n = 4 := by omega
theorem m_recent {n : Int} (h1 : 1 ≤ n) (h2 : n ≤ 4) : ∃ t, F_Lrecent [.dat (.int n)] = some (t, [.un]) ∧ TabOk t ∧ lnT t = n := by
  rcases four h1 h2 with rfl | rfl | rfl | rfl
  · exact resB_ok (n := 1) (by decide +kernel)
  · exact resB_ok (n := 2) (by decide +kernel)
  · exact resB_ok (n := 3) (by decide +kernel)
  · exact resB_ok (n := 4) (by decide +kernel)
theorem m_queue {n : Int} (h1 : 1 ≤ n) (h2 : n ≤ 4) : ∃ t, F_Lqueue [.dat (.int n)] = some (t, [.un]) ∧ TabOk t ∧ lnT t = n := by
  rcases four h1 h2 with rfl | rfl | rfl | rfl
  · exact resB_ok (n := 1) (by decide +kernel)
  · exact resB_ok (n := 2) (by decide +kernel)
  · exact resB_ok (n := 3) (by decide +kernel)
  · exact resB_ok (n := 4) (by decide +kernel)
theorem hits {n m : Int} (n1 : 1 ≤ n) (n4 : n ≤ 4) (m1 : 1 ≤ m) (m2 : m ≤ 64) {P R : List PyData} (h : Pool P) (T s5 : Sl) :
    ∃ (hs : List Int) (P' : List PyData), fComp (iRange1 (lCons (fVar 1) lNil)) [6] (tName 6) fYes (fCa 2 F_Ldraw (aCons (gVar 0) (aCons (gVar 2) aNil))) [.own true P, .dat (.int n), .dat (.int m), .own false R, T, s5, .un]
      = some (hs.map .int, [.own true P', .dat (.int n), .dat (.int m), .own false R, T, s5, .un]) ∧ Pool P' ∧ (hs.length : Int) = n ∧ ∀ h ∈ hs, 0 ≤ h ∧ h < m := by
  obtain ⟨ys, ρ', e, l, o, P', hP, rfl⟩ := comp_inv (k := 6) (f := fCa 2 F_Ldraw (aCons (gVar 0) (aCons (gVar 2) aNil))) (fun ρ => ∃ P, Pool P ∧ ρ = [.own true P, .dat (.int n), .dat (.int m), .own false R, T, s5, .un]) (fun y => ∃ h, y = .int h ∧ 0 ≤ h ∧ h < m)
    (rangeD 0 n.toNat) [] [.own true P, .dat (.int n), .dat (.int m), .own false R, T, s5, .un] ⟨P, h, rfl⟩ (by
      rintro d hd ρ ⟨P, hP, rfl⟩
      obtain ⟨x, P', e, x0, x1, hP'⟩ := draw hP m1 (by omega)
      exact ⟨.int x, _, by simp [e]; rfl, ⟨P', hP', rfl⟩, x, rfl, x0, x1⟩) (by rw [rangeD_len]; simp; omega)
  obtain ⟨hs, rfl, q⟩ := ints_of o
  refine ⟨hs, P', ?_, hP, ?_, q⟩
  · rw [q_fComp, q_iR (j := n) (ρ' := [.own true P, .dat (.int n), .dat (.int m), .own false R, T, s5, .un]) (by simp) (small62_le (by omega) (by omega))]
    dsimp only
    rw [wipe1]
    exact e
  · rw [List.length_map, rangeD_len] at l
    omega
theorem sq_nx {g h : SF} {ρ ρ1 : Rho} (e : g ρ = some (.nx ρ1)) : fSq g h ρ = h ρ1 := by rw [q_fSq, e]
theorem sq_rt {g h : SF} {ρ ρ1 : Rho} {d : PyData} (e : g ρ = some (.rt d ρ1)) : fSq g h ρ = some (.rt d ρ1) := by rw [q_fSq, e]
theorem for_it {it : LF} {t : GT} {g : SF} {ρ ρ1 : Rho} {ds : List PyData} (e : it ρ = some (ds, ρ1)) : fFor it t g ρ = fLoop t g ds ρ1 := by rw [q_fFor, e]
theorem body_rt {m : Nat} {g : SF} {sls : List Sl} {ρ ρ1 : Rho} {d : PyData} (h : sls ++ List.replicate m .un = ρ) (e : g ρ = some (.rt d ρ1)) : fBody m g sls = some (d, backP sls.length ρ1) := by rw [q_fBody, h, e]
end K77
namespace K77
open PySem PySem.Spec PyProof.Rows L2 GX StX DL
def gPol : SF := fSq (fAsg (fCl tupleD (aCons (gVal (fLst (fComp (iRange1 (lCons (fVar 1) lNil)) [6] (tName 6) fYes (fCa 2 F_Ldraw (aCons (gVar 0) (aCons (gVar 2) aNil)))))) aNil)) (tName 5))
  (fSq (fApp 3 (fTup (lCons (fCa 2 F_Ldraw (aCons (gVar 0) (aCons (gVar 1) aNil))) (lCons (fCa 2 F_Ldraw (aCons (gVar 0) (aCons (gVar 2) aNil))) (lCons (fVar 5) lNil))))) fNx)
theorem pol_turn {n m : Int} (n1 : 1 ≤ n) (n4 : n ≤ 4) (m1 : 1 ≤ m) (m2 : m ≤ 64) {P R : List PyData} (h : Pool P) (hR : R.length ≤ 63) (T s5 : Sl) :
    ∃ (r : PyData) (P' : List PyData) (s : Sl), gPol [.own true P, .dat (.int n), .dat (.int m), .own false R, T, s5, .un] = some (.nx [.own true P', .dat (.int n), .dat (.int m), .own false (R ++ [r]), T, s, .un]) ∧ Pool P' ∧ RowOk n m r := by
  obtain ⟨hs, P1, e1, hP1, l1, q1⟩ := hits n1 n4 m1 m2 (R := R) h T s5
  obtain ⟨v, P2, e2, v0, v1, hP2⟩ := draw hP1 n1 (by omega)
  obtain ⟨a, P3, e3, a0, a1, hP3⟩ := draw hP2 m1 (by omega)
  have f3 : fits 3 = true := by decide
  have fR : fits (R.length + 1) = true := decide_eq_true (by omega)
  refine ⟨.tuple [.int v, .int a, .tuple (hs.map .int)], P3, .dat (.tuple (hs.map .int)), ?_, hP3, v, a, hs, rfl, v0, v1, a0, a1, l1, q1⟩
  simp [gPol, -q_fComp, e1, e2, e3, f3, fR]
theorem m_policy {n m : Int} (n1 : 1 ≤ n) (n4 : n ≤ 4) (m1 : 1 ≤ m) (m2 : m ≤ 64) {P : List PyData} (h : Pool P) : ∃ (t : PyData) (P' : List PyData), F_Lpolicy [.own true P, .dat (.int n), .dat (.int m)] = some (t, [.own true P', .un, .un]) ∧ (TabOk t ∧ lnT t = n) ∧ Pool P' := by
  obtain ⟨ρ', e, P', R, T, s5, hP, rfl, hl, ho⟩ := loop_invB (t := tName 4) (g := gPol) (fun i ρ => ∃ (P R : List PyData) (T s5 : Sl), Pool P ∧ ρ = [.own true P, .dat (.int n), .dat (.int m), .own false R, T, s5, .un] ∧ R.length = i ∧ ∀ r ∈ R, RowOk n m r) m.toNat
    (rangeD 0 m.toNat) 0 [.own true P, .dat (.int n), .dat (.int m), .own false (.l []), .un, .un, .un] ⟨P, [], .un, .un, h, rfl, rfl, by simp⟩ (by rw [rangeD_len]; omega) (by
      rintro d hd i ρ hi ⟨P, R, T, s5, hP, rfl, hl, ho⟩
      obtain ⟨r, P', s, e, hP', hr⟩ := pol_turn n1 n4 m1 m2 (R := R) hP (by omega) (.dat d) s5
      refine ⟨_, _, rfl, e, P', _, _, _, hP', rfl, by simp [hl], fun x hx => ?_⟩
      rcases List.mem_append.mp hx with z | z
      · exact ho x z
      · rw [List.mem_singleton.mp z]
        exact hr)
  rw [rangeD_len, Nat.zero_add] at hl
  have hm : ((R.length : Nat) : Int) = m := by omega
  refine ⟨.tuple [.int n, .tuple R], P', ?_, ⟨⟨n, R, rfl, n1, n4, by omega, by omega, by rw [hm]; exact ho⟩, rfl⟩, hP⟩
  have z : g_Lpolicy = fSq (fHold 3 (lLst lNil)) (fSq (fFor (iRange1 (lCons (fVar 2) lNil)) (tName 4) gPol) (fSq (fRet (fTup (lCons (fVar 1) (lCons (fCl tupleD (aCons (gVar 3) aNil)) lNil)))) fNx)) := rfl
  have it : iRange1 (lCons (fVar 2) lNil) [.own true P, .dat (.int n), .dat (.int m), .own false (.l []), .un, .un, .un] = some (rangeD 0 m.toNat, [.own true P, .dat (.int n), .dat (.int m), .own false (.l []), .un, .un, .un]) := q_iR (j := m) (by simp) (small62_le (by omega) (by omega))
  have f2 : fits 2 = true := by decide
  have f0 : fits 0 = true := by decide
  simp [F_Lpolicy, z, it, e, f2, f0, List.range, List.range.loop]
end K77
namespace K77
open PySem PySem.Spec PyProof.Rows L2 GX StX DL
def W0 : List Str := ["a", "b", "c", "d", "e", "f", "g", "h", "i"]
def W1 : List Str := ["z", "y", "zy", "yz", "zzzzzz", "x", "xz", "zx", "w"]
def W2 : List Str := ["aaaaaa", "aaaaa", "aaaa", "aaa", "aa", "a", "ab", "ba", "b"]
def Wd (w : Str) : Bool := (W0 ++ (W1 ++ W2)).contains w
theorem wd_ok {w : Str} (h : Wd w = true) : PyData.strOk w = true := by
  have a : (W0 ++ (W1 ++ W2)).all PyData.strOk = true := by decide +kernel
  have m : w ∈ W0 ++ (W1 ++ W2) := by
    unfold Wd at h
    rw [List.contains_iff_exists_mem_beq] at h
    obtain ⟨x, hx, e⟩ := h
    rw [eq_of_beq e]
    exact hx
  exact List.all_eq_true.mp a w m
def NameOk (w : Str) : Prop := F_isname [.dat (.str w)] = some (.bool true, [.un]) ∧ Wd w = true
def nameB (w : Str) : Bool := match F_isname [.dat (.str w)] with
  | some (.bool true, [.un]) => Wd w
  | _ => false
theorem nameB_ok {w : Str} (h : nameB w = true) : NameOk w := by
  unfold nameB at h
  split at h
  · rename_i e
    exact ⟨e, h⟩
  · cases h
theorem names0 : ∀ w ∈ W0, NameOk w := fun w h => nameB_ok (List.all_eq_true.mp (show W0.all nameB = true by decide +kernel) w h)
theorem letter {x : Int} (x0 : 0 ≤ x) (x1 : x < 9) : ∃ w : Str, ixD (.str "abcdefghijkl") (.int x) = some (.str w) ∧ NameOk w := by
  have c : x = 0 ∨ x = 1 ∨ x = 2 ∨ x = 3 ∨ x = 4 ∨ x = 5 ∨ x = 6 ∨ x = 7 ∨ x = 8 := by omega
  rcases c with rfl | rfl | rfl | rfl | rfl | rfl | rfl | rfl | rfl
  · exact ⟨"a", by rfl, names0 _ (by decide)⟩
  · exact ⟨"b", by rfl, names0 _ (by decide)⟩
  · exact ⟨"c", by rfl, names0 _ (by decide)⟩
  · exact ⟨"d", by rfl, names0 _ (by decide)⟩
  · exact ⟨"e", by rfl, names0 _ (by decide)⟩
  · exact ⟨"f", by rfl, names0 _ (by decide)⟩
  · exact ⟨"g", by rfl, names0 _ (by decide)⟩
  · exact ⟨"h", by rfl, names0 _ (by decide)⟩
  · exact ⟨"i", by rfl, names0 _ (by decide)⟩
end K77
namespace DL
open PySem PySem.Spec PyProof.Rows L2 GX StX
theorem bools_true : ∀ ds : List PyData, boolsOf (ds.map fun _ => PyData.bool true) = some (ds.map fun _ => true)
  | [] => rfl
  | d :: ds => by
    show (match boolsOf (ds.map fun _ => PyData.bool true) with
      | some bs => some (true :: bs)
      | none => none) = _
    rw [bools_true ds]
    rfl
theorem all_true (ds : List PyData) : allD [.list (ds.map fun _ => PyData.bool true)] = some (.bool true) := by
  show (match boolsOf (ds.map fun _ => PyData.bool true) with
    | some ns => some (PyData.bool (ns.all id))
    | none => none) = _
  rw [bools_true]
  dsimp only
  congr 2
  induction ds with
  | nil => rfl
  | cons d ds ih => simpa using ih
end DL
namespace K77
open PySem PySem.Spec PyProof.Rows L2 GX StX DL
theorem m_row {n m : Int} {r : PyData} (n1 : 1 ≤ n) (n4 : n ≤ 4) (m64 : m ≤ 64) (h : RowOk n m r) : F_isrow [.dat r, .dat (.int n), .dat (.int m)] = some (.bool true, [.un, .un, .un]) := by
  obtain ⟨v, a, hs, rfl, v0, v1, a0, a1, hl, hh⟩ := h
  have c := comp_map (k := 6) (f := fCa 3 F_isbetween (aCons (gVar 6) (aCons (gVal (fC (.int 0))) (aCons (gVal (fOp subD (gVar 2) (gVal (fC (.int 1))))) aNil)))) (h := fun _ => PyData.bool true)
    (ρ := [.dat (.tuple [.int v, .int a, .tuple (hs.map .int)]), .dat (.int n), .dat (.int m), .dat (.int v), .dat (.int a), .dat (.tuple (hs.map .int)), .un]) (.int a :: hs.map .int) [] (by
      intro d hd
      have q : ∃ i : Int, d = .int i ∧ 0 ≤ i ∧ i < m := by
        rcases List.mem_cons.mp hd with rfl | hd
        · exact ⟨a, rfl, a0, a1⟩
        · obtain ⟨i, hi, rfl⟩ := List.mem_map.mp hd
          exact ⟨i, rfl, hh i hi⟩
      obtain ⟨i, rfl, i0, i1⟩ := q
      have d1 : decide (0 ≤ i) = true := decide_eq_true i0
      have d2 : decide (i ≤ m - 1) = true := decide_eq_true (by omega)
      refine ⟨[.dat (.tuple [.int v, .int a, .tuple (hs.map .int)]), .dat (.int n), .dat (.int m), .dat (.int v), .dat (.int a), .dat (.tuple (hs.map .int)), .dat (.int i)], ?_, rfl⟩
      simp [m_betw]
      omega) (by simp; omega)
  have fc : fComp (iSeq (fTup (lCons (fVar 4) (lStar (fVar 5) lNil)))) [6] (tName 6) fYes (fCa 3 F_isbetween (aCons (gVar 6) (aCons (gVal (fC (.int 0))) (aCons (gVal (fOp subD (gVar 2) (gVal (fC (.int 1))))) aNil))))
      [.dat (.tuple [.int v, .int a, .tuple (hs.map .int)]), .dat (.int n), .dat (.int m), .dat (.int v), .dat (.int a), .dat (.tuple (hs.map .int)), .un] = some ((PyData.int a :: hs.map .int).map fun _ => PyData.bool true, [.dat (.tuple [.int v, .int a, .tuple (hs.map .int)]), .dat (.int n), .dat (.int m), .dat (.int v), .dat (.int a), .dat (.tuple (hs.map .int)), .un]) := by
    have ff : fits (hs.length + 1) = true := decide_eq_true (by omega)
    rw [q_fComp, q_iSeq]
    have it : fTup (lCons (fVar 4) (lStar (fVar 5) lNil)) [.dat (.tuple [.int v, .int a, .tuple (hs.map .int)]), .dat (.int n), .dat (.int m), .dat (.int v), .dat (.int a), .dat (.tuple (hs.map .int)), .un] = some (.tuple (.int a :: hs.map .int), [.dat (.tuple [.int v, .int a, .tuple (hs.map .int)]), .dat (.int n), .dat (.int m), .dat (.int v), .dat (.int a), .dat (.tuple (hs.map .int)), .un]) := by
      simp [ff]
    rw [it]
    dsimp only
    rw [wipe1]
    exact c
  obtain ⟨bs, fc, al⟩ : ∃ bs, fComp (iSeq (fTup (lCons (fVar 4) (lStar (fVar 5) lNil)))) [6] (tName 6) fYes (fCa 3 F_isbetween (aCons (gVar 6) (aCons (gVal (fC (.int 0))) (aCons (gVal (fOp subD (gVar 2) (gVal (fC (.int 1))))) aNil))))
      [.dat (.tuple [.int v, .int a, .tuple (hs.map .int)]), .dat (.int n), .dat (.int m), .dat (.int v), .dat (.int a), .dat (.tuple (hs.map .int)), .un] = some (bs, [.dat (.tuple [.int v, .int a, .tuple (hs.map .int)]), .dat (.int n), .dat (.int m), .dat (.int v), .dat (.int a), .dat (.tuple (hs.map .int)), .un]) ∧ allD [.list bs] = some (.bool true) := ⟨_, fc, all_true (PyData.int a :: hs.map .int)⟩
  have d3 : v ≤ n - 1 := by omega
  have d4 : n ≤ (hs.length : Int) := by omega
  have d5 : (hs.length : Int) ≤ n := by omega
  simp only [F_isrow, g_isrow]
  simp [-q_fComp, m_tup, m_betw, fc, al, v0, d3, d4, d5, List.range, List.range.loop]
theorem m_pol {t : PyData} (h : TabOk t) : F_ispolicy [.dat t] = some (.bool true, [.un]) := by
  obtain ⟨n, rows, rfl, n1, n4, l1, l2, hr⟩ := h
  have c := comp_map (k := 3) (f := fCa 3 F_isrow (aCons (gVar 3) (aCons (gVar 1) (aCons (gVal (fCl lenD (aCons (gVar 2) aNil))) aNil)))) (h := fun _ => PyData.bool true)
    (ρ := [.dat (.tuple [.int n, .tuple rows]), .dat (.int n), .dat (.tuple rows), .un]) rows [] (by
      intro d hd
      have e := m_row n1 n4 (by omega) (hr d hd)
      exact ⟨[.dat (.tuple [.int n, .tuple rows]), .dat (.int n), .dat (.tuple rows), .dat d], by simp [e], rfl⟩) (by simp; omega)
  have fc : fComp (iSeq (fVar 2)) [3] (tName 3) fYes (fCa 3 F_isrow (aCons (gVar 3) (aCons (gVar 1) (aCons (gVal (fCl lenD (aCons (gVar 2) aNil))) aNil)))) [.dat (.tuple [.int n, .tuple rows]), .dat (.int n), .dat (.tuple rows), .un] = some (rows.map fun _ => PyData.bool true, [.dat (.tuple [.int n, .tuple rows]), .dat (.int n), .dat (.tuple rows), .un]) := c
  have al := all_true rows
  have d1 : (1 : Int) ≤ rows.length := by omega
  have d2 : (rows.length : Int) ≤ 64 := by omega
  simp only [F_ispolicy, g_ispolicy]
  simp [-q_fComp, m_tup, m_betw, fc, al, n1, n4, d1, d2, List.range, List.range.loop]
def modes : List Str := ["plain", "inclusive", "victim"]
theorem m_dev {mode : Str} {t u : PyData} (hm : mode ∈ modes) (h : TabOk t) (h' : TabOk u) : F_isdevice [.dat (.tuple [.str mode, t, u])] = some (.bool true, [.un]) := by
  have e := m_pol h
  have e' := m_pol h'
  have l1 : levD mode = .int 2 := by
    simp only [modes, List.mem_cons, List.not_mem_nil, or_false] at hm
    rcases hm with rfl | rfl | rfl <;> rfl
  have fc : fComp (iSeq (fVar 2)) [3] (tName 3) fYes (fCa 1 F_ispolicy (aCons (gVar 3) aNil)) [.dat (.tuple [.str mode, t, u]), .dat (.str mode), .dat (.list [t, u]), .un] = some ([.bool true, .bool true], [.dat (.tuple [.str mode, t, u]), .dat (.str mode), .dat (.list [t, u]), .un]) := by
    have f1 : fits 1 = true := by decide
    have f2 : fits 2 = true := by decide
    rw [q_fComp]
    simp [cLoop, e, e', f1, f2, wipe1]
  have ne : neD (.int 2) (.int 2) = some (.bool false) := rfl
  have al : allD [.list [.bool true, .bool true]] = some (.bool true) := rfl
  simp only [F_isdevice, g_isdevice]
  simp [-q_fComp, m_tup, dStr, fc, l1, ne, al, List.range, List.range.loop]
theorem m_checkdev {mode : Str} {t u : PyData} (hm : mode ∈ modes) (h : TabOk t) (h' : TabOk u) : F_checkdevice [.dat (.tuple [.str mode, t, u])] = some (.none, [.un]) := by
  have e := m_dev hm h h'
  simp [F_checkdevice, g_checkdevice, e, List.range, List.range.loop]
theorem m_start {mode : Str} {n m : Int} {rows rows' : List PyData} (n1 : 1 ≤ n) (n4 : n ≤ 4) (m1 : 1 ≤ m) (m4 : m ≤ 4) : F_startof [.dat (.tuple [.str mode, .tuple [.int n, .tuple rows], .tuple [.int m, .tuple rows']])] = some (.tuple [.tuple [.int 0, .int 0], .tuple (List.replicate (n + m).toNat .none)], [.un]) := by
  rcases four n1 n4 with rfl | rfl | rfl | rfl <;> rcases four m1 m4 with rfl | rfl | rfl | rfl <;> rfl
end K77
namespace DL
open PySem PySem.Spec PyProof.Rows L2 GX StX
end DL
namespace K77
open PySem PySem.Spec PyProof.Rows L2 GX StX DL
theorem m_history {his : List Str} (hl : his.length ≤ 2000) (hn : ∀ w ∈ his, NameOk w) : F_checkhistory [.dat (.tuple (his.map .str))] = some (.none, [.un]) := by
  obtain ⟨ρ', e, s1, s2, rfl⟩ := loop_inv (t := tTupT 2 [(tName 1), (tName 2)]) (g := fSq (fIfS (fNot (fTst (fCa 1 F_isname (aCons (gVar 2) aNil)))) (fSq fNv fNx) fNx) fNx) (fun _ ρ => ∃ s1 s2, ρ = [.dat (.tuple (his.map .str)), s1, s2]) (pairsD (his.map .str)) 0
    [.dat (.tuple (his.map .str)), .un, .un] ⟨_, _, rfl⟩ (by
      rintro d hd i ρ ⟨s1, s2, rfl⟩
      unfold pairsD at hd
      obtain ⟨j, hj, rfl⟩ := List.mem_mapIdx.mp hd
      rw [List.length_map] at hj
      rw [List.getElem_map]
      have e := hn his[j] (List.getElem_mem hj)
      replace e := e.1
      refine ⟨[.dat (.tuple (his.map .str)), .dat (.int j), .dat (.str his[j])], [.dat (.tuple (his.map .str)), .dat (.int j), .dat (.str his[j])], ?_, ?_, _, _, rfl⟩
      · simp
      · simp [e])
  have d2 : (his.length : Int) ≤ 2000 := by omega
  simp only [F_checkhistory, g_checkhistory]
  simp [m_tup, e, d2, List.range, List.range.loop]
end K77
namespace K77
open PySem PySem.Spec PyProof.Rows L2 GX StX DL
theorem loop_ix {t : GT} {g : SF} (I : Nat → Rho → Prop) (ds : List PyData) (step : ∀ (j : Nat) (d : PyData), ds[j]? = some d → ∀ ρ, I j ρ → ∃ ρ1 ρ2, t d ρ = some ρ1 ∧ g ρ1 = some (.nx ρ2) ∧ I (j + 1) ρ2) :
    ∀ (es : List PyData) (i : Nat), ds.drop i = es → ∀ ρ, I i ρ → ∃ ρ', fLoop t g es ρ = some (.nx ρ') ∧ I (i + es.length) ρ'
  | [], i, _, ρ, h => ⟨ρ, rfl, h⟩
  | d :: es, i, e, ρ, h => by
    have hd : ds[i]? = some d := by
      have z := congrArg (fun l : List PyData => l[0]?) e
      simpa using z
    have ht : ds.drop (i + 1) = es := by
      have z := congrArg (fun l : List PyData => l.drop 1) e
      simpa [List.drop_drop] using z
    obtain ⟨ρ1, ρ2, e1, e2, h2⟩ := step i d hd ρ h
    obtain ⟨ρ3, e3, h3⟩ := loop_ix I ds step es (i + 1) ht ρ2 h2
    refine ⟨ρ3, ?_, ?_⟩
    · rw [q_loop_c, e1]
      simp only [e2]
      exact e3
    · rw [List.length_cons, show i + (es.length + 1) = i + 1 + es.length by omega]
      exact h3
theorem loop_at {t : GT} {g : SF} (I : Nat → Rho → Prop) (ds : List PyData) {ρ : Rho} (h : I 0 ρ) (step : ∀ (j : Nat) (d : PyData), ds[j]? = some d → ∀ ρ, I j ρ → ∃ ρ1 ρ2, t d ρ = some ρ1 ∧ g ρ1 = some (.nx ρ2) ∧ I (j + 1) ρ2) : ∃ ρ', fLoop t g ds ρ = some (.nx ρ') ∧ I ds.length ρ' := by
  obtain ⟨ρ', e, z⟩ := loop_ix I ds step ds 0 rfl ρ h
  rw [Nat.zero_add] at z
  exact ⟨ρ', e, z⟩
theorem comp_gen {α : Type} {ks : List Nat} {t : GT} {c : TF} {f : EF} (g : α → PyData) (p : α → Bool) (h : α → PyData) {ρ : Rho} : ∀ (xs : List α) (acc : List PyData), (∀ x ∈ xs, ∃ ρ0 ρ1, t (g x) ρ = some ρ0 ∧ c ρ0 = some (p x, ρ1) ∧ (p x = true → ∃ ρ2, f ρ1 = some (h x, ρ2) ∧ wipeR ρ2 ks = ρ) ∧ (p x = false → wipeR ρ1 ks = ρ)) → acc.length + xs.length ≤ 1000000 →
    cLoop ks t c f (xs.map g) acc ρ = some (acc ++ (xs.filter p).map h, ρ)
  | [], acc, _, _ => by simp [cLoop]
  | x :: xs, acc, step, hz => by
    obtain ⟨ρ0, ρ1, e0, e1, yes, no⟩ := step x (by simp)
    simp only [List.length_cons] at hz
    rw [List.map_cons]
    unfold cLoop
    rw [e0]
    dsimp only
    cases q : p x with
    | true =>
      rw [q] at e1
      rw [e1]
      dsimp only
      obtain ⟨ρ2, e2, w⟩ := yes q
      rw [e2]
      dsimp only
      have hf : fits (acc.length + 1) = true := decide_eq_true (by omega)
      rw [if_pos hf, w, comp_gen g p h xs (acc ++ [h x]) (fun y hy => step y (by simp [hy])) (by simp only [List.length_append, List.length_cons, List.length_nil]; omega)]
      rw [List.filter_cons_of_pos q]
      simp
    | false =>
      rw [q] at e1
      rw [e1]
      dsimp only
      rw [no q, comp_gen g p h xs acc (fun y hy => step y (by simp [hy])) (by omega)]
      rw [List.filter_cons_of_neg (by rw [q]; simp)]
theorem valD_any (kvs : List (Key × PyData)) (k : Key) : (kvs.any fun kv => decide (kv.1 = k)) = (valD kvs k).isSome := by
  induction kvs with
  | nil => rfl
  | cons x xs ih =>
    rw [List.any_cons]
    by_cases c : x.1 = k
    · simp [valD, c]
    · have : valD (x :: xs) k = valD xs k := by simp [valD, List.find?_cons, c]
      rw [this, ← ih]
      simp [c]
theorem valD_put (kvs : List (Key × PyData)) (k j : Key) (d : PyData) : valD (putD kvs k d) j = if j = k then some d else valD kvs j := by
  unfold putD
  rw [valD_any]
  split
  · rename_i h
    have m : ∀ xs : List (Key × PyData), valD (xs.map fun kv => if kv.1 = k then (kv.1, d) else kv) j = (valD xs j).map fun x => if j = k then d else x := by
      intro xs
      induction xs with
      | nil => rfl
      | cons x xs ih =>
        rw [List.map_cons]
        by_cases c : x.1 = k
        · rw [if_pos c]
          by_cases c2 : x.1 = j
          · have : j = k := c2 ▸ c
            subst this
            simp [valD, List.find?_cons, c]
          · have ne : ¬ j = k := fun z => c2 (by rw [z]; exact c)
            have e1 : valD ((x.1, d) :: xs.map fun kv => if kv.1 = k then (kv.1, d) else kv) j = valD (xs.map fun kv => if kv.1 = k then (kv.1, d) else kv) j := by simp [valD, List.find?_cons, c2]
            have e2 : valD (x :: xs) j = valD xs j := by simp [valD, List.find?_cons, c2]
            rw [e1, e2, ih]
        · rw [if_neg c]
          by_cases c2 : x.1 = j
          · have ne : ¬ j = k := fun z => c (by rw [c2]; exact z)
            simp [valD, List.find?_cons, c2, ne]
          · have e1 : valD (x :: xs.map fun kv => if kv.1 = k then (kv.1, d) else kv) j = valD (xs.map fun kv => if kv.1 = k then (kv.1, d) else kv) j := by simp [valD, List.find?_cons, c2]
            have e2 : valD (x :: xs) j = valD xs j := by simp [valD, List.find?_cons, c2]
            rw [e1, e2, ih]
    rw [m]
    by_cases q : j = k
    · subst q
      rw [if_pos rfl]
      obtain ⟨v, hv⟩ := Option.isSome_iff_exists.mp h
      rw [hv]
      simp
    · rw [if_neg q]
      cases valD kvs j <;> simp [q]
  · rename_i h
    have hn : valD kvs k = none := by
      cases q : valD kvs k with
      | none => rfl
      | some v => rw [q] at h; simp at h
    have a : ∀ xs : List (Key × PyData), valD xs k = none → valD (xs ++ [(k, d)]) j = if j = k then some d else valD xs j := by
      intro xs
      induction xs with
      | nil =>
        intro _
        by_cases q : j = k
        · simp [valD, q]
        · have q' : ¬ k = j := fun z => q z.symm
          simp [valD, q, q']
      | cons x xs ih =>
        intro hx
        have c : ¬ x.1 = k := fun c => by simp [valD, List.find?_cons, c] at hx
        have hx' : valD xs k = none := by simpa [valD, List.find?_cons, c] using hx
        rw [List.cons_append]
        by_cases c2 : x.1 = j
        · have ne : ¬ j = k := fun z => c (by rw [c2]; exact z)
          simp [valD, List.find?_cons, c2, ne]
        · have e1 : valD (x :: (xs ++ [(k, d)])) j = valD (xs ++ [(k, d)]) j := by simp [valD, List.find?_cons, c2]
          have e2 : valD (x :: xs) j = valD xs j := by simp [valD, List.find?_cons, c2]
          rw [e1, e2, ih hx']
    exact a kvs hn
theorem putD_len (kvs : List (Key × PyData)) (k : Key) (d : PyData) : (putD kvs k d).length ≤ kvs.length + 1 := by
  unfold putD
  split
  · rw [List.length_map]; omega
  · simp
/-- the first request for w from i on -/
def fo (L : List Str) (i : Nat) (w : Str) : Option Nat := (List.range' i (L.length - i)).find? fun j => decide (L[j]? = some w)
def nxt (L : List Str) (i : Nat) : Option Nat := fo L (i + 1) (L.getD i "")
def oN : Option Nat → PyData
  | some j => .int (j : Nat)
  | none => .none
def NX (L : List Str) : List PyData := (List.range L.length).map fun i => oN (nxt L i)
theorem fo_end (L : List Str) (w : Str) : fo L L.length w = none := by simp [fo]
theorem fo_step {L : List Str} {i : Nat} (h : i < L.length) (w : Str) : fo L i w = if L[i]? = some w then some i else fo L (i + 1) w := by
  unfold fo
  rw [show L.length - i = (L.length - (i + 1)) + 1 by omega, List.range'_succ, List.find?_cons]
  by_cases c : L[i]? = some w
  · simp [c]
  · simp [c]
end K77
namespace K77
open PySem PySem.Spec PyProof.Rows L2 GX StX DL
abbrev rowD (L : List Str) : PyData := .tuple (L.map .str)
theorem ix_row {L : List Str} {i : Nat} (h : i < L.length) : atI (L.map PyData.str) (i : Int) = some (.str (L.getD i "")) := by
  rw [atI_nat (by rw [List.length_map]; exact h)]
  simp [List.getD, h]
theorem getD_at {L : List Str} {i : Nat} (h : i < L.length) : L[i]? = some (L.getD i "") := by simp [List.getD, h]
abbrev nS (L : List Str) (kvs : List (Key × PyData)) (fs : List PyData) (s3 : Sl) : Rho := [.dat (rowD L), .own false (.d kvs), .own false (.l fs), s3]
def gNb : SF := fSq (fApp 2 (fGetP 1 (fOp ixD (gVar 0) (gVar 3)))) (fSq (fAsg (fVar 3) (tSubP 1 (fOp ixD (gVar 0) (gVar 3)))) fNx)
def fwd (L : List Str) (k : Nat) : List PyData := (List.range k).map fun m => oN (nxt L (L.length - 1 - m))
def IN (L : List Str) (k : Nat) (ρ : Rho) : Prop := ∃ kvs s3, ρ = nS L kvs (fwd L k) s3 ∧ kvs.length ≤ k ∧ ∀ w, valD kvs (.inr w) = (fo L (L.length - k) w).map fun j => PyData.int (j : Nat)
theorem fwd_succ (L : List Str) (k : Nat) : fwd L (k + 1) = fwd L k ++ [oN (nxt L (L.length - 1 - k))] := by simp [fwd, List.range_succ]
theorem next_turn {L : List Str} (hl : L.length ≤ 1000) {k : Nat} (hk : k < L.length) {ρ : Rho} (h : IN L k ρ) : ∃ ρ2, gNb (ρ.set 3 (.dat (.int ((L.length : Int) - 1 - (k : Int))))) = some (.nx ρ2) ∧ IN L (k + 1) ρ2 := by
  obtain ⟨kvs, s3, rfl, lk, hv⟩ := h
  have ei : (L.length : Int) - 1 - (k : Int) = ((L.length - 1 - k : Nat) : Int) := by omega
  rw [ei]
  generalize hi : L.length - 1 - k = i at *
  have li : i < L.length := by omega
  have ix := ix_row li
  have hn : fo L (L.length - k) (L.getD i "") = nxt L i := by
    unfold nxt
    rw [show L.length - k = i + 1 by omega]
  have e1 : (valD kvs (.inr (L.getD i ""))).getD .none = oN (nxt L i) := by
    rw [hv, hn]
    cases nxt L i <;> rfl
  have f1 : fits ((fwd L k).length + 1) = true := by
    unfold fwd
    rw [List.length_map, List.length_range]
    exact decide_eq_true (by omega)
  have f2 : fits (kvs.length + 1) = true := decide_eq_true (by omega)
  refine ⟨nS L (putD kvs (.inr (L.getD i "")) (.int (i : Nat))) (fwd L (k + 1)) (.dat (.int (i : Nat))), ?_, _, _, rfl, ?_, fun w => ?_⟩
  · rw [fwd_succ, hi, ← e1]
    generalize L.getD i "" = w at ix e1 hn ⊢
    generalize fwd L k = fs at f1 ⊢
    simp [gNb, nS, ix, keyP, f1, f2]
  · have := putD_len kvs (.inr (L.getD i "")) (.int (i : Nat))
    omega
  · rw [valD_put, hv, show L.length - (k + 1) = i by omega, fo_step li, getD_at li, show L.length - k = i + 1 by omega]
    by_cases c : w = L.getD i ""
    · subst c
      rw [if_pos rfl, if_pos rfl]
      rfl
    · rw [if_neg (fun z => c (by injection z)), if_neg (fun z => c (by injection z with z; exact z.symm))]
theorem fwd_rev (L : List Str) : (fwd L L.length).reverse = NX L := by
  unfold fwd NX
  refine List.ext_getElem (by simp) fun i h1 h2 => ?_
  simp at h1 h2
  rw [List.getElem_reverse]
  simp
  congr 2
  omega
theorem revD_at {n j : Nat} {d : PyData} (h : (revD n)[j]? = some d) : j < n ∧ d = .int ((n : Int) - 1 - (j : Int)) := by
  unfold revD at h
  rw [List.getElem?_map] at h
  cases q : (List.range n)[j]? with
  | none => rw [q] at h; cases h
  | some m =>
    rw [q] at h
    obtain ⟨hl, z⟩ := List.getElem?_eq_some_iff.mp q
    rw [List.getElem_range] at z
    subst z
    cases h
    exact ⟨by simpa using hl, rfl⟩
theorem m_next {L : List Str} (hl : L.length ≤ 1000) : F_nextrequests [.dat (rowD L)] = some (.list (NX L), [.un]) := by
  have f0 : fits 0 = true := by decide
  have s1 : fDicP 1 [.dat (rowD L), .un, .un, .un] = some (.nx [.dat (rowD L), .own false (.d []), .un, .un]) := rfl
  have s2 : fHold 2 (lLst lNil) [.dat (rowD L), .own false (.d []), .un, .un] = some (.nx (nS L [] [] .un)) := by simp [f0]
  obtain ⟨ρ', e, kvs, s3, rfl, _, _⟩ := loop_at (t := tName 3) (g := gNb) (IN L) (revD L.length) (ρ := nS L [] [] .un) ⟨[], .un, rfl, Nat.le_refl _, fun w => by rw [Nat.sub_zero, fo_end]; rfl⟩ (fun j d hd ρ h => by
    obtain ⟨lj, rfl⟩ := revD_at hd
    obtain ⟨ρ2, e2, h2⟩ := next_turn hl lj h
    exact ⟨_, _, rfl, e2, h2⟩)
  have len : (revD L.length).length = L.length := by simp [revD]
  rw [len] at e
  have it : iRev (fCl lenD (aCons (gVar 0) aNil)) (nS L [] [] .un) = some (revD L.length, nS L [] [] .un) := by
    have a : (L.length : Int) ≤ 1000000 := by omega
    simp [nS, a]
  have s3' : fFor (iRev (fCl lenD (aCons (gVar 0) aNil))) (tName 3) gNb (nS L [] [] .un) = some (.nx (nS L kvs (fwd L L.length) s3)) := (for_it it).trans e
  have fr := fwd_rev L
  have s4 : fRet (fLst (fRevL (gVar 2))) (nS L kvs (fwd L L.length) s3) = some (.rt (.list (NX L)) (nS L kvs (fwd L L.length) s3)) := by simp [nS, fr]
  have g_is : g_nextrequests = fSq (fDicP 1) (fSq (fHold 2 (lLst lNil)) (fSq (fFor (iRev (fCl lenD (aCons (gVar 0) aNil))) (tName 3) gNb) (fSq (fRet (fLst (fRevL (gVar 2)))) fNx))) := rfl
  have z : g_nextrequests [.dat (rowD L), .un, .un, .un] = some (.rt (.list (NX L)) (nS L kvs (fwd L L.length) s3)) := by
    rw [g_is, sq_nx s1, sq_nx s2, sq_nx s3']
    exact sq_rt s4
  exact (body_rt (m := 3) (g := g_nextrequests) (sls := [.dat (rowD L)]) rfl z).trans (by simp [nS, List.range, List.range.loop])
abbrev lS (L : List Str) (fs : List PyData) (s2 s3 : Sl) : Rho := [.dat (rowD L), .own false (.l fs), s2, s3, .un]
def gLc : LF := fComp (iRange2 (lCons (fOp addD (gVar 2) (gVal (fC (.int 1)))) (lCons (fCl lenD (aCons (gVar 0) aNil)) lNil))) [4] (tName 4) (fTst (fOp eqD (gVal (fOp ixD (gVar 0) (gVar 4))) (gVal (fOp ixD (gVar 0) (gVar 2))))) (fVar 4)
def gL1 : SF := fHold 3 gLc
def gL2 : SF := fApp 1 (fOp ixD (gVal (fOp addD (gVar 3) (gVal (fLst (lLst (lCons (fC .none) lNil)))))) (gVal (fC (.int 0))))
def gLb : SF := fSq gL1 (fSq gL2 fNx)
theorem q_iR2 {f : LF} {ρ ρ' : Rho} {i j : Int} (h : f ρ = some ([.int i, .int j], ρ')) (a : small62 i = true) (b : small62 j = true) : iRange2 f ρ = some (rangeD i (j - i).toNat, ρ') := by
  unfold iRange2
  rw [h]
  dsimp only
  rw [a, b]
  rfl
theorem add_none {R : List PyData} (h : R.length ≤ 1000) : addD (.list R) (.list [.none]) = some (.list (R ++ [.none])) := by
  have f2 : fits (R.length + 1) = true := decide_eq_true (by omega)
  show (if fits (R.length + 1) = true then some (PyData.list (R ++ [.none])) else none) = _
  rw [if_pos f2]
theorem gL2_at {rw_ : Sl} {fs R : List PyData} {d : PyData} {i : Nat} (hf : fs.length ≤ 1000) (hr : R.length ≤ 1000) (hd : atI (R ++ [.none]) 0 = some d) : fApp 1 (fOp ixD (gVal (fOp addD (gVar 3) (gVal (fLst (lLst (lCons (fC .none) lNil)))))) (gVal (fC (.int 0)))) [rw_, .own false (.l fs), .dat (.int (i : Nat)), .own false (.l R), .un] = some (.nx [rw_, .own false (.l (fs ++ [d])), .dat (.int (i : Nat)), .own false (.l R), .un]) := by
  have f1 : fits 1 = true := by decide
  have f3 : fits (fs.length + 1) = true := decide_eq_true (by omega)
  have ad := add_none hr
  simp [f1, f3, ad, hd]
theorem head_find {α : Type} (p : α → Bool) : ∀ xs : List α, (xs.filter p)[0]? = xs.find? p
  | [] => rfl
  | x :: xs => by
    rw [List.filter_cons, List.find?_cons]
    cases p x with
    | true => rfl
    | false => exact head_find p xs
theorem range'_D (a n : Nat) : (List.range' a n).map (fun j => PyData.int ((j : Nat) : Int)) = rangeD (a : Int) n := by
  unfold rangeD
  refine List.ext_getElem (by simp) fun i h1 h2 => ?_
  simp
theorem str_eq (a b : Str) : eqD (.str a) (.str b) = some (.bool (decide (a = b))) := rfl
theorem lat_comp {L : List Str} (hl : L.length ≤ 1000) {i : Nat} (li : i < L.length) (fs : List PyData) (s3 : Sl) :
    gLc (lS L fs (.dat (.int (i : Nat))) s3) = some (((List.range' (i + 1) (L.length - (i + 1))).filter fun j => decide (L[j]? = some (L.getD i ""))).map fun j => .int ((j : Nat) : Int), lS L fs (.dat (.int (i : Nat))) s3) := by
  have it : iRange2 (lCons (fOp addD (gVar 2) (gVal (fC (.int 1)))) (lCons (fCl lenD (aCons (gVar 0) aNil)) lNil)) (lS L fs (.dat (.int (i : Nat))) s3) = some (rangeD ((i : Int) + 1) ((L.length : Int) - ((i : Int) + 1)).toNat, lS L fs (.dat (.int (i : Nat))) s3) := by
    exact q_iR2 (by simp [lS]) (small62_le (by omega) (by omega)) (small62_le (by omega) (by omega))
  have ix := ix_row li
  have z := comp_gen (ks := [4]) (t := tName 4) (c := fTst (fOp eqD (gVal (fOp ixD (gVar 0) (gVar 4))) (gVal (fOp ixD (gVar 0) (gVar 2))))) (f := fVar 4) (fun j : Nat => PyData.int ((j : Nat) : Int)) (fun j => decide (L[j]? = some (L.getD i ""))) (fun j : Nat => .int ((j : Nat) : Int))
    (ρ := lS L fs (.dat (.int (i : Nat))) s3) (List.range' (i + 1) (L.length - (i + 1))) [] (fun j hj => by
      have lj : j < L.length := by
        have := List.mem_range'_1.mp hj
        omega
      have jx := ix_row lj
      have e := str_eq (L.getD j "") (L.getD i "")
      have q : decide (L[j]? = some (L.getD i "")) = decide (L.getD j "" = L.getD i "") := by
        rw [getD_at lj]
        simp
      refine ⟨[.dat (rowD L), .own false (.l fs), .dat (.int (i : Nat)), s3, .dat (.int (j : Nat))], [.dat (rowD L), .own false (.l fs), .dat (.int (i : Nat)), s3, .dat (.int (j : Nat))], rfl, ?_, fun _ => ⟨[.dat (rowD L), .own false (.l fs), .dat (.int (i : Nat)), s3, .dat (.int (j : Nat))], rfl, rfl⟩, fun _ => rfl⟩
      rw [q]
      generalize L.getD i "" = a at ix e ⊢
      generalize L.getD j "" = b at jx e ⊢
      simp [ix, jx, e]) (by simp; omega)
  rw [List.nil_append, range'_D] at z
  unfold gLc
  rw [q_fComp, it]
  dsimp only
  rw [show ((L.length : Int) - ((i : Int) + 1)).toNat = L.length - (i + 1) by omega, show ((i : Int) + 1) = ((i + 1 : Nat) : Int) by omega]
  exact z
theorem hold_at {f : LF} {ρ : Rho} {R : List PyData} {fs : List PyData} {rw_ s2 s3 : Sl} (h : ρ = [rw_, .own false (.l fs), s2, s3, .un]) (c : f ρ = some (R, ρ)) : fHold 3 f ρ = some (.nx [rw_, .own false (.l fs), s2, .own false (.l R), .un]) := by
  subst h
  simp only [q_fHold, c]
  rfl
theorem head_none {R : List PyData} {o : Option Nat} (hfd : R[0]? = o.map fun j => PyData.int ((j : Nat) : Int)) : atI (R ++ [.none]) 0 = some (oN o) := by
  have e := atI_nat (xs := R ++ [PyData.none]) (i := 0) (by simp)
  rw [show ((0 : Nat) : Int) = 0 from rfl] at e
  rw [e]
  cases R with
  | nil =>
    cases o with
    | none => rfl
    | some j => simp at hfd
  | cons a b =>
    cases o with
    | none => simp at hfd
    | some j =>
      simp at hfd
      subst hfd
      rfl
def lat (L : List Str) (i : Nat) : List PyData := ((List.range' (i + 1) (L.length - (i + 1))).filter fun j => decide (L[j]? = some (L.getD i ""))).map fun j => PyData.int ((j : Nat) : Int)
theorem lat_len {L : List Str} (hl : L.length ≤ 1000) (i : Nat) : (lat L i).length ≤ 1000 := by
  unfold lat
  rw [List.length_map]
  have := List.length_filter_le (fun j => decide (L[j]? = some (L.getD i ""))) (List.range' (i + 1) (L.length - (i + 1)))
  rw [List.length_range'] at this
  omega
theorem lat_head (L : List Str) (i : Nat) : (lat L i)[0]? = (nxt L i).map fun j => PyData.int ((j : Nat) : Int) := by
  unfold lat
  rw [List.getElem?_map, head_find]
  rfl
theorem later_turn {L : List Str} (hl : L.length ≤ 1000) {i : Nat} (li : i < L.length) (fs : List PyData) (hf : fs.length ≤ 1000) (s3 : Sl) : ∃ t3, gLb (lS L fs (.dat (.int (i : Nat))) s3) = some (.nx (lS L (fs ++ [oN (nxt L i)]) (.dat (.int (i : Nat))) t3)) := by
  have s1 : gL1 (lS L fs (.dat (.int (i : Nat))) s3) = some (.nx (lS L fs (.dat (.int (i : Nat))) (.own false (.l (lat L i))))) := hold_at rfl (lat_comp hl li fs s3)
  have s2 : gL2 (lS L fs (.dat (.int (i : Nat))) (.own false (.l (lat L i)))) = some (.nx (lS L (fs ++ [oN (nxt L i)]) (.dat (.int (i : Nat))) (.own false (.l (lat L i))))) := gL2_at hf (lat_len hl i) (head_none (lat_head L i))
  exact ⟨.own false (.l (lat L i)), (sq_nx s1).trans ((sq_nx s2).trans (q_fNx _))⟩
theorem rangeD_at {n j : Nat} {d : PyData} (h : (rangeD 0 n)[j]? = some d) : j < n ∧ d = .int (j : Nat) := by
  unfold rangeD at h
  rw [List.getElem?_map] at h
  cases q : (List.range n)[j]? with
  | none => rw [q] at h; cases h
  | some m =>
    rw [q] at h
    obtain ⟨hl, z⟩ := List.getElem?_eq_some_iff.mp q
    rw [List.getElem_range] at z
    subst z
    cases h
    exact ⟨by simpa using hl, by simp⟩
theorem m_later {L : List Str} (hl : L.length ≤ 1000) : F_Llater [.dat (rowD L)] = some (.list (NX L), [.un]) := by
  have f0 : fits 0 = true := by decide
  have s1 : fHold 1 (lLst lNil) [.dat (rowD L), .un, .un, .un, .un] = some (.nx (lS L [] .un .un)) := by simp [f0]
  have it : iRange1 (lCons (fCl lenD (aCons (gVar 0) aNil)) lNil) (lS L [] .un .un) = some (rangeD 0 L.length, lS L [] .un .un) := by
    have z := q_iR (f := lCons (fCl lenD (aCons (gVar 0) aNil)) lNil) (ρ := lS L [] .un .un) (ρ' := lS L [] .un .un) (j := (L.length : Int)) (by simp [lS]) (small62_le (by omega) (by omega))
    rw [Int.toNat_natCast] at z
    exact z
  obtain ⟨ρ', e, s2, s3, rfl⟩ := loop_at (t := tName 2) (g := gLb) (fun k ρ => ∃ s2 s3, ρ = lS L ((List.range k).map fun i => oN (nxt L i)) s2 s3) (rangeD 0 L.length) (ρ := lS L [] .un .un) ⟨_, _, rfl⟩ (fun j d hd ρ h => by
    obtain ⟨s2, s3, rfl⟩ := h
    obtain ⟨lj, rfl⟩ := rangeD_at hd
    obtain ⟨t3, e⟩ := later_turn hl lj ((List.range j).map fun i => oN (nxt L i)) (by rw [List.length_map, List.length_range]; omega) s3
    refine ⟨_, _, rfl, e, .dat (.int (j : Nat)), t3, ?_⟩
    rw [List.range_succ, List.map_append]
    rfl)
  rw [rangeD_len] at e
  have s2' : fFor (iRange1 (lCons (fCl lenD (aCons (gVar 0) aNil)) lNil)) (tName 2) gLb (lS L [] .un .un) = some (.nx (lS L (NX L) s2 s3)) := (for_it it).trans e
  have s3' : fRet (fVar 1) (lS L (NX L) s2 s3) = some (.rt (.list (NX L)) ((lS L (NX L) s2 s3).set 1 (.dat (.list (NX L))))) := by simp [lS]
  have g_is : g_Llater = fSq (fHold 1 (lLst lNil)) (fSq (fFor (iRange1 (lCons (fCl lenD (aCons (gVar 0) aNil)) lNil)) (tName 2) gLb) (fSq (fRet (fVar 1)) fNx)) := rfl
  have z : g_Llater [.dat (rowD L), .un, .un, .un, .un] = some (.rt (.list (NX L)) ((lS L (NX L) s2 s3).set 1 (.dat (.list (NX L))))) := by
    rw [g_is, sq_nx s1, sq_nx s2']
    exact sq_rt s3'
  exact (body_rt (m := 4) (g := g_Llater) (sls := [.dat (rowD L)]) rfl z).trans (by simp [lS, List.range, List.range.loop])
end K77
namespace K77
open PySem PySem.Spec PyProof.Rows L2 GX StX DL BX
def od : Option Str → PyData
  | none => .none
  | some s => .str s
theorem od_flat (l : Ls) : (l.map od).all flatD = true := by
  rw [List.all_eq_true]
  intro x hx
  obtain ⟨o, _, rfl⟩ := List.mem_map.mp hx
  cases o <;> rfl
theorem od_eq (o : Option Str) (w : Str) : PyData.eqv (od o) (.str w) = (o == some w) := by
  cases o with
  | none => rfl
  | some s =>
    show decide (s = w) = (some s == some w)
    by_cases h : s = w
    · subst h; simp
    · simp [h]
theorem idx_od (w : Str) (l : Ls) : idxL (.str w) (l.map od) = wIx w l := by
  unfold idxL wIx
  rw [List.findIdx?_map]
  congr 1
  funext o
  exact od_eq o w
theorem mem_od (w : Str) (l : Ls) : memD (.str w) (l.map od) = (wIx w l).isSome := by
  rw [← idx_od]
  unfold memD idxL
  rw [Bool.eq_iff_iff, List.any_eq_true, Option.isSome_iff_ne_none, ne_eq, List.findIdx?_eq_none_iff]
  constructor
  · rintro ⟨x, hx, h⟩ q
    rw [q x hx] at h
    cases h
  · intro q
    apply Classical.byContradiction
    intro n
    apply q
    intro x hx
    cases e : PyData.eqv x (.str w) with
    | false => rfl
    | true => exact (n ⟨x, hx, e⟩).elim
theorem wIx_none {w : Str} {l : Ls} : wIx w l = none ↔ some w ∉ l := by
  unfold wIx
  rw [List.findIdx?_eq_none_iff]
  constructor
  · intro h m
    have := h _ m
    simp at this
  · intro h x hx
    cases e : (x == some w) with
    | false => rfl
    | true => exact (h (eq_of_beq e ▸ hx)).elim
theorem wIx_some {w : Str} {l : Ls} {j : Nat} (h : wIx w l = some j) : j < l.length ∧ l[j]? = some (some w) := by
  obtain ⟨hj, h1, _⟩ := List.findIdx?_eq_some_iff_getElem.mp h
  exact ⟨hj, by rw [List.getElem?_eq_getElem hj, eq_of_beq h1]⟩
/-- no name twice -/
def Nd (l : Ls) : Prop := ∀ (i j : Nat) (x : Str), l[i]? = some (some x) → l[j]? = some (some x) → i = j
theorem get_set {l : Ls} {i j : Nat} {a b : Option Str} (h : (l.set i a)[j]? = some b) : (j = i ∧ b = a) ∨ (j ≠ i ∧ l[j]? = some b) := by
  by_cases e : i = j
  · subst e
    have hl : i < l.length := by
      have := (List.getElem?_eq_some_iff.mp h).1
      simpa using this
    rw [List.getElem?_set_self hl] at h
    exact .inl ⟨rfl, (Option.some.inj h).symm⟩
  · rw [List.getElem?_set_ne e] at h
    exact .inr ⟨fun z => e z.symm, h⟩
theorem mem_get {x : Str} {l : Ls} : some x ∈ l ↔ ∃ i : Nat, l[i]? = some (some x) := List.mem_iff_getElem?
theorem Nd.set {l : Ls} (h : Nd l) {i : Nat} {o : Option Str} (n : ∀ x, o = some x → some x ∉ l) : Nd (l.set i o) := by
  intro a b x ha hb
  rcases get_set ha with ⟨e1, e2⟩ | ⟨e1, e2⟩
  · rcases get_set hb with ⟨f1, f2⟩ | ⟨f1, f2⟩
    · omega
    · exact (n x e2.symm (mem_get.mpr ⟨b, f2⟩)).elim
  · rcases get_set hb with ⟨f1, f2⟩ | ⟨f1, f2⟩
    · exact (n x f2.symm (mem_get.mpr ⟨a, e2⟩)).elim
    · exact h a b x e2 f2
theorem mem_set {l : Ls} {i : Nat} {o : Option Str} {x : Str} (h : some x ∈ l.set i o) : o = some x ∨ (some x ∈ l ∧ ∃ j, j ≠ i ∧ l[j]? = some (some x)) := by
  obtain ⟨j, hj⟩ := mem_get.mp h
  rcases get_set hj with ⟨_, e⟩ | ⟨e1, e2⟩
  · exact .inl e.symm
  · exact .inr ⟨mem_get.mpr ⟨j, e2⟩, j, e1, e2⟩
/-- a table's row at a state -/
structure RowAt (n : Int) (rows : List PyData) (st v a : Int) (hs : List Int) : Prop where
  at_ : atI rows st = some (.tuple [.int v, .int a, .tuple (hs.map .int)])
  v0 : 0 ≤ v
  v1 : v < n
  a0 : 0 ≤ a
  a1 : a < rows.length
  hl : (hs.length : Int) = n
  hh : ∀ h ∈ hs, 0 ≤ h ∧ h < rows.length
theorem row_at {n : Int} {rows : List PyData} {st : Int} (hr : ∀ r ∈ rows, RowOk n rows.length r) (s0 : 0 ≤ st) (s1 : st < rows.length) : ∃ v a hs, RowAt n rows st v a hs := by
  obtain ⟨r, hm, _, e⟩ := atI_int s0 s1
  obtain ⟨v, a, hs, rfl, b1, b2, b3, b4, b5, b6⟩ := hr r hm
  exact ⟨v, a, hs, e, b1, b2, b3, b4, b5, b6⟩
theorem row_P {n : Int} {rows : List PyData} {st v a : Int} {hs : List Int} (h : RowAt n rows st v a hs) : rowP (.tuple [.int n, .tuple rows]) st = some (v, a, hs) := by
  have e : intsOf (hs.map PyData.int) = some hs := by
    have go : ∀ xs : List Int, intsOf (xs.map PyData.int) = some xs := fun xs => by
      induction xs with
      | nil => rfl
      | cons x xs ih =>
        rw [List.map_cons]
        show (match intsOf (xs.map PyData.int) with
          | some ns => some (x :: ns)
          | none => none) = _
        rw [ih]
    exact go hs
  simp [rowP, h.at_, e]
/-- what goes on in one level -/
theorem go_ways {n : Int} {rows : List PyData} {st v a : Int} {hs : List Int} {l : Ls} (h : RowAt n rows st v a hs) (ll : (l.length : Int) = n) (w : Str) :
    (∃ (j : Nat) (g : Int), wIx w l = some j ∧ atI (hs.map PyData.int) (j : Int) = some (.int g) ∧ hs[j]? = some g ∧ goP v a hs l w = some (true, none, g, l) ∧ 0 ≤ g ∧ g < rows.length) ∨
      (∃ gone, wIx w l = none ∧ l[v.toNat]? = some gone ∧ goP v a hs l w = some (false, gone, a, l.set v.toNat (some w))) := by
  haveI : DL.FT := { nf := fun _ _ _ => none, qn := fun _ => "" }
  cases e : wIx w l with
  | some j =>
    obtain ⟨jl, _⟩ := wIx_some e
    have hl := h.hl
    have jh : j < hs.length := by omega
    have e2 : hs[j]? = some hs[j] := List.getElem?_eq_getElem jh
    refine .inl ⟨j, hs[j], rfl, atI_map' PyData.int hs e2, e2, ?_, (h.hh _ (List.getElem_mem jh)).1, (h.hh _ (List.getElem_mem jh)).2⟩
    unfold goP
    rw [e]
    simp [e2]
  | none =>
    have vl : v.toNat < l.length := by have := h.v0; have := h.v1; omega
    refine .inr ⟨l[v.toNat], rfl, List.getElem?_eq_getElem vl, ?_⟩
    unfold goP
    rw [e]
    simp [vl]
theorem in_od (w : Str) (l : Ls) : inD (.str w) (.tuple (l.map od)) = some (.bool (wIx w l).isSome) := by
  show (if (flatD (.str w) && (l.map od).all flatD) = true then some (PyData.bool (memD (.str w) (l.map od))) else none) = _
  rw [od_flat, mem_od]
  rfl
theorem ix_od {w : Str} {l : Ls} {j : Nat} (e : wIx w l = some j) : tIndexD (.tuple (l.map od)) [.str w] = some (.int (j : Nat)) := by
  show (if (flatD (.str w) && (l.map od).all flatD) = true then (idxL (.str w) (l.map od)).map (fun j => PyData.int (j : Nat)) else _) = _
  rw [od_flat, idx_od, e]
  rfl
theorem lens {α : Type} {ls : List α} (h1 : 1 ≤ ls.length) (h4 : ls.length ≤ 4) : (∃ a, ls = [a]) ∨ (∃ a b, ls = [a, b]) ∨ (∃ a b c, ls = [a, b, c]) ∨ ∃ a b c d, ls = [a, b, c, d] := by
  match ls, h1, h4 with
  | [a], _, _ => exact .inl ⟨a, rfl⟩
  | [a, b], _, _ => exact .inr (.inl ⟨a, b, rfl⟩)
  | [a, b, c], _, _ => exact .inr (.inr (.inl ⟨a, b, c, rfl⟩))
  | [a, b, c, d], _, _ => exact .inr (.inr (.inr ⟨a, b, c, d, rfl⟩))
  | a :: b :: c :: d :: e :: r, _, h => exact absurd h (by simp)
theorem m_exch0 {ls : List PyData} {v : Int} {x : PyData} (h1 : 1 ≤ ls.length) (h4 : ls.length ≤ 4) (v0 : 0 ≤ v) (v1 : v < ls.length) : F_exchanged [.dat (.tuple ls), .dat (.int v), .dat x] = some (.tuple (ls.set v.toNat x), [.un, .un, .un]) := by
  rcases lens h1 h4 with ⟨a, rfl⟩ | ⟨a, b, rfl⟩ | ⟨a, b, c, rfl⟩ | ⟨a, b, c, d, rfl⟩
  · have q : v = 0 := by simp at v1; omega
    subst q; rfl
  · have q : v = 0 ∨ v = 1 := by simp at v1; omega
    rcases q with rfl | rfl <;> rfl
  · have q : v = 0 ∨ v = 1 ∨ v = 2 := by simp at v1; omega
    rcases q with rfl | rfl | rfl <;> rfl
  · have q : v = 0 ∨ v = 1 ∨ v = 2 ∨ v = 3 := by simp at v1; omega
    rcases q with rfl | rfl | rfl | rfl <;> rfl
theorem m_exch {l : Ls} {n v : Int} {o : Option Str} (n1 : 1 ≤ n) (n4 : n ≤ 4) (ll : (l.length : Int) = n) (v0 : 0 ≤ v) (v1 : v < n) : F_exchanged [.dat (.tuple (l.map od)), .dat (.int v), .dat (od o)] = some (.tuple ((l.set v.toNat o).map od), [.un, .un, .un]) := by
  have z := m_exch0 (ls := l.map od) (v := v) (x := od o) (by rw [List.length_map]; omega) (by rw [List.length_map]; omega) v0 (by rw [List.length_map]; omega)
  rw [z, List.map_set]
theorem m_ask {n : Int} {rows : List PyData} {st v a : Int} {hs : List Int} {l l' : Ls} {w : Str} {hit : Bool} {gone : Option Str} {s' : Int} (n1 : 1 ≤ n) (n4 : n ≤ 4) (h : RowAt n rows st v a hs) (ll : (l.length : Int) = n) (g : goP v a hs l w = some (hit, gone, s', l')) :
    F_ask [.dat (.tuple [.int n, .tuple rows]), .dat (.int st), .dat (.tuple (l.map od)), .dat (.str w)] = some (.tuple [.bool hit, .int s', .tuple (l'.map od), od gone], [.un, .un, .un, .un]) := by
  haveI : DL.FT := { nf := fun _ _ _ => none, qn := fun _ => "" }
  have a1 : atI [PyData.int n, .tuple rows] 1 = some (.tuple rows) := rfl
  have f4 : fits 4 = true := by decide
  have i1 := in_od w l
  rcases go_ways h ll w with ⟨j, q, e, eg, _, e2, _⟩ | ⟨gn, e, ev, e2⟩
  · rw [g] at e2
    cases e2
    have ix := ix_od e
    rw [e] at i1
    simp [F_ask, g_ask, a1, h.at_, i1, ix, eg, f4, tyD, od, List.range, List.range.loop]
  · rw [g] at e2
    cases e2
    have ex := m_exch (o := some w) n1 n4 ll h.v0 h.v1
    have ey : atI (l.map od) v = some (od gone) := by
      have z := atI_map' od l ev
      rwa [Int.toNat_of_nonneg h.v0] at z
    rw [e] at i1
    have ex2 : F_exchanged [.dat (.tuple (l.map od)), .dat (.int v), .dat (.str w)] = some (.tuple ((l.set v.toNat (some w)).map od), [.un, .un, .un]) := ex
    simp [F_ask, g_ask, a1, h.at_, i1, ex2, ey, f4, -List.map_set, List.range, List.range.loop]
theorem m_swap {n : Int} {rows : List PyData} {st v a : Int} {hs : List Int} {l l' : Ls} {w : Str} {gone : Option Str} {s' : Int} (n1 : 1 ≤ n) (n4 : n ≤ 4) (h : RowAt n rows st v a hs) (ll : (l.length : Int) = n) (g : downP v a hs st l w gone = some (s', l')) (nd : ∀ x, gone = some x → some x ∉ l) :
    F_swap [.dat (.tuple [.int n, .tuple rows]), .dat (.int st), .dat (.tuple (l.map od)), .dat (.str w), .dat (od gone)] = some (.tuple [.bool (wIx w l).isSome, .int s', .tuple (l'.map od)], [.un, .un, .un, .un, .un]) := by
  haveI : DL.FT := { nf := fun _ _ _ => none, qn := fun _ => "" }
  have a1 : atI [PyData.int n, .tuple rows] 1 = some (.tuple rows) := rfl
  have f3 : fits 3 = true := by decide
  have i1 := in_od w l
  unfold downP at g
  cases e : wIx w l with
  | some j =>
    rw [e] at g i1
    dsimp only at g
    obtain ⟨jl, _⟩ := wIx_some e
    have ix := ix_od e
    have jh : j < hs.length := by have := h.hl; omega
    have e2 : hs[j]? = some hs[j] := List.getElem?_eq_getElem jh
    rw [e2] at g
    cases g
    have eg := atI_map' PyData.int hs e2
    have ex := m_exch (l := l) (v := (j : Int)) (o := gone) n1 n4 ll (by omega) (by omega)
    rw [Int.toNat_natCast] at ex
    simp [F_swap, g_swap, a1, h.at_, i1, ix, eg, ex, f3, tyD, -List.map_set, List.range, List.range.loop]
  | none =>
    rw [e] at g i1
    dsimp only at g
    cases gone with
    | none =>
      cases g
      have c : isNoneD .none .none = some (.bool true) := rfl
      simp [F_swap, g_swap, a1, h.at_, i1, c, f3, od, List.range, List.range.loop]
    | some x =>
      dsimp only at g
      rcases go_ways h ll x with ⟨j, q, e3, _⟩ | ⟨gn, e3, ev, e2⟩
      · exact ((nd x rfl) (by obtain ⟨_, z⟩ := wIx_some e3; exact mem_get.mpr ⟨j, z⟩)).elim
      · rw [e2] at g
        cases g
        have ex := m_exch (o := some x) n1 n4 ll h.v0 h.v1
        have ex2 : F_exchanged [.dat (.tuple (l.map od)), .dat (.int v), .dat (.str x)] = some (.tuple ((l.set v.toNat (some x)).map od), [.un, .un, .un]) := ex
        have c : isNoneD (.str x) .none = some (.bool false) := rfl
        simp [F_swap, g_swap, a1, h.at_, i1, c, ex2, f3, od, -List.map_set, List.range, List.range.loop]
end K77
namespace K77
open PySem PySem.Spec PyProof.Rows L2 GX StX DL BX
theorem sl_up {a b : List PyData} {n : Int} (h : (a.length : Int) = n) : sliceD (.tuple (a ++ b)) none (some n) = some (.tuple a) := by
  show some (PyData.tuple (cutL (a ++ b) none (some n))) = _
  unfold cutL
  have e : HT.sIx (a ++ b).length (a ++ b).length (some n) = a.length := by
    have z := HT.sIx_nat (a ++ b).length (a ++ b).length a.length
    rw [h] at z
    rw [z, List.length_append]
    omega
  rw [e]
  show some (PyData.tuple (((a ++ b).drop 0).take (a.length - 0))) = _
  rw [List.drop_zero, Nat.sub_zero, List.take_left]
theorem sl_low {a b : List PyData} {n : Int} (h : (a.length : Int) = n) : sliceD (.tuple (a ++ b)) (some n) none = some (.tuple b) := by
  show some (PyData.tuple (cutL (a ++ b) (some n) none)) = _
  unfold cutL
  have e : HT.sIx (a ++ b).length 0 (some n) = a.length := by
    have z := HT.sIx_nat (a ++ b).length 0 a.length
    rw [h] at z
    rw [z, List.length_append]
    omega
  rw [e]
  show some (PyData.tuple (((a ++ b).drop a.length).take ((a ++ b).length - a.length))) = _
  rw [List.drop_left, List.length_append, Nat.add_sub_cancel_left, List.take_length]
theorem add_t {a b : List PyData} (h : a.length + b.length ≤ 100) : addD (.tuple a) (.tuple b) = some (.tuple (a ++ b)) := by
  show (if fits (a.length + b.length) = true then some (PyData.tuple (a ++ b)) else none) = _
  have f : fits (a.length + b.length) = true := decide_eq_true (by omega)
  rw [if_pos f]
/-- what the program wipes out of the upper level -/
def wipeD (o d : PyData) : PyData := if PyData.eqv d o then .none else d
theorem wipe_od (l : Ls) (out : Option Str) (nd : Nd l) : (l.map od).map (wipeD (od out)) = (inclP "inclusive" out l).map od := by
  unfold inclP
  rw [if_pos rfl]
  cases out with
  | none =>
    rw [List.map_map]
    apply List.map_congr_left
    intro o _
    cases o <;> rfl
  | some x =>
    dsimp only
    cases e : wIx x l with
    | none =>
      dsimp only
      rw [List.map_map]
      apply List.map_congr_left
      intro o ho
      show wipeD (.str x) (od o) = od o
      unfold wipeD
      rw [od_eq]
      cases q : (o == some x) with
      | false => rfl
      | true =>
        have z := eq_of_beq q
        subst z
        exact (wIx_none.mp e ho).elim
    | some j =>
      dsimp only
      obtain ⟨jl, ej⟩ := wIx_some e
      apply List.ext_getElem?
      intro i
      rw [List.map_map, List.getElem?_map, List.getElem?_map]
      by_cases c : j = i
      · subst c
        rw [List.getElem?_set_self jl, ej]
        show some (wipeD (.str x) (od (some x))) = _
        unfold wipeD
        rw [od_eq]
        simp [od]
      · rw [List.getElem?_set_ne c]
        cases q : l[i]? with
        | none => rfl
        | some o =>
          show some (wipeD (.str x) (od o)) = some (od o)
          unfold wipeD
          rw [od_eq]
          cases q2 : (o == some x) with
          | false => rfl
          | true =>
            have z := eq_of_beq q2
            subst z
            exact (c (nd _ _ _ ej q)).elim
section
variable {mode : Str} {n m : Int} {rows rows' : List PyData} {s0 s1 v0 a0 v1 a1 : Int} {hs0 hs1 : List Int} {l0 l1 : Ls} {w : Str}
theorem sl_hit {gone : Option Str} {s' : Int} {l' : Ls} (n1 : 1 ≤ n) (n4 : n ≤ 4) (h : RowAt n rows s0 v0 a0 hs0) (ll : (l0.length : Int) = n) (g : goP v0 a0 hs0 l0 w = some (true, gone, s', l')) :
    F_servelevels [.dat (.tuple [.str mode, .tuple [.int n, .tuple rows], .tuple [.int m, .tuple rows']]), .dat (.tuple [.int s0, .int s1]), .dat (.tuple (l0.map od ++ l1.map od)), .dat (.str w)]
      = some (.tuple [.bool true, .tuple [.int s', .int s1], .tuple (l0.map od ++ l1.map od)], [.un, .un, .un, .un]) := by
  have e := m_ask n1 n4 h ll g
  have u1 := sl_up (a := l0.map od) (b := l1.map od) (n := n) (by rw [List.length_map]; exact ll)
  have u2 := sl_low (a := l0.map od) (b := l1.map od) (n := n) (by rw [List.length_map]; exact ll)
  have x0 : atI [PyData.int n, .tuple rows] 0 = some (.int n) := rfl
  have x1 : atI [PyData.int s0, .int s1] 0 = some (.int s0) := rfl
  have x2 : atI [PyData.int s0, .int s1] 1 = some (.int s1) := rfl
  have f2 : fits 2 = true := by decide
  have f3 : fits 3 = true := by decide
  simp [F_servelevels, g_servelevels, x0, x1, x2, u1, u2, e, f2, f3, List.range, List.range.loop]
theorem sl_vic {gone : Option Str} {s' s'' : Int} {l' l'' : Ls} (n1 : 1 ≤ n) (n4 : n ≤ 4) (m1 : 1 ≤ m) (m4 : m ≤ 4) (h : RowAt n rows s0 v0 a0 hs0) (h' : RowAt m rows' s1 v1 a1 hs1) (ll : (l0.length : Int) = n) (ll' : (l1.length : Int) = m)
    (g : goP v0 a0 hs0 l0 w = some (false, gone, s', l')) (g' : downP v1 a1 hs1 s1 l1 w gone = some (s'', l'')) (nd : ∀ x, gone = some x → some x ∉ l1) (hl : l'.length + l''.length ≤ 100) :
    F_servelevels [.dat (.tuple [.str "victim", .tuple [.int n, .tuple rows], .tuple [.int m, .tuple rows']]), .dat (.tuple [.int s0, .int s1]), .dat (.tuple (l0.map od ++ l1.map od)), .dat (.str w)]
      = some (.tuple [.bool (wIx w l1).isSome, .tuple [.int s', .int s''], .tuple (l'.map od ++ l''.map od)], [.un, .un, .un, .un]) := by
  have e := m_ask n1 n4 h ll g
  have e' := m_swap m1 m4 h' ll' g' nd
  have u1 := sl_up (a := l0.map od) (b := l1.map od) (n := n) (by rw [List.length_map]; exact ll)
  have u2 := sl_low (a := l0.map od) (b := l1.map od) (n := n) (by rw [List.length_map]; exact ll)
  have u3 := add_t (a := l'.map od) (b := l''.map od) (by rw [List.length_map, List.length_map]; exact hl)
  have x0 : atI [PyData.int n, .tuple rows] 0 = some (.int n) := rfl
  have x1 : atI [PyData.int s0, .int s1] 0 = some (.int s0) := rfl
  have x2 : atI [PyData.int s0, .int s1] 1 = some (.int s1) := rfl
  have f2 : fits 2 = true := by decide
  have f3 : fits 3 = true := by decide
  have q1 : eqD (.str "victim") (.str "victim") = some (.bool true) := rfl
  simp [F_servelevels, g_servelevels, x0, x1, x2, u1, u2, u3, e, e', q1, f2, f3, List.range, List.range.loop]
theorem sl_plain {hit : Bool} {gone out : Option Str} {s' s'' : Int} {l' l'' : Ls} (n1 : 1 ≤ n) (n4 : n ≤ 4) (m1 : 1 ≤ m) (m4 : m ≤ 4) (h : RowAt n rows s0 v0 a0 hs0) (h' : RowAt m rows' s1 v1 a1 hs1) (ll : (l0.length : Int) = n) (ll' : (l1.length : Int) = m)
    (g : goP v0 a0 hs0 l0 w = some (false, gone, s', l')) (g' : goP v1 a1 hs1 l1 w = some (hit, out, s'', l'')) (hl : l'.length + l''.length ≤ 100) :
    F_servelevels [.dat (.tuple [.str "plain", .tuple [.int n, .tuple rows], .tuple [.int m, .tuple rows']]), .dat (.tuple [.int s0, .int s1]), .dat (.tuple (l0.map od ++ l1.map od)), .dat (.str w)]
      = some (.tuple [.bool hit, .tuple [.int s', .int s''], .tuple (l'.map od ++ l''.map od)], [.un, .un, .un, .un]) := by
  have e := m_ask n1 n4 h ll g
  have e' := m_ask m1 m4 h' ll' g'
  have u1 := sl_up (a := l0.map od) (b := l1.map od) (n := n) (by rw [List.length_map]; exact ll)
  have u2 := sl_low (a := l0.map od) (b := l1.map od) (n := n) (by rw [List.length_map]; exact ll)
  have u3 := add_t (a := l'.map od) (b := l''.map od) (by rw [List.length_map, List.length_map]; exact hl)
  have x0 : atI [PyData.int n, .tuple rows] 0 = some (.int n) := rfl
  have x1 : atI [PyData.int s0, .int s1] 0 = some (.int s0) := rfl
  have x2 : atI [PyData.int s0, .int s1] 1 = some (.int s1) := rfl
  have f2 : fits 2 = true := by decide
  have f3 : fits 3 = true := by decide
  have q1 : eqD (.str "plain") (.str "victim") = some (.bool false) := rfl
  have q2 : eqD (.str "plain") (.str "inclusive") = some (.bool false) := rfl
  simp [F_servelevels, g_servelevels, x0, x1, x2, u1, u2, u3, e, e', q1, q2, f2, f3, List.range, List.range.loop]
def gWipe : SF := fSq (fIfS (fTst (fOp eqD (gVar 4) (gVal (fC (.str "inclusive"))))) (fSq (fAsg (fCl tupleD (aCons (gVal (fLst (fComp (iSeq (fVar 7)) [14] (tName 14) fYes (fIf (fTst (fOp eqD (gVar 14) (gVar 13))) (fC .none) (fVar 14))))) aNil)) (tName 7)) fNx) fNx)
  (fSq (fRet (fTup (lCons (fVar 9) (lCons (fTup (lCons (fVar 10) (lCons (fVar 12) lNil))) (lCons (fOp addD (gVar 7) (gVar 8)) lNil)))))
  fNx)
theorem wipe_turn {s3 s5 s6 s9 s10 s12 : PyData} {s0 s1 s2 s11 : Sl} {l' : Ls} {l'' : List PyData} {out : Option Str} (nd : Nd l') (ok : ∀ x, some x ∈ l' → PyData.strOk x = true) (ok' : ∀ x, out = some x → PyData.strOk x = true) (hl : l'.length + l''.length ≤ 100) :
    gWipe [s0, s1, s2, .dat s3, .dat (.str "inclusive"), .dat s5, .dat s6, .dat (.tuple (l'.map od)), .dat (.tuple l''), .dat s9, .dat s10, s11, .dat s12, .dat (od out), .un]
      = some (.rt (.tuple [s9, .tuple [s10, s12], .tuple ((inclP "inclusive" out l').map od ++ l'')]) [s0, s1, s2, .dat s3, .dat (.str "inclusive"), .dat s5, .dat s6, .dat (.tuple ((inclP "inclusive" out l').map od)), .dat (.tuple l''), .dat s9, .dat s10, s11, .dat s12, .dat (od out), .un]) := by
  have c := comp_map (k := 14) (f := fIf (fTst (fOp eqD (gVar 14) (gVar 13))) (fC .none) (fVar 14)) (h := wipeD (od out))
    (ρ := [s0, s1, s2, .dat s3, .dat (.str "inclusive"), .dat s5, .dat s6, .dat (.tuple (l'.map od)), .dat (.tuple l''), .dat s9, .dat s10, s11, .dat s12, .dat (od out), .un]) (l'.map od) [] (by
      intro d hd
      obtain ⟨o, hm, rfl⟩ := List.mem_map.mp hd
      have q : eqD (od o) (od out) = some (.bool (PyData.eqv (od o) (od out))) := by
        cases o with
        | none => cases out with
          | none => rfl
          | some y => simp [od, eqD, SeqAt.shaped, PyData.canLay0, PyData.depth, ok' y rfl]
        | some x => cases out with
          | none => simp [od, eqD, SeqAt.shaped, PyData.canLay0, PyData.depth, ok x hm]
          | some y => rfl
      refine ⟨[s0, s1, s2, .dat s3, .dat (.str "inclusive"), .dat s5, .dat s6, .dat (.tuple (l'.map od)), .dat (.tuple l''), .dat s9, .dat s10, s11, .dat s12, .dat (od out), .dat (od o)], ?_, rfl⟩
      unfold wipeD
      cases b : PyData.eqv (od o) (od out) with
      | true => rw [b] at q; simp [q]
      | false => rw [b] at q; simp [q]) (by simp; omega)
  have fc : fComp (iSeq (fVar 7)) [14] (tName 14) fYes (fIf (fTst (fOp eqD (gVar 14) (gVar 13))) (fC .none) (fVar 14)) [s0, s1, s2, .dat s3, .dat (.str "inclusive"), .dat s5, .dat s6, .dat (.tuple (l'.map od)), .dat (.tuple l''), .dat s9, .dat s10, s11, .dat s12, .dat (od out), .un] = some ((inclP "inclusive" out l').map od, [s0, s1, s2, .dat s3, .dat (.str "inclusive"), .dat s5, .dat s6, .dat (.tuple (l'.map od)), .dat (.tuple l''), .dat s9, .dat s10, s11, .dat s12, .dat (od out), .un]) := by
    rw [wipe_od l' out nd, List.nil_append] at c
    exact c
  have il : (inclP "inclusive" out l').length = l'.length := by
    unfold inclP
    rw [if_pos rfl]
    split
    · split
      · rw [List.length_set]
      · rfl
    · rfl
  have u3 := add_t (a := (inclP "inclusive" out l').map od) (b := l'') (by rw [List.length_map, il]; exact hl)
  have f2 : fits 2 = true := by decide
  have f3 : fits 3 = true := by decide
  have q2 : eqD (.str "inclusive") (.str "inclusive") = some (.bool true) := rfl
  simp [-q_fComp, gWipe, fc, u3, q2, f2, f3]
theorem sl_incl {hit : Bool} {gone out : Option Str} {s' s'' : Int} {l' l'' : Ls} (n1 : 1 ≤ n) (n4 : n ≤ 4) (m1 : 1 ≤ m) (m4 : m ≤ 4) (h : RowAt n rows s0 v0 a0 hs0) (h' : RowAt m rows' s1 v1 a1 hs1) (ll : (l0.length : Int) = n) (ll' : (l1.length : Int) = m)
    (g : goP v0 a0 hs0 l0 w = some (false, gone, s', l')) (g' : goP v1 a1 hs1 l1 w = some (hit, out, s'', l'')) (nd : Nd l') (ok : ∀ x, some x ∈ l' → PyData.strOk x = true) (ok' : ∀ x, out = some x → PyData.strOk x = true) (hl : l'.length + l''.length ≤ 100) :
    F_servelevels [.dat (.tuple [.str "inclusive", .tuple [.int n, .tuple rows], .tuple [.int m, .tuple rows']]), .dat (.tuple [.int s0, .int s1]), .dat (.tuple (l0.map od ++ l1.map od)), .dat (.str w)]
      = some (.tuple [.bool hit, .tuple [.int s', .int s''], .tuple ((inclP "inclusive" out l').map od ++ l''.map od)], [.un, .un, .un, .un]) := by
  have e := m_ask n1 n4 h ll g
  have e' := m_ask m1 m4 h' ll' g'
  have u1 := sl_up (a := l0.map od) (b := l1.map od) (n := n) (by rw [List.length_map]; exact ll)
  have u2 := sl_low (a := l0.map od) (b := l1.map od) (n := n) (by rw [List.length_map]; exact ll)
  have x0 : atI [PyData.int n, .tuple rows] 0 = some (.int n) := rfl
  have x1 : atI [PyData.int s0, .int s1] 0 = some (.int s0) := rfl
  have x2 : atI [PyData.int s0, .int s1] 1 = some (.int s1) := rfl
  have q1 : eqD (.str "inclusive") (.str "victim") = some (.bool false) := rfl
  have z : g_servelevels = fSq (fAsg (fVar 0) (tTupT 3 [(tName 4), (tName 5), (tName 6)]))
    (fSq (fPar 7 8 (lCons (fSl (gVar 2) oNone (oSome (fOp ixD (gVar 5) (gVal (fC (.int 0)))))) (lCons (fSl (gVar 2) (oSome (fOp ixD (gVar 5) (gVal (fC (.int 0))))) oNone) lNil)))
    (fSq (fAsg (fCa 4 F_ask (aCons (gVar 5) (aCons (gVal (fOp ixD (gVar 1) (gVal (fC (.int 0))))) (aCons (gVar 7) (aCons (gVar 3) aNil))))) (tTupT 4 [(tName 9), (tName 10), (tName 7), (tName 11)]))
    (fSq (fIfS (fTst (fVar 9)) (fSq (fRet (fTup (lCons (fC (.bool true)) (lCons (fTup (lCons (fVar 10) (lCons (fOp ixD (gVar 1) (gVal (fC (.int 1)))) lNil))) (lCons (fVar 2) lNil))))) fNx) fNx)
    (fSq (fIfS (fTst (fOp eqD (gVar 4) (gVal (fC (.str "victim"))))) (fSq (fAsg (fCa 5 F_swap (aCons (gVar 6) (aCons (gVal (fOp ixD (gVar 1) (gVal (fC (.int 1))))) (aCons (gVar 8) (aCons (gVar 3) (aCons (gVar 11) aNil)))))) (tTupT 3 [(tName 9), (tName 12), (tName 8)]))
      (fSq (fRet (fTup (lCons (fVar 9) (lCons (fTup (lCons (fVar 10) (lCons (fVar 12) lNil))) (lCons (fOp addD (gVar 7) (gVar 8)) lNil))))) fNx)) fNx)
    (fSq (fAsg (fCa 4 F_ask (aCons (gVar 6) (aCons (gVal (fOp ixD (gVar 1) (gVal (fC (.int 1))))) (aCons (gVar 8) (aCons (gVar 3) aNil))))) (tTupT 4 [(tName 9), (tName 12), (tName 8), (tName 13)]))
    gWipe))))) := rfl
  have wt := fun (x0 x1 x2 x11 : Sl) (x3 x5 x6 x9 x10 x12 : PyData) => wipe_turn (s0 := x0) (s1 := x1) (s2 := x2) (s11 := x11) (s3 := x3) (s5 := x5) (s6 := x6) (s9 := x9) (s10 := x10) (s12 := x12) (l' := l') (l'' := l''.map od) (out := out) nd ok ok' (by rw [List.length_map]; exact hl)
  simp [F_servelevels, z, x0, x1, x2, u1, u2, e, e', q1, List.range, List.range.loop]
  rw [wt]
  rfl
end
end K77
namespace K77
open PySem PySem.Spec PyProof.Rows L2 GX StX DL BX
structure TabIs (n : Int) (rows : List PyData) : Prop where
  n1 : 1 ≤ n
  n4 : n ≤ 4
  l1 : 1 ≤ rows.length
  l2 : rows.length ≤ 64
  rw_ : ∀ r ∈ rows, RowOk n rows.length r
theorem TabIs.tab {n : Int} {rows : List PyData} (h : TabIs n rows) : TabOk (.tuple [.int n, .tuple rows]) := ⟨n, rows, rfl, h.n1, h.n4, h.l1, h.l2, h.rw_⟩
theorem TabOk.is {t : PyData} (h : TabOk t) : ∃ n rows, t = .tuple [.int n, .tuple rows] ∧ TabIs n rows := by
  obtain ⟨n, rows, rfl, a, b, c, d, e⟩ := h
  exact ⟨n, rows, rfl, a, b, c, d, e⟩
/-- of one level -/
structure Lv (n : Int) (rows : List PyData) (s : Int) (l : Ls) : Prop where
  s0 : 0 ≤ s
  s1 : s < rows.length
  ln : (l.length : Int) = n
  nd : Nd l
  ok : ∀ x, some x ∈ l → Wd x = true
structure Inv (mode : Str) (n m : Int) (rows rows' : List PyData) (S : St2) : Prop where
  a : Lv n rows S.s0 S.l0
  b : Lv m rows' S.s1 S.l1
  dj : mode = "victim" → ∀ x, some x ∈ S.l0 → some x ∉ S.l1
theorem okB_at {n : Int} {rows : List PyData} {s v a : Int} {hs : List Int} {l : Ls} (t : TabIs n rows) (h : RowAt n rows s v a hs) (ln : (l.length : Int) = n) : okB v hs l = true := by
  have := t.n1
  have := t.n4
  have := h.v0
  have := h.v1
  have := h.hl
  unfold okB
  rw [Bool.and_eq_true, Bool.and_eq_true, Bool.and_eq_true]
  exact ⟨decide_eq_true (by omega), decide_eq_true (by omega), decide_eq_true (by omega), decide_eq_true (by omega)⟩
/-- a level asked for a name -/
theorem Lv.go {n : Int} {rows : List PyData} {s v a : Int} {hs : List Int} {l : Ls} (h : Lv n rows s l) (r : RowAt n rows s v a hs) (w : Str) (wok : Wd w = true) :
    ∃ hit gone s' l', goP v a hs l w = some (hit, gone, s', l') ∧ Lv n rows s' l' ∧ hit = (wIx w l).isSome ∧ (hit = true → gone = none ∧ l' = l) ∧ (hit = false → some w ∉ l ∧ l' = l.set v.toNat (some w) ∧ l[v.toNat]? = some gone) ∧ (∀ x, gone = some x → some x ∈ l) := by
  rcases go_ways r h.ln w with ⟨j, g, e, _, _, eg, g0, g1⟩ | ⟨gone, e, ev, eg⟩
  · refine ⟨_, _, _, _, eg, ⟨g0, g1, h.ln, h.nd, h.ok⟩, ?_, ?_, ?_, ?_⟩
    · rw [e]; rfl
    · intro _; exact ⟨rfl, rfl⟩
    · intro z; cases z
    · intro x z; cases z
  · have nw := wIx_none.mp e
    refine ⟨_, _, _, _, eg, ⟨r.a0, r.a1, by rw [List.length_set]; exact h.ln, h.nd.set ?_, ?_⟩, ?_, ?_, ?_, ?_⟩
    · intro x z; cases z; exact nw
    · intro x z
      rcases mem_set z with z | ⟨z, _⟩
      · cases z; exact wok
      · exact h.ok x z
    · rw [e]; rfl
    · intro z; cases z
    · intro _; exact ⟨nw, rfl, ev⟩
    · intro x z
      subst z
      exact mem_get.mpr ⟨_, ev⟩
theorem Lv.incl {n : Int} {rows : List PyData} {s : Int} {l : Ls} (h : Lv n rows s l) (mode : Str) (out : Option Str) : Lv n rows s (inclP mode out l) := by
  unfold inclP
  split
  · split
    · split
      · refine ⟨h.s0, h.s1, by rw [List.length_set]; exact h.ln, h.nd.set (fun x z => by cases z), fun x z => ?_⟩
        rcases mem_set z with z | ⟨z, _⟩
        · cases z
        · exact h.ok x z
      · exact h
    · exact h
  · exact h
/-- the victim's lower level -/
theorem Lv.down {n : Int} {rows : List PyData} {s v a : Int} {hs : List Int} {l : Ls} (h : Lv n rows s l) (r : RowAt n rows s v a hs) (w : Str) (gone : Option Str) (ng : ∀ x, gone = some x → some x ∉ l) (gok : ∀ x, gone = some x → Wd x = true) (gw : gone ≠ some w) :
    ∃ s' l', downP v a hs s l w gone = some (s', l') ∧ Lv n rows s' l' ∧ some w ∉ l' ∧ (∀ x, some x ∈ l' → some x ∈ l ∨ gone = some x) := by
  unfold downP
  cases e : wIx w l with
  | some j =>
    dsimp only
    obtain ⟨jl, ej⟩ := wIx_some e
    have hl := r.hl
    have ln := h.ln
    have jh : j < hs.length := by omega
    have e2 : hs[j]? = some hs[j] := List.getElem?_eq_getElem jh
    rw [e2]
    refine ⟨_, _, rfl, ⟨(r.hh _ (List.getElem_mem jh)).1, (r.hh _ (List.getElem_mem jh)).2, by rw [List.length_set]; exact ln, h.nd.set ng, ?_⟩, ?_, ?_⟩
    · intro x z
      rcases mem_set z with z | ⟨z, _⟩
      · exact gok x z
      · exact h.ok x z
    · intro z
      rcases mem_set z with z | ⟨_, i, c, z⟩
      · exact gw z
      · exact c (h.nd _ _ _ z ej)
    · intro x z
      rcases mem_set z with z | ⟨z, _⟩
      · exact .inr z
      · exact .inl z
  | none =>
    dsimp only
    have nw := wIx_none.mp e
    cases gone with
    | none => exact ⟨_, _, rfl, h, nw, fun x z => .inl z⟩
    | some x =>
      dsimp only
      obtain ⟨hit, g2, s', l', eg, hl, hh, h1, h2, _⟩ := h.go r x (gok x rfl)
      rw [eg]
      have hf : hit = false := by
        rw [hh, Option.isSome_eq_false_iff]
        exact Option.isNone_iff_eq_none.mpr (wIx_none.mpr (ng x rfl))
      obtain ⟨_, rfl, _⟩ := h2 hf
      refine ⟨_, _, rfl, hl, ?_, ?_⟩
      · intro z
        rcases mem_set z with z | ⟨z, _⟩
        · exact gw z
        · exact nw z
      · intro y z
        rcases mem_set z with z | ⟨z, _⟩
        · exact .inr z
        · exact .inl z
end K77
namespace K77
open PySem PySem.Spec PyProof.Rows L2 GX StX DL BX
abbrev Dv (mode : Str) (n m : Int) (rows rows' : List PyData) : PyData := .tuple [.str mode, .tuple [.int n, .tuple rows], .tuple [.int m, .tuple rows']]
abbrev Ct (S : St2) : PyData := .tuple (S.l0.map od ++ S.l1.map od)
theorem wIx_mem {w : Str} {l : Ls} (h : true = (wIx w l).isSome) : some w ∈ l := by
  cases e : wIx w l with
  | none => rw [e] at h; cases h
  | some j => exact mem_get.mpr ⟨j, (wIx_some e).2⟩
theorem or_mem {w : Str} {a b : Ls} (h : ((wIx w a).isSome || (wIx w b).isSome) = true) : some w ∈ a ∨ some w ∈ b := by
  rw [Bool.or_eq_true] at h
  exact h.imp (fun z => wIx_mem z.symm) fun z => wIx_mem z.symm
theorem set_mem {l : Ls} {i : Nat} {o g : Option Str} (h : l[i]? = some g) : o ∈ l.set i o := by
  have hl := (List.getElem?_eq_some_iff.mp h).1
  exact List.mem_of_getElem? (i := i) (by rw [List.getElem?_set_self hl])
theorem incl_mem {mode : Str} {out : Option Str} {l : Ls} {x : Str} (h : some x ∈ inclP mode out l) : some x ∈ l := by
  unfold inclP at h
  split at h
  · split at h
    · split at h
      · rcases mem_set h with z | ⟨z, _⟩
        · cases z
        · exact z
      · exact h
    · exact h
  · exact h
/-- what a request changes among the names held -/
structure Fa (w : Str) (S S' : St2) (hit : Bool) : Prop where
  hh : hit = true → some w ∈ S.l0 ∨ some w ∈ S.l1
  ne : ∀ x, (some x ∈ S'.l0 ∨ some x ∈ S'.l1) → (some x ∈ S.l0 ∨ some x ∈ S.l1) ∨ x = w
  w_ : some w ∈ S'.l0 ∨ some w ∈ S'.l1
theorem step {mode : Str} {n m : Int} {rows rows' : List PyData} {S : St2} (t : TabIs n rows) (t' : TabIs m rows') (hm : mode ∈ modes) (I : Inv mode n m rows rows' S) (w : Str) (wok : Wd w = true) :
    ∃ hit S', stepP mode (.tuple [.int n, .tuple rows]) (.tuple [.int m, .tuple rows']) S w = some (hit, S') ∧ Inv mode n m rows rows' S' ∧
      F_servelevels [.dat (Dv mode n m rows rows'), .dat (.tuple [.int S.s0, .int S.s1]), .dat (Ct S), .dat (.str w)] = some (.tuple [.bool hit, .tuple [.int S'.s0, .int S'.s1], Ct S'], [.un, .un, .un, .un]) ∧ Fa w S S' hit := by
  obtain ⟨s0, s1, l0, l1⟩ := S
  obtain ⟨v0, a0, hs0, r0⟩ := row_at t.rw_ I.a.s0 I.a.s1
  obtain ⟨v1, a1, hs1, r1⟩ := row_at t'.rw_ I.b.s0 I.b.s1
  have A := I.a
  have B := I.b
  have D := I.dj
  dsimp only at A B D r0 r1 ⊢
  have k0 := okB_at t r0 A.ln
  have k1 := okB_at t' r1 B.ln
  have sp : stepP mode (.tuple [.int n, .tuple rows]) (.tuple [.int m, .tuple rows']) ⟨s0, s1, l0, l1⟩ w = (match askP mode v0 a0 hs0 v1 a1 hs1 s0 s1 l0 l1 w with
      | some (s0, s1, l0, l1) => some ((wIx w l0).isSome || (wIx w l1).isSome, ⟨s0, s1, l0, l1⟩)
      | none => none) ∨ True := .inr trivial
  obtain ⟨hit, gone, s', l', eg, A', hh, h1, h2, h3⟩ := A.go r0 w wok
  have len' := A'.ln
  have n4 := t.n4
  have m4 := t'.n4
  have pre : ∀ q, askP mode v0 a0 hs0 v1 a1 hs1 s0 s1 l0 l1 w = some q → stepP mode (.tuple [.int n, .tuple rows]) (.tuple [.int m, .tuple rows']) ⟨s0, s1, l0, l1⟩ w = some ((wIx w l0).isSome || (wIx w l1).isSome, ⟨q.1, q.2.1, q.2.2.1, q.2.2.2⟩) := by
    intro q hq
    unfold stepP
    simp only [row_P r0, row_P r1, k0, k1, hq, Bool.and_self, if_true]
  cases hit with
  | true =>
    obtain ⟨rfl, rfl⟩ := h1 rfl
    have aq : askP mode v0 a0 hs0 v1 a1 hs1 s0 s1 l' l1 w = some (s', s1, l', l1) := by
      unfold askP
      rw [eg]
    have iw : some w ∈ l' := wIx_mem (by rw [← hh])
    refine ⟨_, _, pre _ aq, ⟨A', B, D⟩, ?_, ⟨or_mem, fun x hx => .inl hx, .inl iw⟩⟩
    have z := sl_hit (mode := mode) (m := m) (rows' := rows') (s1 := s1) (l1 := l1) t.n1 t.n4 r0 A.ln eg
    rw [← hh, Bool.true_or]
    exact z
  | false =>
    obtain ⟨nw, el, ev⟩ := h2 rfl
    have hor : ((wIx w l0).isSome || (wIx w l1).isSome) = (wIx w l1).isSome := by rw [← hh, Bool.false_or]
    by_cases c : mode = "victim"
    · subst c
      have dj := D rfl
      have ng : ∀ x, gone = some x → some x ∉ l1 := fun x z => dj x (h3 x z)
      have gok : ∀ x, gone = some x → Wd x = true := fun x z => A.ok x (h3 x z)
      have gw : gone ≠ some w := fun z => nw (h3 w z)
      obtain ⟨s'', l'', ed, B', d1, d2⟩ := B.down r1 w gone ng gok gw
      have aq : askP "victim" v0 a0 hs0 v1 a1 hs1 s0 s1 l0 l1 w = some (s', s'', l', l'') := by
        unfold askP
        rw [eg]
        dsimp only
        rw [if_pos rfl, ed]
      have len'' := B'.ln
      have z := sl_vic (w := w) t.n1 t.n4 t'.n1 t'.n4 r0 r1 A.ln B.ln eg ed ng (by omega)
      refine ⟨_, _, pre _ aq, ⟨A', B', fun _ x hx hy => ?_⟩, ?_, ⟨or_mem, fun x hx => ?_, .inl (el ▸ set_mem ev)⟩⟩
      · dsimp only at hx hy
        rw [el] at hx
        rcases mem_set hx with hx | ⟨hx, i, ci, hi⟩
        · cases hx
          exact d1 hy
        · rcases d2 x hy with hy | hy
          · exact dj x hx hy
          · rw [hy] at ev
            exact ci (A.nd _ _ _ hi ev)
      · rw [hor]
        exact z
      · rcases hx with hx | hx
        · dsimp only at hx
          rw [el] at hx
          rcases mem_set hx with hx | ⟨hx, _⟩
          · cases hx; exact .inr rfl
          · exact .inl (.inl hx)
        · rcases d2 x hx with hx | hx
          · exact .inl (.inr hx)
          · exact .inl (.inl (h3 x hx))
    · obtain ⟨hit2, out, s'', l'', eg2, B', hh2, k1, k2, k3⟩ := B.go r1 w wok
      have len'' := B'.ln
      have aq : askP mode v0 a0 hs0 v1 a1 hs1 s0 s1 l0 l1 w = some (s', s'', inclP mode out l', l'') := by
        unfold askP
        rw [eg]
        dsimp only
        rw [if_neg c, eg2]
      refine ⟨_, _, pre _ aq, ⟨A'.incl mode out, B', fun z => absurd z c⟩, ?_, ⟨or_mem, fun x hx => ?_, .inr ?_⟩⟩
      rotate_left
      · rcases hx with hx | hx
        · have hx := incl_mem hx
          rw [el] at hx
          rcases mem_set hx with hx | ⟨hx, _⟩
          · cases hx; exact .inr rfl
          · exact .inl (.inl hx)
        · dsimp only at hx
          cases hit2 with
          | true =>
            rw [(k1 rfl).2] at hx
            exact .inl (.inr hx)
          | false =>
            rw [(k2 rfl).2.1] at hx
            rcases mem_set hx with hx | ⟨hx, _⟩
            · cases hx; exact .inr rfl
            · exact .inl (.inr hx)
      · dsimp only
        cases hit2 with
        | true =>
          rw [(k1 rfl).2]
          exact wIx_mem (by rw [← hh2])
        | false =>
          rw [(k2 rfl).2.1]
          exact set_mem (k2 rfl).2.2
      rw [hor, ← hh2]
      have mm : mode = "plain" ∨ mode = "inclusive" := by
        simp only [modes, List.mem_cons, List.not_mem_nil, or_false] at hm
        rcases hm with h | h | h
        · exact .inl h
        · exact .inr h
        · exact absurd h c
      rcases mm with rfl | rfl
      · have z := sl_plain (w := w) t.n1 t.n4 t'.n1 t'.n4 r0 r1 A.ln B.ln eg eg2 (by omega)
        have e : inclP "plain" out l' = l' := by
          unfold inclP
          rw [if_neg (by decide)]
        rw [e]
        exact z
      · have z := sl_incl (w := w) t.n1 t.n4 t'.n1 t'.n4 r0 r1 A.ln B.ln eg eg2 A'.nd (fun x z => wd_ok (A'.ok x z)) (fun x z => wd_ok (B.ok x (k3 x z))) (by omega)
        exact z
theorem m_serve {mode : Str} {n m : Int} {rows rows' : List PyData} {s c x : PyData} {w : Str} (hm : mode ∈ modes) (e : F_servelevels [.dat (Dv mode n m rows rows'), .dat s, .dat c, .dat (.str w)] = some (x, [.un, .un, .un, .un])) :
    F_serve [.dat (Dv mode n m rows rows'), .dat s, .dat c, .dat (.str w)] = some (x, [.un, .un, .un, .un]) := by
  have a0 : atI [PyData.str mode, .tuple [.int n, .tuple rows], .tuple [.int m, .tuple rows']] 0 = some (.str mode) := rfl
  have q : eqD (.str mode) (.str "cache") = some (.bool false) := by
    simp only [modes, List.mem_cons, List.not_mem_nil, or_false] at hm
    rcases hm with rfl | rfl | rfl <;> rfl
  simp [F_serve, g_serve, a0, q, e, List.range, List.range.loop]
theorem Inv.start {mode : Str} {n m : Int} {rows rows' : List PyData} (t : TabIs n rows) (t' : TabIs m rows') : Inv mode n m rows rows' ⟨0, 0, nones n, nones m⟩ := by
  have a := t.n1
  have b := t'.n1
  have c := t.l1
  have d := t'.l1
  have no : ∀ (k : Int) (x : Str), some x ∉ (nones k : Ls) := fun k x h => by
    unfold nones at h
    have := List.eq_of_mem_replicate h
    cases this
  have nd : ∀ k : Int, Nd (nones k) := fun k i j x h _ => (no k x (mem_get.mpr ⟨i, h⟩)).elim
  exact ⟨⟨Int.le_refl 0, by dsimp only; omega, by unfold nones; rw [List.length_replicate]; omega, nd _, fun x h => (no _ x h).elim⟩, ⟨Int.le_refl 0, by dsimp only; omega, by unfold nones; rw [List.length_replicate]; omega, nd _, fun x h => (no _ x h).elim⟩, fun _ x h => (no _ x h).elim⟩
end K77
namespace K77
open PySem PySem.Spec PyProof.Rows L2 GX StX DL BX
inductive Bs where
  | one (s : Int) (l : Ls) | two (S : St2)
def stB : Bs → PyData
  | .one s _ => .tuple [.int s]
  | .two S => .tuple [.int S.s0, .int S.s1]
def ctB : Bs → PyData
  | .one _ l => .tuple (l.map od)
  | .two S => Ct S
def cB : Bs → Ls
  | .one _ l => l
  | .two S => S.l0 ++ S.l1
def placeD (B : Bs) : PyData := .tuple [stB B, ctB B]
structure FaB (w : Str) (B B' : Bs) (hit : Bool) : Prop where
  hh : hit = true → some w ∈ cB B
  ne : ∀ x, some x ∈ cB B' → some x ∈ cB B ∨ x = w
  w_ : some w ∈ cB B'
  ln : (cB B').length = (cB B).length
structure Dev (rig : PyData) (Ok : Bs → Prop) : Prop where
  step : ∀ {B : Bs} {w : Str}, Ok B → NameOk w → ∃ (hit : Bool) (B' : Bs), Ok B' ∧
    F_serve [.dat rig, .dat (stB B), .dat (ctB B), .dat (.str w)] = some (.tuple [.bool hit, stB B', ctB B'], [.un, .un, .un, .un]) ∧ FaB w B B' hit
end K77
namespace K77
open PySem PySem.Spec PyProof.Rows L2 GX StX DL BX
abbrev D1 (n : Int) (rows : List PyData) : PyData := .tuple [.str "cache", .tuple [.int n, .tuple rows]]
inductive Ok1 (n : Int) (rows : List PyData) : Bs → Prop
  | mk {s : Int} {l : Ls} : Lv n rows s l → Ok1 n rows (.one s l)
inductive Ok2 (mode : Str) (n m : Int) (rows rows' : List PyData) : Bs → Prop
  | mk {S : St2} : Inv mode n m rows rows' S → Ok2 mode n m rows rows' (.two S)
theorem dev2 {mode : Str} {n m : Int} {rows rows' : List PyData} (t : TabIs n rows) (t' : TabIs m rows') (hm : mode ∈ modes) : Dev (Dv mode n m rows rows') (Ok2 mode n m rows rows') := by
  refine ⟨fun {B w} hB hw => ?_⟩
  cases hB with
  | @mk S I =>
    obtain ⟨hit, S', est, I', ev, fa⟩ := step t t' hm I w hw.2
    refine ⟨hit, .two S', .mk I', m_serve hm ev, fun h => List.mem_append.mpr (fa.hh h), fun x hx => ?_, List.mem_append.mpr fa.w_, ?_⟩
    · exact (fa.ne x (List.mem_append.mp hx)).imp (fun z => List.mem_append.mpr z) id
    · have a := I.a.ln
      have b := I.b.ln
      have a' := I'.a.ln
      have b' := I'.b.ln
      show (S'.l0 ++ S'.l1).length = (S.l0 ++ S.l1).length
      rw [List.length_append, List.length_append]
      omega
theorem dev1 {n : Int} {rows : List PyData} (t : TabIs n rows) : Dev (D1 n rows) (Ok1 n rows) := by
  refine ⟨fun {B w} hB hw => ?_⟩
  cases hB with
  | @mk s l L =>
    obtain ⟨v, a, hs, r⟩ := row_at t.rw_ L.s0 L.s1
    obtain ⟨hit, gone, s', l', eg, L', hh, h1, h2, _⟩ := L.go r w hw.2
    refine ⟨hit, .one s' l', .mk L', ?_, ?_, ?_, ?_, ?_⟩
    · have e := m_ask t.n1 t.n4 r L.ln eg
      have a0 : atI [PyData.str "cache", .tuple [.int n, .tuple rows]] 0 = some (.str "cache") := rfl
      have a1 : atI [PyData.str "cache", .tuple [.int n, .tuple rows]] 1 = some (.tuple [.int n, .tuple rows]) := rfl
      have a2 : atI [PyData.int s] 0 = some (.int s) := rfl
      have q : eqD (.str "cache") (.str "cache") = some (.bool true) := rfl
      have f1 : fits 1 = true := by decide
      have f3 : fits 3 = true := by decide
      simp [F_serve, g_serve, stB, ctB, a0, a1, a2, q, e, f1, f3, List.range, List.range.loop]
    · intro h
      exact wIx_mem (h ▸ hh)
    · intro x hx
      have hx : some x ∈ l' := hx
      cases hit with
      | true =>
        rw [(h1 rfl).2] at hx
        exact .inl hx
      | false =>
        rw [(h2 rfl).2.1] at hx
        rcases mem_set hx with z | ⟨z, _⟩
        · cases z
          exact .inr rfl
        · exact .inl z
    · show some w ∈ l'
      cases hit with
      | true =>
        rw [(h1 rfl).2]
        exact wIx_mem hh
      | false =>
        rw [(h2 rfl).2.1]
        exact set_mem (h2 rfl).2.2
    · have a := L.ln
      have b := L'.ln
      show l'.length = l.length
      omega
theorem m_dev1 {t : PyData} (h : TabOk t) : F_isdevice [.dat (.tuple [.str "cache", t])] = some (.bool true, [.un]) := by
  have e := m_pol h
  have l1 : levD "cache" = .int 1 := rfl
  have fc : fComp (iSeq (fVar 2)) [3] (tName 3) fYes (fCa 1 F_ispolicy (aCons (gVar 3) aNil)) [.dat (.tuple [.str "cache", t]), .dat (.str "cache"), .dat (.list [t]), .un] = some ([.bool true], [.dat (.tuple [.str "cache", t]), .dat (.str "cache"), .dat (.list [t]), .un]) := by
    have f1 : fits 1 = true := by decide
    rw [q_fComp]
    simp [cLoop, e, f1, wipe1]
  have ne : neD (.int 1) (.int 1) = some (.bool false) := rfl
  have al : allD [.list [.bool true]] = some (.bool true) := rfl
  simp only [F_isdevice, g_isdevice]
  simp [-q_fComp, m_tup, dStr, fc, l1, ne, al, List.range, List.range.loop]
theorem m_checkdev1 {t : PyData} (h : TabOk t) : F_checkdevice [.dat (.tuple [.str "cache", t])] = some (.none, [.un]) := by
  have e := m_dev1 h
  simp [F_checkdevice, g_checkdevice, e, List.range, List.range.loop]
theorem m_start1 {n : Int} {rows : List PyData} (n1 : 1 ≤ n) (n4 : n ≤ 4) : F_startof [.dat (D1 n rows)] = some (placeD (.one 0 (nones n)), [.un]) := by
  rcases four n1 n4 with rfl | rfl | rfl | rfl <;> rfl
theorem ct_start {n m : Int} (n1 : 1 ≤ n) (m1 : 1 ≤ m) : PyData.tuple (List.replicate (n + m).toNat .none) = Ct ⟨0, 0, nones n, nones m⟩ := by
  show _ = PyData.tuple ((List.replicate n.toNat none).map od ++ (List.replicate m.toNat none).map od)
  rw [List.map_replicate, List.map_replicate, List.replicate_append_replicate, Int.toNat_add (by omega) (by omega)]
  rfl
theorem m_start2 {mode : Str} {n m : Int} {rows rows' : List PyData} (n1 : 1 ≤ n) (n4 : n ≤ 4) (m1 : 1 ≤ m) (m4 : m ≤ 4) : F_startof [.dat (Dv mode n m rows rows')] = some (placeD (.two ⟨0, 0, nones n, nones m⟩), [.un]) := by
  have e := m_start (mode := mode) (rows := rows) (rows' := rows') n1 n4 m1 m4
  rw [ct_start n1 m1] at e
  exact e
theorem start1 {n : Int} {rows : List PyData} (t : TabIs n rows) : Lv n rows 0 (nones n) := by
  have a := t.n1
  have c := t.l1
  have no : ∀ (k : Int) (x : Str), some x ∉ (nones k : Ls) := fun k x h => by
    unfold nones at h
    have := List.eq_of_mem_replicate h
    cases this
  have nd : ∀ k : Int, Nd (nones k) := fun k i j x h _ => (no k x (mem_get.mpr ⟨i, h⟩)).elim
  exact ⟨Int.le_refl 0, by omega, by unfold nones; rw [List.length_replicate]; omega, nd _, fun x h => (no _ x h).elim⟩
end K77
namespace K77
open PySem PySem.Spec PyProof.Rows L2 GX StX DL BX
inductive RunR (rig : PyData) : Bs → List Str → List Bool → Bs → Prop
  | nil (B : Bs) : RunR rig B [] [] B
  | cons {B B1 B2 : Bs} {w : Str} {hit : Bool} {ws : List Str} {hs : List Bool} : NameOk w →
    F_serve [.dat rig, .dat (stB B), .dat (ctB B), .dat (.str w)] = some (.tuple [.bool hit, stB B1, ctB B1], [.un, .un, .un, .un]) → FaB w B B1 hit → RunR rig B1 ws hs B2 → RunR rig B (w :: ws) (hit :: hs) B2
theorem RunR.ex {rig : PyData} {Ok : Bs → Prop} (D : Dev rig Ok) : ∀ (ws : List Str) (B : Bs), Ok B → (∀ w ∈ ws, NameOk w) → ∃ hs B', RunR rig B ws hs B' ∧ Ok B'
  | [], B, h, _ => ⟨[], B, .nil B, h⟩
  | w :: ws, B, h, hw => by
    obtain ⟨hit, B1, h1, es, fa⟩ := D.step h (hw w (by simp))
    obtain ⟨hs, B', r, h'⟩ := RunR.ex D ws B1 h1 fun x hx => hw x (by simp [hx])
    exact ⟨hit :: hs, B', .cons (hw w (by simp)) es fa r, h'⟩
theorem RunR.len {rig : PyData} {B B' : Bs} {ws : List Str} {hs : List Bool} (r : RunR rig B ws hs B') : hs.length = ws.length := by
  induction r with
  | nil => rfl
  | cons _ _ _ _ ih => simp [ih]
/-- the boxes on the way -/
theorem RunR.seq {rig : PyData} {B B' : Bs} {ws : List Str} {hs : List Bool} (r : RunR rig B ws hs B') : ∃ b : Nat → Bs, b 0 = B ∧ ∀ t w, ws[t]? = some w → ∃ h, hs[t]? = some h ∧ FaB w (b t) (b (t + 1)) h := by
  induction r with
  | nil B => exact ⟨fun _ => B, rfl, fun t w h => by simp at h⟩
  | @cons B B1 B2 w hit ws hs _ _ fa _ ih =>
    obtain ⟨b, b0, bs⟩ := ih
    refine ⟨fun t => match t with | 0 => B | t + 1 => b t, rfl, fun t x hx => ?_⟩
    cases t with
    | zero =>
      rw [List.getElem?_cons_zero] at hx
      cases hx
      refine ⟨hit, rfl, ?_⟩
      show FaB w B (b 0) hit
      rw [b0]
      exact fa
    | succ t =>
      rw [List.getElem?_cons_succ] at hx
      obtain ⟨h, e, f⟩ := bs t x hx
      exact ⟨h, by rw [List.getElem?_cons_succ]; exact e, f⟩
end K77
namespace DL
open PySem PySem.Spec PyProof.Rows L2 GX StX
abbrev bls (bs : List Bool) : List PyData := bs.map PyData.bool
end DL
namespace K77
open PySem PySem.Spec PyProof.Rows L2 GX StX DL BX
def gAns : SF := fSq (fAsg (fCa 4 F_serve (aCons (gVar 0) (aCons (gVar 3) (aCons (gVar 4) (aCons (gVar 5) aNil))))) (tTupT 3 [(tName 6), (tName 3), (tName 4)])) (fSq (fApp 2 (fVar 6)) fNx)
theorem RunR.ansL {rig : PyData} {B B' : Bs} {ws : List Str} {hs : List Bool} (r : RunR rig B ws hs B') (his : Sl) : ∀ (acc : List Bool) (s5 s6 : Sl), acc.length + ws.length ≤ 2000 → ∃ t5 t6, fLoop (tName 5) gAns (ws.map .str) [.dat rig, his, .own false (.l (bls acc)), .dat (stB B), .dat (ctB B), s5, s6] = some (.nx [.dat rig, his, .own false (.l (bls (acc ++ hs))), .dat (stB B'), .dat (ctB B'), t5, t6]) := by
  induction r with
  | nil => exact fun acc s5 s6 _ => ⟨s5, s6, by rw [List.append_nil]; rfl⟩
  | @cons B B1 B2 w hit ws hs _ es _ _ ih =>
    intro acc s5 s6 hl
    obtain ⟨t5, t6, e2⟩ := ih (acc ++ [hit]) (.dat (.str w)) (.dat (.bool hit)) (by simp only [List.length_append, List.length_cons, List.length_nil] at hl ⊢; omega)
    refine ⟨t5, t6, ?_⟩
    have turn : gAns [.dat rig, his, .own false (.l (bls acc)), .dat (stB B), .dat (ctB B), .dat (.str w), s6] = some (.nx [.dat rig, his, .own false (.l (bls acc ++ [.bool hit])), .dat (stB B1), .dat (ctB B1), .dat (.str w), .dat (.bool hit)]) := by
      have ff : fits ((bls acc).length + 1) = true := by
        unfold bls
        rw [List.length_map]
        simp only [List.length_cons] at hl
        exact decide_eq_true (by omega)
      generalize bls acc = A at ff ⊢
      simp [gAns, es, ff]
    rw [List.map_cons, q_loop_c]
    simp only [q_tName, List.set_cons_succ, List.set_cons_zero, turn]
    have eb : bls acc ++ [PyData.bool hit] = bls (acc ++ [hit]) := by simp [bls]
    rw [eb]
    have er : acc ++ hit :: hs = acc ++ [hit] ++ hs := by simp
    rw [er]
    exact e2
theorem RunR.ans {rig : PyData} {B B' : Bs} {ws : List Str} {hs : List Bool} (r : RunR rig B ws hs B') (hl : ws.length ≤ 2000) (chk : F_checkdevice [.dat rig] = some (.none, [.un])) (his : F_checkhistory [.dat (.tuple (ws.map .str))] = some (.none, [.un])) (st : F_startof [.dat rig] = some (placeD B, [.un])) :
    F_answers [.dat rig, .dat (.tuple (ws.map .str))] = some (.tuple (bls hs), [.un, .un]) := by
  obtain ⟨t5, t6, e4⟩ := r.ansL (.dat (.tuple (ws.map .str))) [] .un .un (by simpa using hl)
  rw [List.nil_append] at e4
  have f0 : fits 0 = true := by decide
  have z : g_answers = fSq (fDrop (fCa 1 F_checkdevice (aCons (gVar 0) aNil))) (fSq (fDrop (fCa 1 F_checkhistory (aCons (gVar 1) aNil))) (fSq (fHold 2 (lLst lNil)) (fSq (fAsg (fCa 1 F_startof (aCons (gVar 0) aNil)) (tTupT 2 [(tName 3), (tName 4)]))
    (fSq (fFor (iSeq (fVar 1)) (tName 5) gAns) (fSq (fRet (fCl tupleD (aCons (gVar 2) aNil))) fNx))))) := rfl
  have eb : (bls []) = ([] : List PyData) := rfl
  rw [eb] at e4
  unfold placeD at st
  generalize bls hs = A at e4 ⊢
  simp [F_answers, z, chk, his, st, e4, f0, List.range, List.range.loop]
inductive Rig : PyData → Nat → Prop
  | one {n : Int} {rows : List PyData} : TabIs n rows → Rig (D1 n rows) n.toNat
  | two {mode : Str} {n m : Int} {rows rows' : List PyData} : TabIs n rows → TabIs m rows' → mode ∈ modes → n + m ≤ 4 → Rig (Dv mode n m rows rows') (n + m).toNat
theorem Rig.dev {rig : PyData} {N : Nat} (R : Rig rig N) : F_isdevice [.dat rig] = some (.bool true, [.un]) := by
  cases R with
  | one t => exact m_dev1 t.tab
  | two t t' hm _ => exact m_dev hm t.tab t'.tab
theorem Rig.chk {rig : PyData} {N : Nat} (R : Rig rig N) : F_checkdevice [.dat rig] = some (.none, [.un]) := by
  cases R with
  | one t => exact m_checkdev1 t.tab
  | two t t' hm _ => exact m_checkdev hm t.tab t'.tab
theorem Rig.n1 {rig : PyData} {N : Nat} (R : Rig rig N) : 1 ≤ N ∧ N ≤ 4 := by
  cases R with
  | one t => have := t.n1; have := t.n4; omega
  | two t t' hm h => have := t.n1; have := t'.n1; omega
end K77
namespace DL
open PySem PySem.Spec PyProof.Rows L2 GX StX
theorem boolsOf_bls : ∀ bs : List Bool, boolsOf (bls bs) = some bs
  | [] => rfl
  | b :: bs => by
    show (match boolsOf (bls bs) with
      | some bs => some (b :: bs)
      | none => none) = _
    rw [boolsOf_bls bs]
theorem all_bls (bs : List Bool) : allD [.list (bls bs)] = some (.bool (bs.all id)) := by
  show (match boolsOf (bls bs) with
    | some ns => some (PyData.bool (ns.all id))
    | none => none) = _
  rw [boolsOf_bls]
def Plain (d : PyData) : Prop := d.canLay0 = true ∧ d.depth ≤ 3
theorem lay_all : ∀ {ds : List PyData}, (∀ d ∈ ds, Plain d) → PyData.canLayAll0 ds = true ∧ PyData.depthAll ds ≤ 3
  | [], _ => ⟨rfl, by simp [PyData.depthAll]⟩
  | d :: ds, h => by
    obtain ⟨h1, h2⟩ := lay_all (ds := ds) fun x hx => h x (by simp [hx])
    obtain ⟨k1, k2⟩ := h d (by simp)
    exact ⟨by simp [PyData.canLayAll0, k1, h1], by simp only [PyData.depthAll]; omega⟩
theorem sh_l {ds : List PyData} (h : ∀ d ∈ ds, Plain d) : SeqAt.shaped (.list ds) = true := by
  obtain ⟨h1, h2⟩ := lay_all h
  unfold SeqAt.shaped
  rw [Bool.and_eq_true]
  refine ⟨by simpa [PyData.canLay0] using h1, decide_eq_true ?_⟩
  simp only [PyData.depth]
  omega
theorem eqv_nil (ds : List PyData) : PyData.eqv (.list ds) (.list []) = ds.isEmpty := by
  cases ds <;> simp [PyData.eqv, PyData.eqvAll]
theorem ne_nil {ds : List PyData} (h : ∀ d ∈ ds, Plain d) : neD (.list ds) (.list []) = some (.bool (!ds.isEmpty)) := by
  have a := sh_l h
  have b : SeqAt.shaped (.list []) = true := by decide
  show (if (SeqAt.shaped (.list ds) && SeqAt.shaped (.list [])) = true then some (PyData.bool (!PyData.eqv (.list ds) (.list []))) else none) = _
  rw [a, b, eqv_nil]
  rfl
theorem plain_int (i : Int) : Plain (.int i) := ⟨rfl, by simp [PyData.depth]⟩
theorem isNon_oN (o : Option Nat) : isNon (K77.oN o) = o.isNone := by cases o <;> rfl
theorem isNot_at (d : PyData) : isNotD d .none = some (.bool (!isNon d)) := rfl
theorem rangeD_map (n : Nat) : rangeD 0 n = (List.range n).map fun i => PyData.int ((i : Nat) : Int) := by
  unfold rangeD
  congr 1
  funext i
  simp
/-- a comprehension with no condition -/
theorem comp_all {α : Type} {it : LF} {ks : List Nat} {t : GT} {f : EF} (g h : α → PyData) {ρ ρ1 : Rho} (xs : List α) (hi : it ρ = some (xs.map g, ρ1)) (hw : wipeR ρ1 ks = ρ) (st : ∀ x ∈ xs, ∃ ρ0 ρ2, t (g x) ρ = some ρ0 ∧ f ρ0 = some (h x, ρ2) ∧ wipeR ρ2 ks = ρ) (hz : xs.length ≤ 1000000) :
    fComp it ks t fYes f ρ = some (xs.map h, ρ) := by
  rw [q_fComp, hi]
  dsimp only
  rw [hw]
  have z := K77.comp_gen (ks := ks) (t := t) (c := fYes) (f := f) g (fun _ => true) h (ρ := ρ) xs [] (fun x hx => by
    obtain ⟨ρ0, ρ2, e0, e1, w⟩ := st x hx
    exact ⟨ρ0, ρ0, e0, rfl, fun _ => ⟨ρ2, e1, w⟩, fun c => nomatch c⟩) (by simpa using hz)
  rw [z, List.filter_eq_self.mpr (fun _ _ => rfl), List.nil_append]
/-- a comprehension with a condition -/
theorem comp_if {α : Type} {it : LF} {ks : List Nat} {t : GT} {c : TF} {f : EF} (g : α → PyData) (p : α → Bool) (h : α → PyData) {ρ ρ1 : Rho} (xs : List α) (hi : it ρ = some (xs.map g, ρ1)) (hw : wipeR ρ1 ks = ρ) (st : ∀ x ∈ xs, ∃ ρ0, t (g x) ρ = some ρ0 ∧ c ρ0 = some (p x, ρ0) ∧ (p x = true → f ρ0 = some (h x, ρ0)) ∧ wipeR ρ0 ks = ρ) (hz : xs.length ≤ 1000000) :
    fComp it ks t c f ρ = some ((xs.filter p).map h, ρ) := by
  rw [q_fComp, hi]
  dsimp only
  rw [hw]
  have z := K77.comp_gen (ks := ks) (t := t) (c := c) (f := f) g p h (ρ := ρ) xs [] (fun x hx => by
    obtain ⟨ρ0, e0, e1, e2, w⟩ := st x hx
    exact ⟨ρ0, ρ0, e0, e1, fun q => ⟨ρ0, e2 q, w⟩, fun _ => w⟩) (by simpa using hz)
  rw [z]
  simp
end DL
namespace K77
open PySem PySem.Spec PyProof.Rows L2 GX StX DL
abbrev iLen : LF := iRange1 (lCons (fCl lenD (aCons (gVar 0) aNil)) lNil)
theorem rng_len {L : List Str} (hl : L.length ≤ 1000) {tl : Rho} : iLen (.dat (rowD L) :: tl) = some ((List.range L.length).map (fun i => PyData.int ((i : Nat) : Int)), .dat (rowD L) :: tl) := by
  have z := q_iR (f := lCons (fCl lenD (aCons (gVar 0) aNil)) lNil) (ρ := .dat (rowD L) :: tl) (ρ' := .dat (rowD L) :: tl) (j := (L.length : Int)) (by simp) (small62_le (by omega) (by omega))
  rw [Int.toNat_natCast, rangeD_map] at z
  exact z
theorem atB {bs : List Bool} {i : Nat} (h : i < bs.length) : atI (bls bs) (i : Int) = some (.bool (bs.getD i false)) := by
  rw [DL.atI_nat (by rw [List.length_map]; exact h)]
  simp [List.getD, h]
theorem atN {L : List Str} {i : Nat} (h : i < L.length) : atI (NX L) (i : Int) = some (oN (nxt L i)) := by
  rw [DL.atI_nat (by unfold NX; rw [List.length_map, List.length_range]; exact h)]
  simp [NX]
def St (L : List Str) (bs : List Bool) : List Nat := (List.range L.length).filter fun i => bs.getD i false
def ov (L : List Str) (t i : Nat) : Bool := match nxt L i with
  | some j => decide (i < t) && decide (t < j)
  | none => false
def cnt (L : List Str) (bs : List Bool) (t : Nat) : Nat := ((St L bs).filter (ov L t)).length
def allN (L : List Str) (bs : List Bool) : Bool := (St L bs).all fun i => (nxt L i).isSome
def fitsB (L : List Str) (m : Int) (bs : List Bool) : Bool := allN L bs && (List.range L.length).all fun t => decide ((cnt L bs t : Int) < m)
section
variable {L : List Str} {bs : List Bool} {m : Int} {s : Sl}
theorem St_mem {i : Nat} (h : i ∈ St L bs) : i < L.length := by
  unfold St at h
  simpa using (List.mem_filter.mp h).1
theorem St_len (hl : L.length ≤ 1000) : (St L bs).length ≤ 1000 := by
  have := List.length_filter_le (fun i => bs.getD i false) (List.range L.length)
  unfold St
  rw [List.length_range] at this
  omega
end
end K77
namespace K77
open PySem PySem.Spec PyProof.Rows L2 GX StX DL
theorem fo_spec {L : List Str} {i j : Nat} {w : Str} (h : fo L i w = some j) : i ≤ j ∧ j < L.length ∧ L[j]? = some w ∧ ∀ k, i ≤ k → k < j → L[k]? ≠ some w := by
  unfold fo at h
  rw [List.find?_eq_some_iff_getElem] at h
  obtain ⟨h1, n, hn, e, mn⟩ := h
  rw [List.getElem_range'] at e
  have hl : n < L.length - i := by simpa using hn
  refine ⟨by omega, by omega, of_decide_eq_true h1, fun k h2 h3 z => ?_⟩
  have q := mn (k - i) (by omega)
  rw [List.getElem_range'] at q
  rw [show i + 1 * (k - i) = k by omega, z] at q
  simp at q
theorem fo_none {L : List Str} {i : Nat} {w : Str} (h : fo L i w = none) : ∀ k, i ≤ k → L[k]? ≠ some w := by
  intro k hk z
  unfold fo at h
  rw [List.find?_eq_none] at h
  have hl : k < L.length := (List.getElem?_eq_some_iff.mp z).1
  have q := h k (by rw [List.mem_range']; exact ⟨k - i, by omega, by omega⟩)
  exact q (decide_eq_true z)
theorem fo_of {L : List Str} {i j : Nat} {w : Str} (h1 : i ≤ j) (h2 : L[j]? = some w) (h3 : ∀ k, i ≤ k → k < j → L[k]? ≠ some w) : fo L i w = some j := by
  cases q : fo L i w with
  | none => exact (fo_none q j h1 h2).elim
  | some j' =>
    obtain ⟨a, b, c, d⟩ := fo_spec q
    rcases Nat.lt_trichotomy j j' with z | z | z
    · exact (d j h1 z h2).elim
    · rw [z]
    · exact (h3 j' a z c).elim
theorem nxt_spec {L : List Str} {i j : Nat} (h : nxt L i = some j) : i < j ∧ j < L.length ∧ L[j]? = some (L.getD i "") ∧ ∀ k, i < k → k < j → L[k]? ≠ some (L.getD i "") := by
  obtain ⟨a, b, c, d⟩ := fo_spec h
  exact ⟨a, b, c, fun k h1 h2 => d k h1 h2⟩
theorem nxt_inj {L : List Str} {a b j : Nat} (ha : a < L.length) (hb : b < L.length) (h1 : nxt L a = some j) (h2 : nxt L b = some j) : a = b := by
  obtain ⟨a1, a2, a3, a4⟩ := nxt_spec h1
  obtain ⟨b1, b2, b3, b4⟩ := nxt_spec h2
  have e : L.getD a "" = L.getD b "" := by
    rw [a3] at b3
    exact Option.some.inj b3
  rcases Nat.lt_trichotomy a b with z | z | z
  · exact (a4 b z b1 (by rw [e]; exact getD_at hb)).elim
  · exact z
  · exact (b4 a z a1 (by rw [← e]; exact getD_at ha)).elim
/-- what ends at t, and later -/
def endAt (L : List Str) (t s : Nat) : Bool := decide (nxt L s = some t)
def past (L : List Str) (t s : Nat) : Bool := match nxt L s with
  | some j => decide (t < j)
  | none => false
def ended (L : List Str) (σ s : Nat) : Bool := match nxt L s with
  | some j => decide (j ≤ σ)
  | none => false
def kys (L : List Str) (o : List Nat) : List Int := o.map fun s => (((nxt L s).getD 0 : Nat) : Int)
def drop1 (L : List Str) (o : List Nat) : List Nat := match o[bestK (kys L o)]? with
  | some s => o.erase s
  | none => o
def o2 (L : List Str) (t : Nat) (o : List Nat) : List Nat := o.filter (past L t)
def o3 (L : List Str) (m t : Nat) (o : List Nat) : List Nat := if (o2 L t o).length = m then drop1 L (o2 L t o) else o2 L t o
def o4 (L : List Str) (m t : Nat) (o : List Nat) : List Nat := if (nxt L t).isSome then o3 L m t o ++ [t] else o3 L m t o
def run (L : List Str) (m : Nat) : Nat → List Nat × List Nat
  | 0 => ([], [])
  | t + 1 => ((run L m t).1 ++ (run L m t).2.filter (endAt L t), o4 L m t (run L m t).2)
/-- the first of the greatest -/
theorem arg_best {ks : List Int} : ∀ n, n < ks.length → argBest (btK ks) n ≤ n ∧ ∀ i, i ≤ n → ks.getD i 0 ≤ ks.getD (argBest (btK ks) n) 0
  | 0, _ => ⟨Nat.le_refl _, fun i hi => by rw [Nat.le_zero.mp hi]; exact Int.le_refl _⟩
  | n + 1, h => by
    obtain ⟨a, b⟩ := arg_best (ks := ks) n (by omega)
    unfold argBest
    by_cases c : ks.getD (n + 1) 0 > ks.getD (argBest (btK ks) n) 0
    · rw [if_pos (show btK ks (n + 1) (argBest (btK ks) n) = true from decide_eq_true c)]
      refine ⟨Nat.le_refl _, fun i hi => ?_⟩
      rcases Nat.lt_or_ge i (n + 1) with z | z
      · have := b i (by omega)
        omega
      · rw [show i = n + 1 by omega]
        exact Int.le_refl _
    · rw [if_neg (show ¬ btK ks (n + 1) (argBest (btK ks) n) = true from fun z => c (of_decide_eq_true z))]
      refine ⟨by omega, fun i hi => ?_⟩
      rcases Nat.lt_or_ge i (n + 1) with z | z
      · exact b i (by omega)
      · rw [show i = n + 1 by omega]
        omega
theorem best_lt {ks : List Int} (h : 0 < ks.length) : bestK ks < ks.length := by
  have := (arg_best (ks := ks) (ks.length - 1) (by omega)).1
  unfold bestK
  omega
theorem best_top {ks : List Int} {i : Nat} (h : i < ks.length) : ks.getD i 0 ≤ ks.getD (bestK ks) 0 := (arg_best (ks := ks) (ks.length - 1) (by omega)).2 i (by omega)
theorem kys_at {L : List Str} {o : List Nat} {i : Nat} (h : i < o.length) : (kys L o).getD i 0 = (((nxt L o[i]).getD 0 : Nat) : Int) := by
  unfold kys
  simp [List.getD, h]
/-- whom it lets go -/
theorem drop_is {L : List Str} {o : List Nat} (h : 0 < o.length) : ∃ s, s ∈ o ∧ drop1 L o = o.erase s ∧ o[bestK (kys L o)]? = some s ∧ ∀ x ∈ o, (nxt L x).getD 0 ≤ (nxt L s).getD 0 := by
  have hl : (kys L o).length = o.length := by simp [kys]
  have hb : bestK (kys L o) < o.length := by rw [← hl]; exact best_lt (by rw [hl]; exact h)
  refine ⟨o[bestK (kys L o)], List.getElem_mem hb, ?_, List.getElem?_eq_getElem hb, fun x hx => ?_⟩
  · unfold drop1
    rw [List.getElem?_eq_getElem hb]
  · obtain ⟨i, hi, rfl⟩ := List.getElem_of_mem hx
    have := best_top (ks := kys L o) (i := i) (by rw [hl]; exact hi)
    rw [kys_at hi, kys_at hb] at this
    omega
end K77
namespace K77
open PySem PySem.Spec PyProof.Rows L2 GX StX DL
section
variable {α : Type}
theorem cp_split {p r q : α → Bool} : ∀ {l : List α}, (∀ s ∈ l, p s = !r s) → l.countP q = (l.filter r).countP q + (l.filter p).countP q
  | [], _ => rfl
  | a :: l, h => by
    have ih := cp_split (q := q) (l := l) fun s hs => h s (List.mem_cons_of_mem _ hs)
    have ha := h a List.mem_cons_self
    cases hr : r a
    · rw [hr] at ha
      rw [List.filter_cons_of_neg (by simp [hr]), List.filter_cons_of_pos ha, List.countP_cons, List.countP_cons, ih]
      omega
    · rw [hr] at ha
      rw [List.filter_cons_of_pos hr, List.filter_cons_of_neg (by simp [ha]), List.countP_cons, List.countP_cons, ih]
      omega
theorem cp_or {p r q : α → Bool} : ∀ {l : List α}, (∀ s ∈ l, q s = true → p s = true ∨ r s = true) → l.countP q ≤ l.countP p + l.countP r
  | [], _ => Nat.le_refl _
  | a :: l, h => by
    have ih := cp_or (l := l) fun s hs => h s (List.mem_cons_of_mem _ hs)
    have ha := h a List.mem_cons_self
    rw [List.countP_cons, List.countP_cons, List.countP_cons]
    by_cases c : q a = true
    · rcases ha c with z | z
      · rw [if_pos c, if_pos z]
        split <;> omega
      · rw [if_pos c, if_pos z]
        split <;> omega
    · rw [if_neg c]
      split <;> split <;> omega
theorem cp_zero {q : α → Bool} {l : List α} (h : ∀ s ∈ l, q s = false) : l.countP q = 0 := by
  rw [List.countP_eq_zero]
  intro s hs
  simp [h s hs]
theorem cp_all {q : α → Bool} {l : List α} (h : ∀ s ∈ l, q s = true) : l.countP q = l.length := by
  rw [List.countP_eq_length]
  exact h
end
theorem cp_one {t : Nat} : ∀ {l : List Nat}, l.Nodup → l.countP (fun i => decide (i = t)) ≤ 1
  | [], _ => by simp
  | a :: l, h => by
    rw [List.nodup_cons] at h
    rw [List.countP_cons]
    by_cases c : a = t
    · subst c
      rw [cp_zero (q := fun i => decide (i = a)) fun s hs => decide_eq_false fun (z : s = a) => h.1 (by rw [← z]; exact hs)]
      simp
    · have := cp_one (t := t) h.2
      simp [c]
      exact this
structure GI (L : List Str) (m t : Nat) (k o : List Nat) : Prop where
  ho : ∀ s ∈ o, s < t ∧ ∃ j, nxt L s = some j ∧ t ≤ j
  hk : ∀ s ∈ k, s < t ∧ ∃ j, nxt L s = some j ∧ j < t
  no : o.Nodup
  nk : k.Nodup
  lo : o.length ≤ m
  fe : ∀ τ, τ < t → (k ++ o).countP (ov L τ) < m
  op : ∀ bs, fitsB L m bs = true → ∀ σ, t ≤ σ → (St L bs).countP (fun i => decide (i < t) && ended L σ i) ≤ (k ++ o).countP (ended L σ)
section
variable {L : List Str} {m t : Nat} {k o : List Nat}
theorem St_nodup (L : List Str) (bs : List Bool) : (St L bs).Nodup := List.Nodup.sublist List.filter_sublist List.nodup_range
theorem in_o2 {s : Nat} (h : s ∈ o2 L t o) : s ∈ o ∧ ∃ j, nxt L s = some j ∧ t < j := by
  obtain ⟨h1, h2⟩ := List.mem_filter.mp h
  refine ⟨h1, ?_⟩
  unfold past at h2
  split at h2
  · rename_i j e
    exact ⟨j, e, of_decide_eq_true h2⟩
  · cases h2
/-- behind the dropping -/
theorem o3_is (g : GI L m t k o) (m1 : 1 ≤ m) : (∀ s ∈ o3 L m t o, s ∈ o2 L t o) ∧ (o3 L m t o).Nodup ∧ (o3 L m t o).length < m ∧ (∀ q : Nat → Bool, (o3 L m t o).countP q ≤ (o2 L t o).countP q) ∧
    (o3 L m t o = o2 L t o ∨ ((o2 L t o).length = m ∧ ∃ s, s ∈ o2 L t o ∧ o3 L m t o = (o2 L t o).erase s ∧ ∀ x ∈ o2 L t o, (nxt L x).getD 0 ≤ (nxt L s).getD 0)) := by
  have n2 : (o2 L t o).Nodup := List.Nodup.sublist List.filter_sublist g.no
  have l2 : (o2 L t o).length ≤ m := Nat.le_trans (List.length_filter_le _ _) g.lo
  unfold o3
  by_cases c : (o2 L t o).length = m
  · rw [if_pos c]
    obtain ⟨s, hs, e, _, top⟩ := drop_is (L := L) (o := o2 L t o) (by omega)
    rw [e]
    have le := List.length_erase_of_mem hs
    refine ⟨fun x hx => List.mem_of_mem_erase hx, n2.erase s, by omega, fun q => ?_, .inr ⟨c, s, hs, rfl, top⟩⟩
    exact List.Sublist.countP_le List.erase_sublist
  · rw [if_neg c]
    exact ⟨fun _ h => h, n2, by omega, fun _ => Nat.le_refl _, .inl rfl⟩
theorem o4_count {q : Nat → Bool} : (o4 L m t o).countP q = (o3 L m t o).countP q + (if (nxt L t).isSome = true ∧ q t = true then 1 else 0) := by
  unfold o4
  by_cases c : (nxt L t).isSome = true
  · rw [if_pos c, List.countP_append]
    congr 1
    simp [List.countP_cons, c]
  · rw [if_neg c, if_neg (fun z => c z.1)]
    rfl
theorem ended_none {σ : Nat} (h : (nxt L t).isSome = false) : ended L σ t = false := by
  unfold ended
  cases e : nxt L t with
  | none => rfl
  | some j => rw [e] at h; cases h
theorem gi_step (ht : t < L.length) (m1 : 1 ≤ m) (g : GI L m t k o) : GI L m (t + 1) (k ++ o.filter (endAt L t)) (o4 L m t o) := by
  have pe : ∀ s ∈ o, past L t s = !endAt L t s := fun s hs => by
    obtain ⟨_, j, e, h⟩ := g.ho s hs
    unfold past endAt
    rw [e]
    by_cases c : j = t
    · subst c; simp
    · have : t < j := by omega
      simp [this, c]
  have split : ∀ q : Nat → Bool, o.countP q = (o.filter (endAt L t)).countP q + (o2 L t o).countP q := fun q => cp_split pe
  have m1' : ∀ s ∈ o.filter (endAt L t), s < t ∧ nxt L s = some t := fun s hs => by
    obtain ⟨h1, h2⟩ := List.mem_filter.mp hs
    exact ⟨(g.ho s h1).1, of_decide_eq_true h2⟩
  obtain ⟨q1, q2, q3, q4, q5⟩ := o3_is g m1
  have m3 : ∀ s ∈ o3 L m t o, s < t ∧ ∃ j, nxt L s = some j ∧ t < j := fun s hs => by
    obtain ⟨h1, h2⟩ := in_o2 (q1 s hs)
    exact ⟨(g.ho s h1).1, h2⟩
  have mt : (nxt L t).isSome = true → ∃ j, nxt L t = some j ∧ t < j := fun h => by
    obtain ⟨j, e⟩ := Option.isSome_iff_exists.mp h
    exact ⟨j, e, (nxt_spec e).1⟩
  have m4 : ∀ s ∈ o4 L m t o, s ∈ o3 L m t o ∨ (s = t ∧ (nxt L t).isSome = true) := fun s hs => by
    unfold o4 at hs
    split at hs
    · rename_i c
      rcases List.mem_append.mp hs with h | h
      · exact .inl h
      · exact .inr ⟨List.mem_singleton.mp h, c⟩
    · exact .inl hs
  refine ⟨fun s hs => ?_, fun s hs => ?_, ?_, ?_, ?_, fun τ hτ => ?_, fun bs hf σ hσ => ?_⟩
  · rcases m4 s hs with h | ⟨rfl, h⟩
    · obtain ⟨a, j, e, b⟩ := m3 s h
      exact ⟨by omega, j, e, b⟩
    · obtain ⟨j, e, b⟩ := mt h
      exact ⟨by omega, j, e, b⟩
  · rcases List.mem_append.mp hs with h | h
    · obtain ⟨a, j, e, b⟩ := g.hk s h
      exact ⟨by omega, j, e, by omega⟩
    · obtain ⟨a, e⟩ := m1' s h
      exact ⟨by omega, t, e, by omega⟩
  · unfold o4
    split
    · refine List.nodup_append.mpr ⟨q2, by simp, fun a ha b hb z => ?_⟩
      have := (m3 a ha).1
      rw [List.mem_singleton] at hb
      omega
    · exact q2
  · refine List.nodup_append.mpr ⟨g.nk, List.Nodup.sublist List.filter_sublist g.no, fun a ha b hb z => ?_⟩
    subst z
    obtain ⟨_, j, e, h⟩ := g.hk a ha
    obtain ⟨_, e2⟩ := m1' a hb
    rw [e] at e2
    cases e2
    omega
  · unfold o4
    split
    · rw [List.length_append, List.length_singleton]
      omega
    · omega
  · have f3 : (o4 L m t o).countP (ov L τ) = (o3 L m t o).countP (ov L τ) := by
      rw [o4_count, if_neg]
      · rfl
      · rintro ⟨_, z⟩
        unfold ov at z
        split at z
        · simp only [Bool.and_eq_true, decide_eq_true_eq] at z
          omega
        · cases z
    rw [List.countP_append, List.countP_append, f3]
    by_cases c : τ = t
    · subst c
      have z1 : k.countP (ov L τ) = 0 := cp_zero fun s hs => by
        obtain ⟨_, j, e, h⟩ := g.hk s hs
        unfold ov
        rw [e]
        simp
        omega
      have z2 : (o.filter (endAt L τ)).countP (ov L τ) = 0 := cp_zero fun s hs => by
        obtain ⟨_, e⟩ := m1' s hs
        unfold ov
        rw [e]
        simp
      have z3 : (o3 L m τ o).countP (ov L τ) ≤ (o3 L m τ o).length := List.countP_le_length
      omega
    · have f := g.fe τ (by omega)
      rw [List.countP_append, split] at f
      have := q4 (ov L τ)
      omega
  · have key : (St L bs).countP (fun i => decide (i < t) && ended L σ i) ≤ k.countP (ended L σ) + (o.filter (endAt L t)).countP (ended L σ) + (o3 L m t o).countP (ended L σ) := by
      have ih := g.op bs hf σ (by omega)
      rw [List.countP_append, split] at ih
      rcases q5 with c | ⟨c, s, hs, e3, top⟩
      · rw [c]
        omega
      · have pm := (List.perm_cons_erase hs).countP_eq (ended L σ)
        rw [List.countP_cons, ← e3] at pm
        by_cases d : ended L σ s = true
        · rw [if_pos d] at pm
          obtain ⟨hs1, E, eE, hE⟩ := in_o2 hs
          have dE : E ≤ σ := by
            unfold ended at d
            rw [eE] at d
            exact of_decide_eq_true d
          have a2 : (o2 L t o).countP (ended L σ) = (o2 L t o).length := cp_all fun x hx => by
            obtain ⟨_, j, e, _⟩ := in_o2 hx
            have := top x hx
            rw [e, eE] at this
            unfold ended
            rw [e]
            exact decide_eq_true (Nat.le_trans this dE)
          have ak : k.countP (ended L σ) = k.length := cp_all fun x hx => by
            obtain ⟨_, j, e, h⟩ := g.hk x hx
            unfold ended
            rw [e]
            exact decide_eq_true (by omega)
          have a1 : (o.filter (endAt L t)).countP (ended L σ) = (o.filter (endAt L t)).length := cp_all fun x hx => by
            obtain ⟨_, e⟩ := m1' x hx
            unfold ended
            rw [e]
            exact decide_eq_true (by omega)
          have le1 : (St L bs).countP (fun i => decide (i < t) && ended L σ i) ≤ (St L bs).countP (fun i => decide (i < t) && ended L t i) + (St L bs).countP (ov L t) := cp_or fun x hx hq => by
            rw [Bool.and_eq_true] at hq
            obtain ⟨h1, h2⟩ := hq
            unfold ended at h2 ⊢
            unfold ov
            cases e : nxt L x with
            | none => rw [e] at h2; cases h2
            | some j =>
              by_cases c2 : j ≤ t
              · left
                simp [h1, c2]
              · right
                have := of_decide_eq_true h1
                simp only [Bool.and_eq_true, decide_eq_true_eq]
                omega
          have le2 : (St L bs).countP (ov L t) < m := by
            unfold fitsB at hf
            rw [Bool.and_eq_true] at hf
            have := List.all_eq_true.mp hf.2 t (List.mem_range.mpr ht)
            have := of_decide_eq_true this
            unfold cnt at this
            rw [← List.countP_eq_length_filter] at this
            omega
          have le3 := g.op bs hf t (Nat.le_refl _)
          rw [List.countP_append, split] at le3
          have z2 : (o2 L t o).countP (ended L t) = 0 := cp_zero fun x hx => by
            obtain ⟨_, j, e, h⟩ := in_o2 hx
            unfold ended
            rw [e]
            exact decide_eq_false (by omega)
          have l1 : k.countP (ended L t) ≤ k.length := List.countP_le_length
          have l2 : (o.filter (endAt L t)).countP (ended L t) ≤ (o.filter (endAt L t)).length := List.countP_le_length
          omega
        · rw [if_neg d] at pm
          omega
    have le : (St L bs).countP (fun i => decide (i < t + 1) && ended L σ i) ≤ (St L bs).countP (fun i => decide (i < t) && ended L σ i) + (St L bs).countP (fun i => decide (i = t) && ended L σ i) := cp_or fun x _ hq => by
      rw [Bool.and_eq_true] at hq
      obtain ⟨h1, h2⟩ := hq
      have h1 := of_decide_eq_true h1
      rcases Nat.lt_or_ge x t with z | z
      · left
        simp [z, h2]
      · right
        simp [show x = t by omega]
        rw [show t = x by omega]
        exact h2
    have one : (St L bs).countP (fun i => decide (i = t) && ended L σ i) ≤ if ended L σ t = true then 1 else 0 := by
      split
      · refine Nat.le_trans ?_ (cp_one (t := t) (St_nodup L bs))
        refine List.countP_mono_left fun x _ hx => ?_
        rw [Bool.and_eq_true] at hx
        exact hx.1
      · rename_i d
        rw [cp_zero fun x _ => ?_]
        exact Nat.le_refl _
        by_cases c : x = t
        · subst c
          simp [show ended L σ x = false by simpa using d]
        · simp [c]
    rw [List.countP_append, List.countP_append, o4_count]
    have e1 : (if (nxt L t).isSome = true ∧ ended L σ t = true then 1 else 0) = if ended L σ t = true then 1 else 0 := by
      by_cases c : (nxt L t).isSome = true
      · simp [c]
      · have := ended_none (L := L) (t := t) (σ := σ) (by simpa using c)
        simp [this]
    omega
theorem gi_run (m1 : 1 ≤ m) : ∀ t, t ≤ L.length → GI L m t (run L m t).1 (run L m t).2
  | 0, _ => ⟨fun s h => by simp [run] at h, fun s h => by simp [run] at h, by simp [run], by simp [run], by simp [run], fun τ h => by omega, fun bs hf σ _ => by
      rw [cp_zero fun x _ => by simp]
      exact Nat.zero_le _⟩
  | t + 1, h => gi_step (by omega) m1 (gi_run m1 t (by omega))
end
end K77
namespace K77
open PySem PySem.Spec PyProof.Rows L2 GX StX DL
def kp (L : List Str) (m : Nat) : List Nat := (run L m L.length).1
def GN (L : List Str) (m : Nat) : Nat := (kp L m).length
def gB (L : List Str) (m : Nat) : List Bool := (List.range L.length).map fun i => decide (i ∈ kp L m)
section
variable {L : List Str} {m : Nat}
theorem gB_len : (gB L m).length = L.length := by simp [gB]
theorem gB_at {i : Nat} (h : i < L.length) : (gB L m).getD i false = decide (i ∈ kp L m) := by simp [gB, List.getD, h]
theorem end_empty (m1 : 1 ≤ m) : (run L m L.length).2 = [] := by
  have g := gi_run (L := L) m1 L.length (Nat.le_refl _)
  cases e : (run L m L.length).2 with
  | nil => rfl
  | cons s r =>
    obtain ⟨_, j, ej, h⟩ := g.ho s (by rw [e]; exact List.mem_cons_self)
    have := (nxt_spec ej).2.1
    omega
theorem St_gB (m1 : 1 ≤ m) : (St L (gB L m)).Perm (kp L m) := by
  have g := gi_run (L := L) m1 L.length (Nat.le_refl _)
  refine (List.perm_ext_iff_of_nodup (St_nodup _ _) g.nk).mpr fun a => ?_
  unfold St
  rw [List.mem_filter, List.mem_range]
  constructor
  · rintro ⟨h1, h2⟩
    rw [gB_at h1] at h2
    exact of_decide_eq_true h2
  · intro h
    have h1 := (g.hk a h).1
    rw [gB_at h1]
    exact ⟨h1, decide_eq_true h⟩
theorem g_fits (m1 : 1 ≤ m) : fitsB L m (gB L m) = true := by
  have g := gi_run (L := L) m1 L.length (Nat.le_refl _)
  have p := St_gB (L := L) m1
  have ee := end_empty (L := L) m1
  unfold fitsB
  rw [Bool.and_eq_true]
  constructor
  · unfold allN
    rw [List.all_eq_true]
    intro x hx
    obtain ⟨_, j, e, _⟩ := g.hk x (p.mem_iff.mp hx)
    rw [e]
    rfl
  · rw [List.all_eq_true]
    intro t ht
    rw [List.mem_range] at ht
    refine decide_eq_true ?_
    have f := g.fe t ht
    rw [ee, List.append_nil] at f
    unfold cnt
    rw [← List.countP_eq_length_filter, p.countP_eq]
    exact Int.ofNat_lt.mpr f
/-- no way that fits keeps more -/
theorem g_best (m1 : 1 ≤ m) {bs : List Bool} (h : fitsB L m bs = true) : (St L bs).length ≤ GN L m := by
  have g := gi_run (L := L) m1 L.length (Nat.le_refl _)
  have f := g.op bs h L.length (Nat.le_refl _)
  rw [end_empty m1, List.append_nil] at f
  have a : (St L bs).countP (fun i => decide (i < L.length) && ended L L.length i) = (St L bs).length := cp_all fun s hs => by
    have h1 := St_mem hs
    unfold fitsB at h
    rw [Bool.and_eq_true] at h
    have h2 := List.all_eq_true.mp h.1 s hs
    obtain ⟨j, e⟩ := Option.isSome_iff_exists.mp h2
    have := (nxt_spec e).2.1
    unfold ended
    rw [e]
    simp only [Bool.and_eq_true, decide_eq_true_eq]
    omega
  have b : (run L m L.length).1.countP (ended L L.length) ≤ (run L m L.length).1.length := List.countP_le_length
  unfold GN kp
  omega
theorem GN_le (m1 : 1 ≤ m) : GN L m ≤ L.length := by
  have p := (St_gB (L := L) m1).length_eq
  have q : (St L (gB L m)).length ≤ L.length := by
    have := List.length_filter_le (fun i => (gB L m).getD i false) (List.range L.length)
    rw [List.length_range] at this
    exact this
  unfold GN
  omega
end
theorem count_St : ∀ (bs : List Bool), bs.countP (fun b => b) = ((List.range bs.length).filter fun i => bs.getD i false).length
  | [] => rfl
  | b :: bs => by
    rw [List.length_cons, List.range_succ_eq_map, List.filter_cons, List.countP_cons, count_St bs, List.filter_map, ]
    cases b <;> simp [Function.comp_def]
theorem count_t {L : List Str} {bs : List Bool} (h : bs.length = L.length) : bs.countP (fun b => b) = (St L bs).length := by
  rw [count_St bs, h]
  rfl
theorem count_f : ∀ bs : List Bool, bs.countP (fun b => !b) = bs.length - bs.countP (fun b => b)
  | [] => rfl
  | b :: bs => by
    have := count_f bs
    have le : bs.countP (fun b => b) ≤ bs.length := List.countP_le_length
    cases b <;> simp [List.countP_cons] at this ⊢ <;> omega
theorem gB_false {L : List Str} {m : Nat} (m1 : 1 ≤ m) : (gB L m).countP (fun b => !b) = L.length - GN L m := by
  rw [count_f, gB_len, count_t gB_len, (St_gB (L := L) m1).length_eq]
  rfl
theorem gB_true {L : List Str} {m : Nat} (m1 : 1 ≤ m) : (gB L m).countP (fun b => b) = GN L m := by
  rw [count_t gB_len, (St_gB (L := L) m1).length_eq]
  rfl
end K77
namespace K77
open PySem PySem.Spec PyProof.Rows L2 GX StX DL BX
theorem sub_len {α : Type} [DecidableEq α] : ∀ (l m : List α), l.Nodup → (∀ x ∈ l, x ∈ m) → l.length ≤ m.length
  | [], m, _, _ => Nat.zero_le _
  | x :: l, m, nd, h => by
    have n := List.nodup_cons.mp nd
    have hx : x ∈ m := h x (by simp)
    have := sub_len l (m.erase x) n.2 fun y hy => (List.mem_erase_of_ne (fun e : y = x => n.1 (by rw [e] at hy; exact hy))).mpr (h y (by simp [hy]))
    rw [List.length_erase_of_mem hx] at this
    have : 0 < m.length := List.length_pos_of_mem hx
    rw [List.length_cons]
    omega
theorem map_nod {α β : Type} {f : α → β} : ∀ {l : List α}, l.Nodup → (∀ a ∈ l, ∀ b ∈ l, f a = f b → a = b) → (l.map f).Nodup
  | [], _, _ => by simp
  | x :: l, nd, h => by
    have n := List.nodup_cons.mp nd
    rw [List.map_cons]
    refine List.nodup_cons.mpr ⟨fun hm => ?_, map_nod n.2 fun a ha b hb => h a (by simp [ha]) b (by simp [hb])⟩
    obtain ⟨y, hy, e⟩ := List.mem_map.mp hm
    have := h y (by simp [hy]) x (by simp) e
    exact n.1 (this ▸ hy)
theorem inj_len {α β : Type} [DecidableEq β] {l : List α} {m : List β} (f : α → β) (nd : l.Nodup) (inj : ∀ a ∈ l, ∀ b ∈ l, f a = f b → a = b) (h : ∀ a ∈ l, f a ∈ m) : l.length ≤ m.length := by
  have := sub_len (l.map f) m (map_nod nd inj) fun y hy => by
    obtain ⟨a, ha, rfl⟩ := List.mem_map.mp hy
    exact h a ha
  rwa [List.length_map] at this
/-- the places that keep -/
abbrev wh (n : Nat) (p : Nat → Bool) : List Nat := (List.range n).filter p
theorem wh_nod {n : Nat} {p : Nat → Bool} : (wh n p).Nodup := List.Nodup.sublist List.filter_sublist List.nodup_range
theorem wh_mem {n : Nat} {p : Nat → Bool} {i : Nat} : i ∈ wh n p ↔ i < n ∧ p i = true := by simp [wh]
section
variable {L : List Str} {m : Nat} {p : Nat → Bool}
def bsOf (L : List Str) (p : Nat → Bool) : List Bool := (List.range L.length).map p
theorem bsOf_len : (bsOf L p).length = L.length := by simp [bsOf]
theorem bsOf_at {i : Nat} (h : i < L.length) : (bsOf L p).getD i false = p i := by simp [bsOf, List.getD, h]
theorem St_of : St L (bsOf L p) = wh L.length p := by
  unfold St wh
  refine List.filter_congr fun i hi => ?_
  exact bsOf_at (by simpa using hi)
/-- fits, as a predicate -/
structure Fit (L : List Str) (m : Nat) (p : Nat → Bool) : Prop where
  nx : ∀ i, i < L.length → p i = true → ∃ j, nxt L i = some j
  fe : ∀ t, t < L.length → (wh L.length fun i => p i && ov L t i).length < m
theorem Fit.fits (h : Fit L m p) : fitsB L m (bsOf L p) = true := by
  unfold fitsB allN cnt
  rw [St_of, Bool.and_eq_true]
  refine ⟨List.all_eq_true.mpr fun i hi => ?_, List.all_eq_true.mpr fun t ht => ?_⟩
  · have := wh_mem.mp hi
    obtain ⟨j, e⟩ := h.nx i this.1 this.2
    rw [e]; rfl
  · have q := h.fe t (by simpa using ht)
    rw [List.filter_filter]
    refine decide_eq_true ?_
    have e : ((List.range L.length).filter fun a => ov L t a && p a) = wh L.length fun i => p i && ov L t i := List.filter_congr fun i _ => Bool.and_comm _ _
    rw [e]
    omega
theorem Fit.le (m1 : 1 ≤ m) (h : Fit L m p) : (wh L.length p).length ≤ GN L m := by
  have := g_best m1 h.fits
  rwa [St_of] at this
theorem fit_g (m1 : 1 ≤ m) : ∃ p, Fit L m p ∧ (wh L.length p).length = GN L m := by
  have f := g_fits (L := L) (m := m) m1
  have q := (St_gB (L := L) m1).length_eq
  refine ⟨fun i => (gB L m).getD i false, ⟨fun i hi hp => ?_, fun t ht => ?_⟩, q⟩
  · unfold fitsB at f
    rw [Bool.and_eq_true] at f
    have := List.all_eq_true.mp f.1 i (by unfold St; simp [hi]; simpa using hp)
    exact Option.isSome_iff_exists.mp this
  · unfold fitsB at f
    rw [Bool.and_eq_true] at f
    have := of_decide_eq_true (List.all_eq_true.mp f.2 t (by simpa using ht))
    unfold cnt St at this
    rw [List.filter_filter] at this
    have e : ((List.range L.length).filter fun a => ov L t a && (gB L m).getD a false) = wh L.length fun i => (gB L m).getD i false && ov L t i := List.filter_congr fun i _ => Bool.and_comm _ _
    rw [e] at this
    omega
theorem ov_iff {t i : Nat} : ov L t i = true ↔ ∃ j, nxt L i = some j ∧ i < t ∧ t < j := by
  unfold ov
  cases e : nxt L i with
  | none => simp
  | some j => simp
/-- spans that hold a moment are of different names, none is the moment's -/
theorem ov_names {t a b : Nat} (ha : a < L.length) (hb : b < L.length) (h1 : ov L t a = true) (h2 : ov L t b = true) (e : L.getD a "" = L.getD b "") : a = b := by
  obtain ⟨j, n1, a1, a2⟩ := ov_iff.mp h1
  obtain ⟨k, n2, b1, b2⟩ := ov_iff.mp h2
  obtain ⟨_, _, _, x⟩ := nxt_spec n1
  obtain ⟨_, _, _, y⟩ := nxt_spec n2
  rcases Nat.lt_trichotomy a b with z | z | z
  · exact (x b z (by omega) (by rw [e]; exact getD_at hb)).elim
  · exact z
  · exact (y a z (by omega) (by rw [← e]; exact getD_at ha)).elim
theorem ov_self {t a : Nat} (ht : t < L.length) (h : ov L t a = true) : L.getD a "" ≠ L.getD t "" := by
  obtain ⟨j, n1, a1, a2⟩ := ov_iff.mp h
  obtain ⟨_, _, _, x⟩ := nxt_spec n1
  intro e
  exact x t a1 a2 (by rw [e]; exact getD_at ht)
end
/-- whether the next request for the name is a hit -/
def hitNx (L : List Str) (hs : List Bool) (i : Nat) : Bool := match nxt L i with
  | some j => hs.getD j false
  | none => false
section
variable {L : List Str} {hs : List Bool} {b : Nat → Bs} {N : Nat}
/-- a run, told by its boxes -/
structure Ru (L : List Str) (hs : List Bool) (N : Nat) (b : Nat → Bs) : Prop where
  st : ∀ t w, L[t]? = some w → ∃ h, hs[t]? = some h ∧ FaB w (b t) (b (t + 1)) h
  b0 : ∀ x, some x ∉ cB (b 0)
  l0 : (cB (b 0)).length = N
  ln : hs.length = L.length
theorem Ru.len (R : Ru L hs N b) : ∀ t, t ≤ L.length → (cB (b t)).length = N
  | 0, _ => R.l0
  | t + 1, h => by
    obtain ⟨_, _, f⟩ := R.st t _ (getD_at (show t < L.length by omega))
    rw [f.ln]
    exact R.len t (by omega)
theorem Ru.hit (R : Ru L hs N b) {j : Nat} (hj : j < L.length) (h : hs.getD j false = true) : some (L.getD j "") ∈ cB (b j) := by
  obtain ⟨x, e, f⟩ := R.st j _ (getD_at hj)
  have : x = true := by simpa [List.getD, e] using h
  exact f.hh this
/-- a name held at j that isn't asked for on the way was held there too -/
theorem Ru.back (R : Ru L hs N b) {x : Str} {i j : Nat} (hj : j ≤ L.length) (no : ∀ k, i < k → k < j → L.getD k "" ≠ x) (h : some x ∈ cB (b j)) : ∀ d, i + 1 + d ≤ j → some x ∈ cB (b (j - d))
  | 0, _ => h
  | d + 1, hd => by
    have q := R.back hj no h d (by omega)
    obtain ⟨y, _, f⟩ := R.st (j - (d + 1)) _ (getD_at (show j - (d + 1) < L.length by omega))
    rw [show j - (d + 1) + 1 = j - d by omega] at f
    rcases f.ne x q with z | z
    · exact z
    · exact (no (j - (d + 1)) (by omega) (by omega) z.symm).elim
theorem Ru.span (R : Ru L hs N b) {i t : Nat} (hi : hitNx L hs i = true) (ho : ov L t i = true) : some (L.getD i "") ∈ cB (b (t + 1)) := by
  obtain ⟨j, n, h1, h2⟩ := ov_iff.mp ho
  unfold hitNx at hi
  rw [n] at hi
  obtain ⟨a1, a2, a3, a4⟩ := nxt_spec n
  have e : L.getD j "" = L.getD i "" := by
    have := getD_at (L := L) a2
    rw [a3] at this
    exact (Option.some.inj this).symm
  have hh := R.hit a2 hi
  rw [e] at hh
  have := R.back (x := L.getD i "") (i := i) (Nat.le_of_lt a2) (fun k k1 k2 z => a4 k k1 k2 (by rw [← z]; exact getD_at (by omega))) hh (j - (t + 1)) (by omega)
  rwa [show j - (j - (t + 1)) = t + 1 by omega] at this
/-- what a device keeps fits its lines -/
theorem Ru.fit (R : Ru L hs N b) : Fit L N (hitNx L hs) := by
  refine ⟨fun i hi h => ?_, fun t ht => ?_⟩
  · unfold hitNx at h
    split at h
    · exact ⟨_, by assumption⟩
    · cases h
  · have z := R.len (t + 1) ht
    obtain ⟨y, _, f⟩ := R.st t _ (getD_at ht)
    have nd := wh_nod (n := L.length) (p := fun i => hitNx L hs i && ov L t i)
    have mm : ∀ i ∈ wh L.length (fun i => hitNx L hs i && ov L t i), i < L.length ∧ hitNx L hs i = true ∧ ov L t i = true := fun i hi => by
      have := wh_mem.mp hi
      rw [Bool.and_eq_true] at this
      exact this
    have n2 : (t :: wh L.length fun i => hitNx L hs i && ov L t i).Nodup := by
      refine List.nodup_cons.mpr ⟨fun h => ?_, nd⟩
      have := (mm t h).2.2
      obtain ⟨_, _, c, _⟩ := ov_iff.mp this
      omega
    have le := inj_len (m := cB (b (t + 1))) (fun i => some (L.getD i "")) n2 (fun a ha c hc e => ?_) (fun a ha => ?_)
    · rw [List.length_cons] at le
      omega
    · have e : L.getD a "" = L.getD c "" := Option.some.inj e
      rcases List.mem_cons.mp ha with rfl | ha
      · rcases List.mem_cons.mp hc with rfl | hc
        · rfl
        · exact (ov_self ht (mm _ hc).2.2 e.symm).elim
      · rcases List.mem_cons.mp hc with rfl | hc
        · exact (ov_self ht (mm _ ha).2.2 e).elim
        · exact ov_names (mm _ ha).1 (mm _ hc).1 (mm _ ha).2.2 (mm _ hc).2.2 e
    · rcases List.mem_cons.mp ha with rfl | ha
      · exact f.w_
      · exact R.span (mm _ ha).2.1 (mm _ ha).2.2
/-- the last request before j for its name -/
theorem last_req {L : List Str} {x : Str} : ∀ j : Nat, (∃ k : Nat, k < j ∧ L[k]? = some x) → ∃ i, i < j ∧ L[i]? = some x ∧ ∀ k, i < k → k < j → L[k]? ≠ some x
  | 0, ⟨k, h, _⟩ => by omega
  | j + 1, ⟨k, h, e⟩ => by
    by_cases c : L[j]? = some x
    · exact ⟨j, by omega, c, fun k h1 h2 => by omega⟩
    · obtain ⟨i, h1, h2, h3⟩ := last_req j ⟨k, by rcases Nat.lt_succ_iff_lt_or_eq.mp h with z | z; exact z; exact (c (z ▸ e)).elim, e⟩
      exact ⟨i, by omega, h2, fun k k1 k2 => by
        rcases Nat.lt_succ_iff_lt_or_eq.mp k2 with z | z
        · exact h3 k k1 z
        · exact z ▸ c⟩
theorem Ru.first (R : Ru L hs N b) : ∀ t, t ≤ L.length → ∀ x, some x ∈ cB (b t) → ∃ k, k < t ∧ L[k]? = some x
  | 0, _, x, h => (R.b0 x h).elim
  | t + 1, ht, x, h => by
    obtain ⟨y, _, f⟩ := R.st t _ (getD_at (show t < L.length by omega))
    rcases f.ne x h with z | z
    · obtain ⟨k, k1, k2⟩ := R.first t (by omega) x z
      exact ⟨k, by omega, k2⟩
    · exact ⟨t, by omega, by rw [z]; exact getD_at (by omega)⟩
/-- as many hits as are kept -/
theorem Ru.hits (R : Ru L hs N b) : (wh L.length (hitNx L hs)).length = hs.countP (fun b => b) := by
  rw [count_St, R.ln]
  have hn : ∀ i ∈ wh L.length (hitNx L hs), ∃ j, nxt L i = some j ∧ hs.getD j false = true ∧ j < L.length := fun i hi => by
    have h := (wh_mem.mp hi).2
    unfold hitNx at h
    split at h
    · rename_i j e
      exact ⟨j, e, h, (nxt_spec e).2.1⟩
    · cases h
  refine Nat.le_antisymm ?_ ?_
  · refine inj_len (fun i => (nxt L i).getD 0) wh_nod (fun a ha c hc e => ?_) fun a ha => ?_
    · obtain ⟨j, e1, _⟩ := hn a ha
      obtain ⟨k, e2, _⟩ := hn c hc
      rw [e1, e2] at e
      have e : j = k := e
      subst e
      exact nxt_inj (wh_mem.mp ha).1 (wh_mem.mp hc).1 e1 e2
    · obtain ⟨j, e1, e2, e3⟩ := hn a ha
      rw [e1]
      exact wh_mem.mpr ⟨e3, e2⟩
  · -- the request before
    have pre : ∀ j, ∃ i, j ∈ wh L.length (fun i => hs.getD i false) → i ∈ wh L.length (hitNx L hs) ∧ nxt L i = some j := fun j => by
      by_cases c : j ∈ wh L.length (fun i => hs.getD i false)
      · obtain ⟨c1, c2⟩ := wh_mem.mp c
        have h := R.hit c1 c2
        obtain ⟨i, i1, i2, i3⟩ := last_req j (R.first j (by omega) _ h)
        have e : L.getD i "" = L.getD j "" := by
          have := getD_at (L := L) (show i < L.length by omega)
          rw [i2] at this
          exact (Option.some.inj this).symm
        have n : nxt L i = some j := by
          unfold nxt
          rw [e]
          exact fo_of (by omega) (getD_at c1) fun k k1 k2 => i3 k (by omega) k2
        refine ⟨i, fun _ => ⟨wh_mem.mpr ⟨by omega, ?_⟩, n⟩⟩
        unfold hitNx
        rw [n]
        exact c2
      · exact ⟨0, fun h => (c h).elim⟩
    refine inj_len (fun j => (pre j).choose) wh_nod (fun a ha c hc e => ?_) fun a ha => ((pre a).choose_spec ha).1
    have h1 := ((pre a).choose_spec ha).2
    have h2 := ((pre c).choose_spec hc).2
    have e : (pre a).choose = (pre c).choose := e
    rw [e] at h1
    rw [h1] at h2
    exact Option.some.inj h2
end
end K77
namespace K77
open PySem PySem.Spec PyProof.Rows L2 GX StX DL BX
theorem dd_mem (x : Str) : ∀ (l a : List Str), x ∈ l.foldl (fun a x => if a.any (· == x) = true then a else a ++ [x]) a ↔ x ∈ a ∨ x ∈ l
  | [], a => by simp
  | y :: l, a => by
    rw [List.foldl_cons, dd_mem x l]
    by_cases c : a.any (· == y) = true
    · rw [if_pos c]
      obtain ⟨z, hz, e⟩ := List.any_eq_true.mp c
      have e : z = y := by simpa using e
      subst e
      constructor
      · rintro (h | h)
        · exact .inl h
        · exact .inr (List.mem_cons_of_mem _ h)
      · rintro (h | h)
        · exact .inl h
        · rcases List.mem_cons.mp h with rfl | h
          · exact .inl hz
          · exact .inr h
    · rw [if_neg c, List.mem_append, List.mem_singleton, List.mem_cons]
      constructor
      · rintro ((h | h) | h)
        · exact .inl h
        · exact .inr (.inl h)
        · exact .inr (.inr h)
      · rintro (h | h | h)
        · exact .inl (.inl h)
        · exact .inl (.inr h)
        · exact .inr h
theorem dd_nod : ∀ (l a : List Str), a.Nodup → (l.foldl (fun a x => if a.any (· == x) = true then a else a ++ [x]) a).Nodup
  | [], a, h => h
  | y :: l, a, h => by
    rw [List.foldl_cons]
    refine dd_nod l _ ?_
    by_cases c : a.any (· == y) = true
    · rw [if_pos c]; exact h
    · rw [if_neg c]
      refine List.nodup_append.mpr ⟨h, by simp, fun x hx z hz e => c ?_⟩
      rw [List.mem_singleton] at hz
      exact List.any_eq_true.mpr ⟨x, hx, by rw [e, hz]; simp⟩
theorem ddS_mem {x : Str} {L : List Str} : x ∈ ddS L ↔ x ∈ L := by
  unfold ddS
  rw [dd_mem]
  simp
theorem ddS_nod {L : List Str} : (ddS L).Nodup := dd_nod L [] (by simp)
theorem nxt_of {L : List Str} {i j : Nat} (h1 : i < j) (h2 : L[j]? = some (L.getD i "")) (h3 : ∀ k, i < k → k < j → L[k]? ≠ some (L.getD i "")) : nxt L i = some j := by
  unfold nxt
  exact fo_of (by omega) h2 fun k k1 k2 => h3 k (by omega) k2
theorem wh_or {n : Nat} {p q : Nat → Bool} : (wh n p).length = (wh n fun i => p i && q i).length + (wh n fun i => p i && !q i).length := by
  unfold wh
  generalize List.range n = l
  induction l with
  | nil => rfl
  | cons x l ih =>
    rw [List.filter_cons, List.filter_cons, List.filter_cons]
    cases p x <;> cases q x <;> simp [ih] <;> omega
theorem wh_le {n : Nat} {p q : Nat → Bool} (h : ∀ i, i < n → p i = true → q i = true) : (wh n p).length ≤ (wh n q).length :=
  sub_len _ _ wh_nod fun x hx => wh_mem.mpr ⟨(wh_mem.mp hx).1, h _ (wh_mem.mp hx).1 (wh_mem.mp hx).2⟩
theorem wh_true {n : Nat} : (wh n fun _ => true).length = n := by
  show ((List.range n).filter fun _ => true).length = n
  rw [List.filter_eq_self.mpr fun _ _ => rfl, List.length_range]
section
variable {L : List Str} {m : Nat} {p : Nat → Bool}
theorem GN_mono {m' : Nat} (m1 : 1 ≤ m) (h : m ≤ m') : GN L m ≤ GN L m' := by
  obtain ⟨p, f, e⟩ := fit_g (L := L) m1
  rw [← e]
  exact Fit.le (by omega) ⟨f.nx, fun t ht => Nat.lt_of_lt_of_le (f.fe t ht) h⟩
theorem last_names : (wh L.length fun i => (nxt L i).isNone).length = (ddS L).length := by
  have no : ∀ i k, i < k → k < L.length → nxt L i = none → L.getD k "" ≠ L.getD i "" := fun i k h1 h2 n e => fo_none n k (by omega) (by rw [← e]; exact getD_at h2)
  refine Nat.le_antisymm ?_ ?_
  · refine inj_len (fun i => L.getD i "") wh_nod (fun a ha c hc e => ?_) fun a ha => ?_
    · have a1 := wh_mem.mp ha
      have c1 := wh_mem.mp hc
      rcases Nat.lt_trichotomy a c with z | z | z
      · exact (no a c z c1.1 (by simpa using a1.2) e.symm).elim
      · exact z
      · exact (no c a z a1.1 (by simpa using c1.2) e).elim
    · have a1 := wh_mem.mp ha
      exact ddS_mem.mpr (List.mem_of_getElem? (getD_at a1.1))
  · have la : ∀ x : Str, ∃ i, x ∈ ddS L → i < L.length ∧ L.getD i "" = x ∧ nxt L i = none := fun x => by
      by_cases c : x ∈ ddS L
      · obtain ⟨k, hk⟩ := List.mem_iff_getElem?.mp (ddS_mem.mp c)
        obtain ⟨i, i1, i2, i3⟩ := last_req (L := L) (x := x) L.length ⟨k, (List.getElem?_eq_some_iff.mp hk).1, hk⟩
        have e : L.getD i "" = x := by
          have := getD_at i1
          rw [i2] at this
          exact (Option.some.inj this).symm
        refine ⟨i, fun _ => ⟨i1, e, ?_⟩⟩
        cases n : nxt L i with
        | none => rfl
        | some j =>
          obtain ⟨a1, a2, a3, _⟩ := nxt_spec n
          exact (i3 j a1 a2 (by rw [a3, e])).elim
      · exact ⟨0, fun h => (c h).elim⟩
    refine inj_len (fun x => (la x).choose) ddS_nod (fun a ha c hc e => ?_) fun a ha => ?_
    · have e : (la a).choose = (la c).choose := e
      have h1 := ((la a).choose_spec ha).2.1
      have h2 := ((la c).choose_spec hc).2.1
      rw [e] at h1
      exact h1.symm.trans h2
    · have h := (la a).choose_spec ha
      exact wh_mem.mpr ⟨h.1, Option.isNone_iff_eq_none.mpr h.2.2⟩
theorem some_names : (wh L.length fun i => (nxt L i).isSome).length = L.length - (ddS L).length := by
  have a := wh_or (n := L.length) (p := fun _ => true) (q := fun i => (nxt L i).isSome)
  have b := last_names (L := L)
  rw [wh_true] at a
  have e : (wh L.length fun i => true && !(nxt L i).isSome) = wh L.length fun i => (nxt L i).isNone := List.filter_congr fun i _ => by cases nxt L i <;> rfl
  have e2 : (wh L.length fun i => true && (nxt L i).isSome) = wh L.length fun i => (nxt L i).isSome := List.filter_congr fun i _ => by simp
  rw [e, e2] at a
  omega
theorem dd_le : (ddS L).length ≤ L.length := ddS_le L
/-- no fewer misses than names -/
theorem GN_names (m1 : 1 ≤ m) : GN L m ≤ L.length - (ddS L).length := by
  obtain ⟨p, f, e⟩ := fit_g (L := L) m1
  rw [← e, ← some_names]
  exact wh_le fun i hi hp => by
    obtain ⟨j, h⟩ := f.nx i hi hp
    rw [h]; rfl
/-- as many as names where the lines hold them all -/
theorem GN_all (m1 : 1 ≤ m) (h : (ddS L).length ≤ m) : GN L m = L.length - (ddS L).length := by
  refine Nat.le_antisymm (GN_names m1) ?_
  rw [← some_names]
  refine Fit.le m1 ⟨fun i _ hp => Option.isSome_iff_exists.mp hp, fun t ht => ?_⟩
  have mm : ∀ i ∈ wh L.length (fun i => (nxt L i).isSome && ov L t i), i < L.length ∧ ov L t i = true := fun i hi => by
    have := wh_mem.mp hi
    rw [Bool.and_eq_true] at this
    exact ⟨this.1, this.2.2⟩
  have n2 : (t :: wh L.length fun i => (nxt L i).isSome && ov L t i).Nodup := by
    refine List.nodup_cons.mpr ⟨fun h => ?_, wh_nod⟩
    obtain ⟨_, _, c, _⟩ := ov_iff.mp (mm t h).2
    omega
  have le := inj_len (m := ddS L) (fun i => L.getD i "") n2 (fun a ha c hc e => ?_) (fun a ha => ?_)
  · rw [List.length_cons] at le
    omega
  · have e : L.getD a "" = L.getD c "" := e
    rcases List.mem_cons.mp ha with rfl | ha
    · rcases List.mem_cons.mp hc with rfl | hc
      · rfl
      · exact (ov_self ht (mm _ hc).2 e.symm).elim
    · rcases List.mem_cons.mp hc with rfl | hc
      · exact (ov_self ht (mm _ ha).2 e).elim
      · exact ov_names (mm _ ha).1 (mm _ hc).1 (mm _ ha).2 (mm _ hc).2 e
  · have : a < L.length := by
      rcases List.mem_cons.mp ha with rfl | ha
      · exact ht
      · exact (mm _ ha).1
    exact ddS_mem.mpr (List.mem_of_getElem? (getD_at this))
def chg (L : List Str) (i : Nat) : Bool := match i with
  | 0 => true
  | k + 1 => decide (L.getD k "" ≠ L.getD (k + 1) "")
theorem GN_one : L.length - GN L 1 = (wh L.length (chg L)).length := by
  have e1 : GN L 1 = (wh L.length fun i => decide (nxt L i = some (i + 1))).length := by
    refine Nat.le_antisymm ?_ ?_
    · obtain ⟨p, f, e⟩ := fit_g (L := L) (m := 1) (Nat.le_refl _)
      rw [← e]
      refine wh_le fun i hi hp => ?_
      obtain ⟨j, n⟩ := f.nx i hi hp
      obtain ⟨a1, a2, a3, a4⟩ := nxt_spec n
      refine decide_eq_true ?_
      by_cases c : j = i + 1
      · rw [n, c]
      · have q := f.fe (i + 1) (by omega)
        have : i ∈ wh L.length fun k => p k && ov L (i + 1) k := wh_mem.mpr ⟨hi, by rw [hp, ov_iff.mpr ⟨j, n, by omega, by omega⟩]; rfl⟩
        have := List.length_pos_of_mem this
        omega
    · refine Fit.le (Nat.le_refl _) ⟨fun i _ hp => ⟨_, of_decide_eq_true hp⟩, fun t ht => ?_⟩
      have : (wh L.length fun i => decide (nxt L i = some (i + 1)) && ov L t i) = [] := by
        refine List.filter_eq_nil_iff.mpr fun i _ h => ?_
        rw [Bool.and_eq_true] at h
        have n := of_decide_eq_true h.1
        obtain ⟨j, n2, h1, h2⟩ := ov_iff.mp h.2
        rw [n] at n2
        cases n2
        omega
      rw [this]
      exact Nat.zero_lt_one
  have e2 : (wh L.length fun i => decide (nxt L i = some (i + 1))).length = (wh L.length fun i => !chg L i).length := by
    refine Nat.le_antisymm ?_ ?_
    · refine inj_len (fun i => i + 1) wh_nod (fun a _ c _ e => by simpa using e) fun i hi => ?_
      have h := wh_mem.mp hi
      obtain ⟨a1, a2, a3, a4⟩ := nxt_spec (of_decide_eq_true h.2)
      refine wh_mem.mpr ⟨a2, ?_⟩
      have : L.getD i "" = L.getD (i + 1) "" := by
        have := getD_at (L := L) a2
        rw [a3] at this
        exact Option.some.inj this
      show (!decide (L.getD i "" ≠ L.getD (i + 1) "")) = true
      rw [this]
      simp
    · refine inj_len (fun i => i - 1) wh_nod (fun a ha c hc e => ?_) fun i hi => ?_
      · have h1 := (wh_mem.mp ha).2
        have h2 := (wh_mem.mp hc).2
        have e : a - 1 = c - 1 := e
        cases a with
        | zero => simp [chg] at h1
        | succ a =>
          cases c with
          | zero => simp [chg] at h2
          | succ c => omega
      · have h := wh_mem.mp hi
        cases i with
        | zero => simp [chg] at h
        | succ k =>
          have q : L.getD k "" = L.getD (k + 1) "" := by simpa [chg] using h.2
          refine wh_mem.mpr ⟨by have := h.1; simp; omega, decide_eq_true ?_⟩
          show nxt L k = some (k + 1)
          exact nxt_of (Nat.lt_succ_self k) (by rw [q]; exact getD_at h.1) fun j h1 h2 => by omega
  have a := wh_or (n := L.length) (p := fun _ => true) (q := chg L)
  rw [wh_true] at a
  have z1 : (wh L.length fun i => true && chg L i) = wh L.length (chg L) := List.filter_congr fun i _ => by simp
  have z2 : (wh L.length fun i => true && !chg L i) = wh L.length fun i => !chg L i := List.filter_congr fun i _ => by simp
  rw [z1, z2] at a
  omega
end
end K77
namespace K77
open PySem PySem.Spec PyProof.Rows L2 GX StX DL BX
section
variable {L : List Str} {m a : Nat}
theorem take_at {i : Nat} (h : i < a) : (L.take a)[i]? = L[i]? := by rw [List.getElem?_take, if_pos h]
theorem take_d {i : Nat} (h : i < a) : (L.take a).getD i "" = L.getD i "" := by simp [List.getD, take_at h]
theorem drop_d {i : Nat} : (L.drop a).getD i "" = L.getD (a + i) "" := by simp [List.getD]
theorem nxt_take {i j : Nat} (h : nxt (L.take a) i = some j) : nxt L i = some j ∧ j < a := by
  obtain ⟨a1, a2, a3, a4⟩ := nxt_spec h
  rw [List.length_take] at a2
  have ja : j < a := by omega
  rw [take_at ja, take_d (by omega)] at a3
  refine ⟨nxt_of a1 a3 fun k k1 k2 => ?_, ja⟩
  have := a4 k k1 k2
  rwa [take_at (by omega), take_d (by omega)] at this
theorem take_nxt {i j : Nat} (h : nxt L i = some j) (ja : j < a) : nxt (L.take a) i = some j := by
  obtain ⟨a1, a2, a3, a4⟩ := nxt_spec h
  refine nxt_of a1 (by rw [take_at ja, take_d (by omega)]; exact a3) fun k k1 k2 => ?_
  rw [take_at (by omega), take_d (by omega)]
  exact a4 k k1 k2
theorem nxt_drop {i j : Nat} (h : nxt (L.drop a) i = some j) : nxt L (a + i) = some (a + j) := by
  obtain ⟨a1, a2, a3, a4⟩ := nxt_spec h
  rw [List.getElem?_drop, drop_d] at a3
  refine nxt_of (by omega) a3 fun k k1 k2 => ?_
  have := a4 (k - a) (by omega) (by omega)
  rwa [List.getElem?_drop, drop_d, show a + (k - a) = k by omega] at this
theorem drop_nxt {i j : Nat} (h : nxt L (a + i) = some j) : nxt (L.drop a) i = some (j - a) := by
  obtain ⟨a1, a2, a3, a4⟩ := nxt_spec h
  refine nxt_of (by omega) (by rw [List.getElem?_drop, drop_d, show a + (j - a) = j by omega]; exact a3) fun k k1 k2 => ?_
  rw [List.getElem?_drop, drop_d]
  exact a4 (a + k) (by omega) (by omega)
theorem ov_take {t i : Nat} (h : ov (L.take a) t i = true) : ov L t i = true := by
  obtain ⟨j, e, h1, h2⟩ := ov_iff.mp h
  exact ov_iff.mpr ⟨j, (nxt_take e).1, h1, h2⟩
theorem ov_drop {t i : Nat} (h : ov (L.drop a) t i = true) : ov L (a + t) (a + i) = true := by
  obtain ⟨j, e, h1, h2⟩ := ov_iff.mp h
  exact ov_iff.mpr ⟨a + j, nxt_drop e, by omega, by omega⟩
/-- the beginning has no more misses -/
theorem GN_take (m1 : 1 ≤ m) (ha : a ≤ L.length) : GN L m ≤ GN (L.take a) m + (L.length - a) := by
  obtain ⟨p, f, e⟩ := fit_g (L := L) m1
  have lt : (L.take a).length = a := by rw [List.length_take]; omega
  have b1 : (wh a fun i => p i && (nxt (L.take a) i).isSome).length ≤ GN (L.take a) m := by
    have := Fit.le (L := L.take a) (p := fun i => p i && (nxt (L.take a) i).isSome) m1 ⟨fun i _ hp => by
      rw [Bool.and_eq_true] at hp
      exact Option.isSome_iff_exists.mp hp.2, fun t ht => by
      rw [lt] at ht ⊢
      refine Nat.lt_of_le_of_lt ?_ (f.fe t (by omega))
      refine inj_len (fun i => i) wh_nod (fun _ _ _ _ e => e) fun i hi => ?_
      obtain ⟨h1, h2⟩ := wh_mem.mp hi
      rw [Bool.and_eq_true, Bool.and_eq_true] at h2
      exact wh_mem.mpr ⟨by omega, by rw [h2.1.1, ov_take h2.2]; rfl⟩⟩
    rwa [lt] at this
  have s := wh_or (n := L.length) (p := p) (q := fun i => (nxt L i).any fun j => decide (j < a))
  have c1 : (wh L.length fun i => p i && (nxt L i).any fun j => decide (j < a)).length ≤ (wh a fun i => p i && (nxt (L.take a) i).isSome).length := by
    refine inj_len (fun i => i) wh_nod (fun _ _ _ _ e => e) fun i hi => ?_
    obtain ⟨h1, h2⟩ := wh_mem.mp hi
    rw [Bool.and_eq_true] at h2
    obtain ⟨j, ej⟩ := f.nx i h1 h2.1
    have hj : j < a := by simpa [ej] using h2.2
    have := (nxt_spec ej).1
    exact wh_mem.mpr ⟨by omega, by rw [h2.1, take_nxt ej hj]; rfl⟩
  have c2 : (wh L.length fun i => p i && !(nxt L i).any fun j => decide (j < a)).length ≤ (List.range' a (L.length - a)).length := by
    refine inj_len (fun i => (nxt L i).getD 0) wh_nod (fun x hx y hy e => ?_) fun i hi => ?_
    · obtain ⟨x1, x2⟩ := wh_mem.mp hx
      obtain ⟨y1, y2⟩ := wh_mem.mp hy
      rw [Bool.and_eq_true] at x2 y2
      obtain ⟨j, ej⟩ := f.nx x x1 x2.1
      obtain ⟨k, ek⟩ := f.nx y y1 y2.1
      rw [ej, ek] at e
      have e : j = k := e
      subst e
      exact nxt_inj x1 y1 ej ek
    · obtain ⟨h1, h2⟩ := wh_mem.mp hi
      rw [Bool.and_eq_true] at h2
      obtain ⟨j, ej⟩ := f.nx i h1 h2.1
      have hj : ¬ j < a := by simpa [ej] using h2.2
      have := (nxt_spec ej).2.1
      rw [ej]
      exact List.mem_range'.mpr ⟨j - a, by omega, by show j = _; omega⟩
  rw [List.length_range'] at c2
  omega
/-- the rest has no more misses -/
theorem GN_drop (m1 : 1 ≤ m) (ha : a ≤ L.length) : GN L m ≤ GN (L.drop a) m + a := by
  obtain ⟨p, f, e⟩ := fit_g (L := L) m1
  have lt : (L.drop a).length = L.length - a := List.length_drop
  have b1 : (wh (L.length - a) fun i => p (a + i)).length ≤ GN (L.drop a) m := by
    have := Fit.le (L := L.drop a) (p := fun i => p (a + i)) m1 ⟨fun i hi hp => by
      rw [lt] at hi
      obtain ⟨j, ej⟩ := f.nx (a + i) (by omega) hp
      exact ⟨_, drop_nxt ej⟩, fun t ht => by
      rw [lt] at ht ⊢
      refine Nat.lt_of_le_of_lt ?_ (f.fe (a + t) (by omega))
      refine inj_len (fun i => a + i) wh_nod (fun _ _ _ _ e => by simpa using e) fun i hi => ?_
      obtain ⟨h1, h2⟩ := wh_mem.mp hi
      rw [Bool.and_eq_true] at h2
      exact wh_mem.mpr ⟨by omega, by rw [h2.1, ov_drop h2.2]; rfl⟩⟩
    rwa [lt] at this
  have s := wh_or (n := L.length) (p := p) (q := fun i => decide (a ≤ i))
  have c1 : (wh L.length fun i => p i && decide (a ≤ i)).length ≤ (wh (L.length - a) fun i => p (a + i)).length := by
    refine inj_len (fun i => i - a) wh_nod (fun x hx y hy e => ?_) fun i hi => ?_
    · have x1 := (wh_mem.mp hx).2
      have y1 := (wh_mem.mp hy).2
      rw [Bool.and_eq_true, decide_eq_true_eq] at x1 y1
      have e : x - a = y - a := e
      omega
    · obtain ⟨h1, h2⟩ := wh_mem.mp hi
      rw [Bool.and_eq_true, decide_eq_true_eq] at h2
      refine wh_mem.mpr ⟨?_, ?_⟩
      · show i - a < _
        omega
      · show p (a + (i - a)) = true
        rw [show a + (i - a) = i by omega]
        exact h2.1
  have c2 : (wh L.length fun i => p i && !decide (a ≤ i)).length ≤ (List.range a).length := sub_len _ _ wh_nod fun i hi => by
    obtain ⟨h1, h2⟩ := wh_mem.mp hi
    rw [Bool.and_eq_true] at h2
    have : ¬ a ≤ i := by simpa using h2.2
    simp
    omega
  rw [List.length_range] at c2
  omega
/-- both parts' keepings together -/
theorem GN_both (m1 : 1 ≤ m) (ha : a ≤ L.length) : GN (L.take a) m + GN (L.drop a) m ≤ GN L m := by
  obtain ⟨p, f, e⟩ := fit_g (L := L.take a) m1
  obtain ⟨q, g, e2⟩ := fit_g (L := L.drop a) m1
  have lt : (L.take a).length = a := by rw [List.length_take]; omega
  have ld : (L.drop a).length = L.length - a := List.length_drop
  rw [lt] at e
  rw [ld] at e2
  have F : Fit L m fun i => if i < a then p i else q (i - a) := by
    refine ⟨fun i hi hp => ?_, fun t ht => ?_⟩
    · by_cases c : i < a
      · rw [if_pos c] at hp
        obtain ⟨j, ej⟩ := f.nx i (by omega) hp
        exact ⟨j, (nxt_take ej).1⟩
      · rw [if_neg c] at hp
        obtain ⟨j, ej⟩ := g.nx (i - a) (by omega) hp
        have := nxt_drop ej
        rw [show a + (i - a) = i by omega] at this
        exact ⟨_, this⟩
    · by_cases c : t < a
      · refine Nat.lt_of_le_of_lt ?_ (f.fe t (by omega))
        rw [lt]
        refine inj_len (fun i => i) wh_nod (fun _ _ _ _ e => e) fun i hi => ?_
        obtain ⟨h1, h2⟩ := wh_mem.mp hi
        rw [Bool.and_eq_true] at h2
        obtain ⟨j, ej, k1, k2⟩ := ov_iff.mp h2.2
        have ci : i < a := by omega
        have hp := h2.1
        rw [if_pos ci] at hp
        obtain ⟨j', ej'⟩ := f.nx i (by omega) hp
        have w := nxt_take ej'
        rw [ej] at w
        have w1 : j = j' := Option.some.inj w.1
        subst w1
        exact wh_mem.mpr ⟨ci, by rw [hp, ov_iff.mpr ⟨j, ej', k1, k2⟩]; rfl⟩
      · refine Nat.lt_of_le_of_lt ?_ (g.fe (t - a) (by omega))
        rw [ld]
        have low : ∀ i, i ∈ wh L.length (fun i => (if i < a then p i else q (i - a)) && ov L t i) → ¬ i < a := fun i hi ci => by
          obtain ⟨h1, h2⟩ := wh_mem.mp hi
          rw [Bool.and_eq_true, if_pos ci] at h2
          obtain ⟨j, ej, k1, k2⟩ := ov_iff.mp h2.2
          obtain ⟨j', ej'⟩ := f.nx i (by omega) h2.1
          have w := nxt_take ej'
          rw [ej] at w
          have w1 : j = j' := Option.some.inj w.1
          omega
        refine inj_len (fun i => i - a) wh_nod (fun x hx y hy e => ?_) fun i hi => ?_
        · have := low x hx
          have := low y hy
          have e : x - a = y - a := e
          omega
        · have ci := low i hi
          obtain ⟨h1, h2⟩ := wh_mem.mp hi
          rw [Bool.and_eq_true, if_neg ci] at h2
          obtain ⟨j, ej, k1, k2⟩ := ov_iff.mp h2.2
          rw [show i = a + (i - a) by omega] at ej
          have w := drop_nxt ej
          refine wh_mem.mpr ⟨by show i - a < _; omega, ?_⟩
          show (q (i - a) && ov (L.drop a) (t - a) (i - a)) = true
          rw [h2.1, ov_iff.mpr ⟨_, w, by omega, by omega⟩]
          rfl
  have le := F.le m1
  have s := wh_or (n := L.length) (p := fun i => if i < a then p i else q (i - a)) (q := fun i => decide (i < a))
  have c1 : (wh a p).length ≤ (wh L.length fun i => (if i < a then p i else q (i - a)) && decide (i < a)).length := by
    refine inj_len (fun i => i) wh_nod (fun _ _ _ _ e => e) fun i hi => ?_
    obtain ⟨h1, h2⟩ := wh_mem.mp hi
    exact wh_mem.mpr ⟨by omega, by simp [h1, h2]⟩
  have c2 : (wh (L.length - a) q).length ≤ (wh L.length fun i => (if i < a then p i else q (i - a)) && !decide (i < a)).length := by
    refine inj_len (fun i => a + i) wh_nod (fun _ _ _ _ e => by simpa using e) fun i hi => ?_
    obtain ⟨h1, h2⟩ := wh_mem.mp hi
    have e1 : ¬ a + i < a := by omega
    have e2 : a + i - a = i := by omega
    refine wh_mem.mpr ⟨by omega, ?_⟩
    show ((if a + i < a then p (a + i) else q (a + i - a)) && !decide (a + i < a)) = true
    rw [if_neg e1, e2, h2, decide_eq_false e1]
    rfl
  omega
end
end K77
namespace K77
open PySem PySem.Spec PyProof.Rows L2 GX StX DL
def Part (d : PyData) : Prop := Plain d ∧ ∀ q qs, d ≠ .dict (q :: qs)
def toB : PyData → Bool
  | .bool b => b | _ => false
theorem toB_all : ∀ {es : List PyData}, es.all dBool = true → es = bls (es.map toB)
  | [], _ => rfl
  | e :: es, h => by
    rw [List.all_cons, Bool.and_eq_true] at h
    cases e <;> simp only [dBool, Bool.false_eq_true, false_and] at h
    show _ = _ :: bls (es.map toB)
    rw [← toB_all h.2]
    rfl
inductive Thing : PyData → Prop where
  | t {es : List PyData} (h : ∀ e ∈ es, Part e) (l : es.length ≤ 1000) : Thing (.tuple es)
  | l (es : List PyData) : Thing (.list es)
  | n : Thing .none
  | d : Thing (.dict [])
def keepB (L : List Str) (m : Int) : PyData → Bool
  | .tuple es => decide (es.length = L.length) && (es.all dBool && fitsB L m (es.map toB))
  | _ => false
structure Known (L : List Str) (m : Int) : Prop where
  len : L.length ≤ 200
  ok : ∀ w ∈ L, NameOk w
  m1 : 1 ≤ m
  m4 : m ≤ 4
theorem ne_int (i j : Int) : neD (.int i) (.int j) = some (.bool (!decide (i = j))) := by
  simp [neD, SeqAt.shaped, PyData.canLay0, PyData.depth, PyData.eqv, Bool.beq_eq_decide_eq]
theorem ifs_t {c : TF} {g h : SF} {ρ ρ1 : Rho} (e : c ρ = some (true, ρ1)) : fIfS c g h ρ = g ρ1 := by rw [q_fIfS, e]
theorem ifs_f {c : TF} {g h : SF} {ρ ρ1 : Rho} (e : c ρ = some (false, ρ1)) : fIfS c g h ρ = h ρ1 := by rw [q_fIfS, e]
theorem ret0 {ρ : Rho} : fSq (fRet (fC (.bool false))) fNx ρ = some (.rt (.bool false) ρ) := rfl
theorem or_t {f g : TF} {ρ ρ1 : Rho} (e : f ρ = some (true, ρ1)) : fOr f g ρ = some (true, ρ1) := by rw [q_fOr, e]
theorem or_f {f g : TF} {ρ ρ1 : Rho} (e : f ρ = some (false, ρ1)) : fOr f g ρ = g ρ1 := by rw [q_fOr, e]
theorem m_truth {d : PyData} (h : ∀ q qs, d ≠ .dict (q :: qs)) : F_istruth [.dat d] = some (.bool (dBool d), [.un]) := by
  cases d with
  | dict ps =>
    cases ps with
    | nil => rfl
    | cons q qs => exact absurd rfl (h q qs)
  | _ => rfl
theorem m_isnot {d : PyData} (T : Thing d) (h : dTup d = false) (a b : Int) : F_istuple [.dat d, .dat (.int a), .dat (.int b)] = some (.bool false, [.un, .un, .un]) := by
  cases T with
  | t h l => cases h
  | l es => rfl
  | n => rfl
  | d => rfl
theorem andV_t {f g : EF} {ρ ρ1 : Rho} (e : f ρ = some (.bool true, ρ1)) : fAndV f g ρ = g ρ1 := by rw [q_fAndV, e]
theorem andV_f {f g : EF} {ρ ρ1 : Rho} (e : f ρ = some (.bool false, ρ1)) : fAndV f g ρ = some (.bool false, ρ1) := by rw [q_fAndV, e]
theorem ret_at {f : EF} {ρ ρ1 : Rho} {d : PyData} (e : f ρ = some (d, ρ1)) : fRet f ρ = some (.rt d ρ1) := by rw [q_fRet, e]
end K77
namespace K77
open PySem PySem.Spec PyProof.Rows L2 GX StX DL
def gC1 : SF := fDrop (fCa 1 F_checkhistory (aCons (gVar 0) aNil))
def gC2 : SF := fIfS (fNot (fTst (fCa 3 F_isbetween (aCons (gVar 1) (aCons (gVal (fC (.int 1))) (aCons (gVal (fC (.int 4))) aNil)))))) (fSq fNv fNx) fNx
def gC3 : SF := fIfS (fTst (fOp gtD (gVal (fCl lenD (aCons (gVar 0) aNil))) (gVal (fC (.int 200))))) (fSq fNv fNx) fNx
theorem gC_is : g_checkknown = fSq gC1 (fSq gC2 (fSq gC3 fNx)) := rfl
theorem c1v {r : PyData} {b : Sl} (e : F_checkhistory [.dat r] = some (.none, [.un])) : gC1 [.dat r, b] = some (.nx [.dat r, b]) := by
  unfold gC1
  simp [e]
theorem c2v {r : PyData} {m : Int} (h1 : 1 ≤ m) (h4 : m ≤ 4) : gC2 [.dat r, .dat (.int m)] = some (.nx [.dat r, .dat (.int m)]) := by
  have e := m_betw m 1 4
  rw [decide_eq_true h1, decide_eq_true h4] at e
  unfold gC2
  simp [e]
theorem c3v {xs : List PyData} {b : Sl} (h : xs.length ≤ 200) : gC3 [.dat (.tuple xs), b] = some (.nx [.dat (.tuple xs), b]) := by
  have e : ¬ ((200 : Int) < xs.length) := by omega
  unfold gC3
  simp [e]
theorem m_known {L : List Str} {m : Int} (K : Known L m) : F_checkknown [.dat (rowD L), .dat (.int m)] = some (.none, [.un, .un]) := by
  have z : g_checkknown [.dat (rowD L), .dat (.int m)] = some (.nx [.dat (rowD L), .dat (.int m)]) := by
    rw [gC_is, sq_nx (c1v (m_history (by have := K.len; omega) K.ok)), sq_nx (c2v K.m1 K.m4)]
    refine (sq_nx (c3v (by rw [List.length_map]; exact K.len))).trans (q_fNx _)
  show fBody 0 g_checkknown [.dat (rowD L), .dat (.int m)] = _
  rw [q_fBody, show [.dat (rowD L), .dat (.int m)] ++ List.replicate 0 Sl.un = [.dat (rowD L), .dat (.int m)] from rfl, z]
  rfl
abbrev t56 : GT := tTupT 2 [tName 5, tName 6]
def gQ1 : SF := fDrop (fCa 2 F_checkknown (aCons (gVar 0) (aCons (gVar 1) aNil)))
def gQa : TF := fNot (fTst (fCa 3 F_istuple (aCons (gVar 2) (aCons (gVal (fCl lenD (aCons (gVar 0) aNil))) (aCons (gVal (fCl lenD (aCons (gVar 0) aNil))) aNil)))))
def gQc : LF := fComp (iSeq (fVar 2)) [3] (tName 3) fYes (fCa 1 F_istruth (aCons (gVar 3) aNil))
def gQb : TF := fNot (fTst (fCl allD (aCons (gVal (fLst gQc)) aNil)))
def gQ2 : SF := fIfS (fOr gQa gQb) (fSq (fRet (fC (.bool false))) fNx) fNx
def gQd : LF := fComp (iEnumL (fCa 1 F_nextrequests (aCons (gVar 0) aNil))) [5, 6] t56 (fTst (fOp ixD (gVar 2) (gVar 5))) (fTup (lCons (fVar 5) (lCons (fVar 6) lNil)))
def gQ3 : SF := fAsg (fLst gQd) (tName 4)
def gQe : LF := fComp (iSeq (fVar 4)) [5, 6] t56 fYes (fOp isNotD (gVar 6) (gVal (fC .none)))
def gQ4 : SF := fIfS (fNot (fTst (fCl allD (aCons (gVal (fLst gQe)) aNil)))) (fSq (fRet (fC (.bool false))) fNx) fNx
def gQ6 : LF := fComp (iSeq (fVar 4)) [5, 6] t56 (fTst (fChain ltD ltD (gVar 5) (gVar 7) (gVar 6))) (fVar 5)
def gQf : LF := fComp iLen [7] (tName 7) fYes (fOp ltD (gVal (fCl lenD (aCons (gVal (fLst gQ6)) aNil))) (gVar 1))
def gQ5 : SF := fRet (fCl allD (aCons (gVal (fLst gQf)) aNil))
theorem gQ_is : g_iskeeping = fSq gQ1 (fSq gQ2 (fSq gQ3 (fSq gQ4 (fSq gQ5 fNx)))) := rfl
abbrev kS (r d : PyData) (m : Int) (s3 s4 s5 s6 s7 : Sl) : Rho := [.dat r, .dat (.int m), .dat d, s3, s4, s5, s6, s7]
theorem k1v {r d : PyData} {m : Int} {s3 s4 s5 s6 s7 : Sl} (e : F_checkknown [.dat r, .dat (.int m)] = some (.none, [.un, .un])) : gQ1 (kS r d m s3 s4 s5 s6 s7) = some (.nx (kS r d m s3 s4 s5 s6 s7)) := by
  unfold gQ1
  simp [e]
theorem kav {xs : List PyData} {d : PyData} {b : Bool} {m : Int} {s3 s4 s5 s6 s7 : Sl} (e : F_istuple [.dat d, .dat (.int xs.length), .dat (.int xs.length)] = some (.bool b, [.un, .un, .un])) : gQa (kS (.tuple xs) d m s3 s4 s5 s6 s7) = some (!b, kS (.tuple xs) d m s3 s4 s5 s6 s7) := by
  unfold gQa
  simp [e]
theorem kcv {r : PyData} {es : List PyData} {m : Int} {s4 s5 s6 s7 : Sl} (h : ∀ e ∈ es, Part e) (l : es.length ≤ 1000) : gQc (kS r (.tuple es) m .un s4 s5 s6 s7) = some (bls (es.map dBool), kS r (.tuple es) m .un s4 s5 s6 s7) := by
  have z := comp_all (it := iSeq (fVar 2)) (ks := [3]) (t := tName 3) (f := fCa 1 F_istruth (aCons (gVar 3) aNil)) (fun e : PyData => e) (fun e => .bool (dBool e)) (ρ := kS r (.tuple es) m .un s4 s5 s6 s7) (ρ1 := kS r (.tuple es) m .un s4 s5 s6 s7) es (by simp) rfl (fun e he => ⟨kS r (.tuple es) m (.dat e) s4 s5 s6 s7, kS r (.tuple es) m (.dat e) s4 s5 s6 s7, rfl, by
    have q := m_truth (h e he).2
    simp [q], rfl⟩) (by omega)
  refine Eq.trans z ?_
  simp only [bls, List.map_map]
  rfl
theorem kbv {ρ : Rho} {bs : List Bool} (e : gQc ρ = some (bls bs, ρ)) : gQb ρ = some (!bs.all id, ρ) := by
  have a := all_bls bs
  unfold gQb
  generalize gQc = f at e ⊢
  simp only [q_fNot, q_fTst, q_fCl, q_aCons, q_gVal, q_fLst, e, Option.map_some, q_aNil, q_looks_c, q_look_d, q_looks_nil, a]
theorem pairs_NX (L : List Str) : pairsD (NX L) = (List.range L.length).map fun i => PyData.tuple [.int ((i : Nat) : Int), oN (nxt L i)] := by
  unfold pairsD NX
  refine List.ext_getElem (by simp) fun i h1 h2 => ?_
  simp
abbrev pr (L : List Str) (i : Nat) : PyData := .tuple [.int ((i : Nat) : Int), oN (nxt L i)]
theorem enumV {r d R : PyData} {ds : List PyData} {m : Int} {s3 s4 s5 s6 s7 : Sl} (e : F_nextrequests [.dat r] = some (.list ds, [.un])) : iEnumL (fCa 1 F_nextrequests (aCons (gVar 0) aNil)) (kS r d m s3 s4 s5 s6 s7) = some (pairsD ds, kS r d m s3 s4 s5 s6 s7) := by
  unfold iEnumL
  simp [e]
theorem t56_at {r d : PyData} {a : Int} {b : PyData} {m : Int} {s3 s4 s5 s6 s7 : Sl} : t56 (.tuple [.int a, b]) (kS r d m s3 s4 s5 s6 s7) = some (kS r d m s3 s4 (.dat (.int a)) (.dat b) s7) := by simp
theorem w56 {r d : PyData} {m : Int} {s3 s4 s5 s6 s7 : Sl} : wipeR (kS r d m s3 s4 s5 s6 s7) [5, 6] = kS r d m s3 s4 .un .un s7 := rfl
theorem mk56 {r d b : PyData} {a : Int} {m : Int} {s3 s4 s7 : Sl} : fTup (lCons (fVar 5) (lCons (fVar 6) lNil)) (kS r d m s3 s4 (.dat (.int a)) (.dat b) s7) = some (.tuple [.int a, b], kS r d m s3 s4 (.dat (.int a)) (.dat b) s7) := by
  have f2 : fits 2 = true := by decide
  simp [f2]
section
variable {L : List Str} {bs : List Bool} {m : Int}
theorem ix2 {r : PyData} {i : Nat} {s4 s6 s7 : Sl} (h : i < bs.length) : fTst (fOp ixD (gVar 2) (gVar 5)) (kS r (.tuple (bls bs)) m .un s4 (.dat (.int (i : Nat))) s6 s7) = some (bs.getD i false, kS r (.tuple (bls bs)) m .un s4 (.dat (.int (i : Nat))) s6 s7) := by
  have a := atB h
  generalize bls bs = xs at a ⊢
  generalize bs.getD i false = b at a ⊢
  simp [a]
theorem kdv (hl : L.length ≤ 1000) (hb : bs.length = L.length) : gQd (kS (rowD L) (.tuple (bls bs)) m .un .un .un .un .un) = some ((St L bs).map (pr L), kS (rowD L) (.tuple (bls bs)) m .un .un .un .un .un) := by
  have it := enumV (d := .tuple (bls bs)) (R := .none) (m := m) (s3 := .un) (s4 := .un) (s5 := .un) (s6 := .un) (s7 := .un) (m_next hl)
  rw [pairs_NX] at it
  refine comp_if (it := iEnumL (fCa 1 F_nextrequests (aCons (gVar 0) aNil))) (ks := [5, 6]) (t := t56) (c := fTst (fOp ixD (gVar 2) (gVar 5))) (f := fTup (lCons (fVar 5) (lCons (fVar 6) lNil))) (pr L) (fun i => bs.getD i false) (pr L) (List.range L.length) it w56 (fun i hi => ⟨_, t56_at, ?_, fun _ => ?_, w56⟩) (by simp; omega)
  · have li : i < L.length := by simpa using hi
    exact ix2 (by omega)
  · exact mk56
abbrev pS (L : List Str) (bs : List Bool) (m : Int) (s5 s6 s7 : Sl) : Rho := kS (rowD L) (.tuple (bls bs)) m .un (.dat (.list ((St L bs).map (pr L)))) s5 s6 s7
theorem k3v (hl : L.length ≤ 1000) (hb : bs.length = L.length) : gQ3 (kS (rowD L) (.tuple (bls bs)) m .un .un .un .un .un) = some (.nx (pS L bs m .un .un .un)) := by
  unfold gQ3
  rw [q_fAsg, q_fLst, kdv hl hb]
  rfl
theorem seq4 {r d : PyData} {ds : List PyData} {m : Int} {s3 s5 s6 s7 : Sl} : iSeq (fVar 4) (kS r d m s3 (.dat (.list ds)) s5 s6 s7) = some (ds, kS r d m s3 (.dat (.list ds)) s5 s6 s7) := by simp
theorem not_none {r d b : PyData} {m : Int} {s3 s4 s5 s7 : Sl} : fOp isNotD (gVar 6) (gVal (fC .none)) (kS r d m s3 s4 s5 (.dat b) s7) = some (.bool (!isNon b), kS r d m s3 s4 s5 (.dat b) s7) := by simp [isNot_at]
theorem kev (hl : L.length ≤ 1000) : gQe (pS L bs m .un .un .un) = some (bls ((St L bs).map fun i => (nxt L i).isSome), pS L bs m .un .un .un) := by
  have z := comp_all (it := iSeq (fVar 4)) (ks := [5, 6]) (t := t56) (f := fOp isNotD (gVar 6) (gVal (fC .none))) (pr L) (fun i => PyData.bool (nxt L i).isSome) (St L bs) (seq4 (r := rowD L) (d := .tuple (bls bs)) (ds := (St L bs).map (pr L)) (m := m) (s3 := .un) (s5 := .un) (s6 := .un) (s7 := .un)) w56 (fun i hi => ⟨_, _, t56_at, by
    rw [show PyData.bool (nxt L i).isSome = .bool (!isNon (oN (nxt L i))) by rw [isNon_oN]; cases nxt L i <;> rfl]
    exact not_none, w56⟩) (by have := St_len (bs := bs) hl; omega)
  refine Eq.trans z ?_
  simp only [bls, List.map_map]
  rfl
theorem k4v {ρ : Rho} {bs : List Bool} (e : gQe ρ = some (bls bs, ρ)) : gQ4 ρ = some (if bs.all id = true then .nx ρ else .rt (.bool false) ρ) := by
  have a := all_bls bs
  have c : fNot (fTst (fCl allD (aCons (gVal (fLst gQe)) aNil))) ρ = some (!bs.all id, ρ) := by
    generalize gQe = f at e ⊢
    simp only [q_fNot, q_fTst, q_fCl, q_aCons, q_gVal, q_fLst, e, Option.map_some, q_aNil, q_looks_c, q_look_d, q_looks_nil, a]
  unfold gQ4
  rw [q_fIfS, c]
  cases bs.all id <;> rfl
theorem chain_at {r d : PyData} {m : Int} {s3 s4 : Sl} {i j t : Nat} : fTst (fChain ltD ltD (gVar 5) (gVar 7) (gVar 6)) (kS r d m s3 s4 (.dat (.int (i : Nat))) (.dat (.int (j : Nat))) (.dat (.int (t : Nat)))) = some (decide (i < t) && decide (t < j), kS r d m s3 s4 (.dat (.int (i : Nat))) (.dat (.int (j : Nat))) (.dat (.int (t : Nat)))) := by
  by_cases h : i < t
  · simp [h]
  · simp [h]
theorem k6v (hl : L.length ≤ 1000) (hn : allN L bs = true) {t : Nat} : gQ6 (pS L bs m .un .un (.dat (.int (t : Nat)))) = some (((St L bs).filter (ov L t)).map (fun i => PyData.int ((i : Nat) : Int)), pS L bs m .un .un (.dat (.int (t : Nat)))) := by
  refine comp_if (it := iSeq (fVar 4)) (ks := [5, 6]) (t := t56) (c := fTst (fChain ltD ltD (gVar 5) (gVar 7) (gVar 6))) (f := fVar 5) (pr L) (ov L t) (fun i : Nat => PyData.int ((i : Nat) : Int)) (St L bs) seq4 w56 (fun i hi => ⟨_, t56_at, ?_, fun _ => rfl, w56⟩) (by have := St_len (bs := bs) hl; omega)
  have q : (nxt L i).isSome = true := List.all_eq_true.mp hn i hi
  obtain ⟨j, e⟩ := Option.isSome_iff_exists.mp q
  have o : ov L t i = (decide (i < t) && decide (t < j)) := by
    unfold ov
    rw [e]
  rw [o, e]
  exact chain_at
theorem kfv (hl : L.length ≤ 1000) (hn : allN L bs = true) : gQf (pS L bs m .un .un .un) = some (bls ((List.range L.length).map fun t => decide ((cnt L bs t : Int) < m)), pS L bs m .un .un .un) := by
  have z := comp_all (it := iLen) (ks := [7]) (t := tName 7) (f := fOp ltD (gVal (fCl lenD (aCons (gVal (fLst gQ6)) aNil))) (gVar 1)) (fun i : Nat => PyData.int ((i : Nat) : Int)) (fun t => PyData.bool (decide ((cnt L bs t : Int) < m))) (ρ := pS L bs m .un .un .un) (List.range L.length) (rng_len hl) rfl (fun t ht => by
    have e := k6v (m := m) hl hn (t := t)
    refine ⟨pS L bs m .un .un (.dat (.int (t : Nat))), pS L bs m .un .un (.dat (.int (t : Nat))), rfl, ?_, rfl⟩
    have e1 : fCl lenD (aCons (gVal (fLst gQ6)) aNil) (pS L bs m .un .un (.dat (.int (t : Nat)))) = some (.int (cnt L bs t : Nat), pS L bs m .un .un (.dat (.int (t : Nat)))) := by
      simp only [q_fCl, q_aCons, q_gVal, q_fLst, e]
      simp [cnt]
    rw [q_fOp, q_gVal, e1]
    simp) (by simp; omega)
  refine Eq.trans z ?_
  simp only [bls, List.map_map]
  rfl
theorem k5v {ρ : Rho} {bs : List Bool} (e : gQf ρ = some (bls bs, ρ)) : gQ5 ρ = some (.rt (.bool (bs.all id)) ρ) := by
  have a := all_bls bs
  unfold gQ5
  generalize gQf = f at e ⊢
  simp only [q_fRet, q_fCl, q_aCons, q_gVal, q_fLst, e, Option.map_some, q_aNil, q_looks_c, q_look_d, q_looks_nil, a]
theorem all_map (f : Nat → Bool) (xs : List Nat) : (xs.map f).all id = xs.all f := by
  rw [List.all_map]
  rfl
theorem m_keeping {d : PyData} (K : Known L m) (T : Thing d) : F_iskeeping [.dat (rowD L), .dat (.int m), .dat d] = some (.bool (keepB L m d), [.un, .un, .un]) := by
  have hl : L.length ≤ 1000 := by have := K.len; omega
  have fin : ∀ {b : Bool} {s3 s4 s5 s6 s7 : Sl}, g_iskeeping (kS (rowD L) d m .un .un .un .un .un) = some (.rt (.bool b) (kS (rowD L) d m s3 s4 s5 s6 s7)) → F_iskeeping [.dat (rowD L), .dat (.int m), .dat d] = some (.bool b, [.un, .un, .un]) := by
    intro b s3 s4 s5 s6 s7 z
    exact (body_rt (m := 5) (g := g_iskeeping) (sls := [.dat (rowD L), .dat (.int m), .dat d]) rfl z).trans (by simp [List.range, List.range.loop])
  have s1 := k1v (d := d) (s3 := .un) (s4 := .un) (s5 := .un) (s6 := .un) (s7 := .un) (m_known K)
  by_cases ht : dTup d = true
  · cases T with
    | t h l =>
      rename_i es
      have e := m_tup es L.length L.length
      have q : (decide ((L.length : Int) ≤ es.length) && decide ((es.length : Int) ≤ L.length)) = decide (es.length = L.length) := by
        rw [Bool.eq_iff_iff]
        simp only [Bool.and_eq_true, decide_eq_true_eq]
        omega
      rw [q] at e
      have a := kav (xs := L.map .str) (d := .tuple es) (m := m) (s3 := .un) (s4 := .un) (s5 := .un) (s6 := .un) (s7 := .un) (by rw [List.length_map]; exact e)
      by_cases le : es.length = L.length
      · rw [decide_eq_true le] at a
        have b := kbv (kcv (r := rowD L) (m := m) (s4 := .un) (s5 := .un) (s6 := .un) (s7 := .un) h l)
        rw [List.all_map] at b
        by_cases ab : es.all dBool = true
        · have b : gQb (kS (rowD L) (.tuple es) m .un .un .un .un .un) = some (!es.all dBool, kS (rowD L) (.tuple es) m .un .un .un .un .un) := b
          rw [ab] at b
          have s2 : gQ2 (kS (rowD L) (.tuple es) m .un .un .un .un .un) = some (.nx (kS (rowD L) (.tuple es) m .un .un .un .un .un)) :=
            (ifs_f ((or_f a).trans b)).trans (q_fNx _)
          have w : keepB L m (.tuple es) = fitsB L m (es.map toB) := by simp [keepB, le, ab]
          rw [w]
          have es_is := toB_all ab
          have lb : (es.map toB).length = L.length := by rw [List.length_map]; exact le
          generalize es.map toB = bs at es_is lb ⊢
          subst es_is
          have s3 := k3v (m := m) hl lb
          have s4 := k4v (kev (m := m) (bs := bs) hl)
          rw [all_map] at s4
          by_cases an : allN L bs = true
          · have s5 := k5v (kfv (m := m) hl an)
            rw [all_map] at s5
            have w2 : fitsB L m bs = (List.range L.length).all fun t => decide ((cnt L bs t : Int) < m) := by
              unfold fitsB
              rw [an]
              rfl
            rw [w2]
            have s4 : gQ4 (pS L bs m .un .un .un) = some (.nx (pS L bs m .un .un .un)) := s4.trans (congrArg some (if_pos an))
            apply fin
            rw [gQ_is, sq_nx s1, sq_nx s2, sq_nx s3, sq_nx s4]
            exact sq_rt s5
          · have s4 : gQ4 (pS L bs m .un .un .un) = some (.rt (.bool false) (pS L bs m .un .un .un)) := s4.trans (congrArg some (if_neg an))
            have w2 : fitsB L m bs = false := by
              unfold fitsB
              rw [show allN L bs = false by simpa using an]
              rfl
            rw [w2]
            apply fin
            rw [gQ_is, sq_nx s1, sq_nx s2, sq_nx s3]
            exact sq_rt s4
        · have ab : es.all dBool = false := by simpa using ab
          have b : gQb (kS (rowD L) (.tuple es) m .un .un .un .un .un) = some (!es.all dBool, kS (rowD L) (.tuple es) m .un .un .un .un .un) := b
          rw [ab] at b
          have w : keepB L m (.tuple es) = false := by simp only [keepB, ab, Bool.false_and, Bool.and_false]
          rw [w]
          apply fin
          rw [gQ_is, sq_nx s1]
          exact sq_rt ((ifs_t ((or_f a).trans b)).trans ret0)
      · rw [decide_eq_false le] at a
        have w : keepB L m (.tuple es) = false := by simp only [keepB, decide_eq_false le, Bool.false_and]
        rw [w]
        apply fin
        rw [gQ_is, sq_nx s1]
        exact sq_rt ((ifs_t (or_t a)).trans ret0)
    | l es => cases ht
    | n => cases ht
    | d => cases ht
  · have ht : dTup d = false := by simpa using ht
    have w : keepB L m d = false := by cases T <;> first | rfl | cases ht
    rw [w]
    have a := kav (xs := L.map .str) (d := d) (m := m) (s3 := .un) (s4 := .un) (s5 := .un) (s6 := .un) (s7 := .un) (m_isnot T ht _ _)
    apply fin
    rw [gQ_is, sq_nx s1]
    exact sq_rt ((ifs_t (or_t a)).trans ret0)
end
end K77
namespace DL
open PySem PySem.Spec PyProof.Rows L2 GX StX
/-- a comprehension with a condition, over a list that is given away -/
theorem comp_ifF {α : Type} {it : LF} {ks : List Nat} {t : GT} {c : TF} {f : EF} (g : α → PyData) (p : α → Bool) (h : α → PyData) {ρ0 ρ ρ1 : Rho} (xs : List α) (hi : it ρ0 = some (xs.map g, ρ1)) (hw : wipeR ρ1 ks = ρ) (st : ∀ x ∈ xs, ∃ ρ0, t (g x) ρ = some ρ0 ∧ c ρ0 = some (p x, ρ0) ∧ (p x = true → f ρ0 = some (h x, ρ0)) ∧ wipeR ρ0 ks = ρ) (hz : xs.length ≤ 1000000) :
    fComp it ks t c f ρ0 = some ((xs.filter p).map h, ρ) := by
  rw [q_fComp, hi]
  dsimp only
  rw [hw]
  have z := K77.comp_gen (ks := ks) (t := t) (c := c) (f := f) g p h (ρ := ρ) xs [] (fun x hx => by
    obtain ⟨ρ0, e0, e1, e2, w⟩ := st x hx
    exact ⟨ρ0, ρ0, e0, e1, fun q => ⟨ρ0, e2 q, w⟩, fun _ => w⟩) (by simpa using hz)
  rw [z]
  simp
end DL
namespace K77
open PySem PySem.Spec PyProof.Rows L2 GX StX DL
abbrev natD (ks : List Nat) : List PyData := ks.map fun k => .int ((k : Nat) : Int)
theorem eqv_nat (a b : Nat) : PyData.eqv (.int (a : Int)) (.int (b : Int)) = decide (a = b) := by
  show ((a : Int) == (b : Int)) = _
  by_cases c : a = b
  · subst c; simp
  · have : ¬ (a : Int) = (b : Int) := fun z => c (by omega)
    simp [c, this]
theorem flat_nat (ks : List Nat) : (natD ks).all flatD = true := by
  rw [List.all_eq_true]
  intro x hx
  obtain ⟨y, _, rfl⟩ := List.mem_map.mp hx
  rfl
theorem in_nat (s : Nat) (ks : List Nat) : inD (.int (s : Int)) (.list (natD ks)) = some (.bool (decide (s ∈ ks))) := by
  have m : memD (.int (s : Int)) (natD ks) = decide (s ∈ ks) := by
    unfold memD
    rw [List.any_map]
    by_cases c : s ∈ ks
    · rw [decide_eq_true c, List.any_eq_true]
      exact ⟨s, c, by show PyData.eqv _ _ = true; rw [eqv_nat]; simp⟩
    · rw [decide_eq_false c, List.any_eq_false]
      intro x hx
      show ¬ PyData.eqv _ _ = true
      rw [eqv_nat, decide_eq_true_eq]
      intro z
      exact c (z ▸ hx)
  show (if (flatD (.int (s : Int)) && (natD ks).all flatD) = true then some (PyData.bool (memD (.int (s : Int)) (natD ks))) else _) = _
  rw [if_pos (by rw [flat_nat]; rfl), m]
theorem idx_nat {ks : List Nat} {i : Nat} (nd : ks.Nodup) (h : i < ks.length) : idxL (.int ((ks[i] : Nat) : Int)) (natD ks) = some i := by
  unfold idxL
  rw [List.findIdx?_eq_some_iff_getElem]
  refine ⟨by rw [List.length_map]; exact h, ?_, fun j hj => ?_⟩
  · rw [List.getElem_map, eqv_nat]
    simp
  · rw [List.getElem_map, eqv_nat]
    have : ks[j] ≠ ks[i] := fun z => by
      have := (List.getElem_inj nd).mp z
      omega
    simp [this]
theorem erase_ix : ∀ {ks : List Nat} {i : Nat} (_ : ks.Nodup) (h : i < ks.length), ks.eraseIdx i = ks.erase ks[i]
  | a :: ks, 0, _, _ => by simp
  | a :: ks, i + 1, nd, h => by
    rw [List.nodup_cons] at nd
    have h' : i < ks.length := by simpa using h
    have ne : (a == ks[i]) = false := by
      simp only [beq_eq_false_iff_ne]
      intro z
      exact nd.1 (by rw [z]; exact List.getElem_mem h')
    rw [List.getElem_cons_succ, List.eraseIdx_cons_succ, List.erase_cons_tail (by simp [ne]), erase_ix nd.2 h']
theorem erase_at {ks : List Nat} {i : Nat} (nd : ks.Nodup) (h : i < ks.length) : (natD ks).eraseIdx i = natD (ks.erase ks[i]) := by
  rw [← erase_ix nd h]
  have z : ∀ (l : List Nat) (i : Nat), (natD l).eraseIdx i = natD (l.eraseIdx i) := by
    intro l
    induction l with
    | nil => intro i; rfl
    | cons a l ih =>
      intro i
      cases i with
      | zero => rfl
      | succ i => simp [natD, List.eraseIdx] at ih ⊢; exact ih i
  exact z ks i
abbrev qK (L : List Str) (m : Nat) (s2 s3 s4 s5 s6 : Sl) : Rho := [.dat (rowD L), .dat (.int (m : Int)), s2, s3, s4, s5, s6]
abbrev sO (o : List Nat) : Sl := .own false (.l (natD o))
abbrev sN (L : List Str) : Sl := .dat (.list (NX L))
abbrev sT (t : Nat) : Sl := .dat (.int (t : Int))
def gKA : LF := fComp (iSeq (fVar 4)) [6] (tName 6) (fTst (fOp eqD (gVal (fOp ixD (gVar 2) (gVar 6))) (gVar 5))) (fVar 6)
def gKB : LF := fComp (iSeq (fVar 4)) [6] (tName 6) (fTst (fOp gtD (gVal (fOp ixD (gVar 2) (gVar 6))) (gVar 5))) (fVar 6)
def gK1 : SF := fExt 3 (fLst gKA)
def gK2 : SF := fHold 4 gKB
def gK3 : SF := fIfS (fTst (fOp eqD (gVal (fCl lenD (aCons (gVar 4) aNil))) (gVar 1))) (fSq (fRem 4 (fMaxK Mkey [2] (gVar 4))) fNx) fNx
def gK4 : SF := fIfS (fTst (fOp isNotD (gVal (fOp ixD (gVar 2) (gVar 5))) (gVal (fC .none)))) (fSq (fApp 4 (fVar 5)) fNx) fNx
def gKb : SF := fSq gK1 (fSq gK2 (fSq gK3 (fSq gK4 fNx)))
def gKc : LF := fComp (iRange1 (lCons (fCl lenD (aCons (gVar 0) aNil)) lNil)) [6] (tName 6) fYes (fOp inD (gVar 6) (gVar 3))
def gK0a : SF := fDrop (fCa 2 F_checkknown (aCons (gVar 0) (aCons (gVar 1) aNil)))
def gK0b : SF := fAsg (fCa 1 F_nextrequests (aCons (gVar 0) aNil)) (tName 2)
theorem gK_is : g_bestkeeping = fSq gK0a (fSq gK0b (fSq (fHold 3 (lLst lNil)) (fSq (fHold 4 (lLst lNil)) (fSq (fFor (iRange1 (lCons (fCl lenD (aCons (gVar 0) aNil)) lNil)) (tName 5) gKb) (fSq (fRet (fCl tupleD (aCons (gVal (fLst gKc)) aNil))) fNx))))) := rfl
section
variable {L : List Str} {m t : Nat} {k o : List Nat} {s3 s6 : Sl}
theorem ix6 {s4 : Sl} {s : Nat} (h : s < L.length) : fOp ixD (gVar 2) (gVar 6) (qK L m (sN L) s3 s4 (sT t) (sT s)) = some (oN (nxt L s), qK L m (sN L) s3 s4 (sT t) (sT s)) := by
  have a := atN h
  simp [a]
theorem ka_at (g : GI L m t k o) (ht : t < L.length) (hz : o.length ≤ 1000000) : gKA (qK L m (sN L) s3 (sO o) (sT t) .un) = some (natD (o.filter (endAt L t)), qK L m (sN L) s3 (.dat (.list (natD o))) (sT t) .un) := by
  unfold gKA
  refine comp_ifF (fun s : Nat => PyData.int ((s : Nat) : Int)) (endAt L t) (fun s : Nat => PyData.int ((s : Nat) : Int)) o (ρ1 := qK L m (sN L) s3 (.dat (.list (natD o))) (sT t) .un) rfl rfl (fun s hs => ?_) hz
  obtain ⟨ls, j, ej, hj⟩ := g.ho s hs
  refine ⟨qK L m (sN L) s3 (.dat (.list (natD o))) (sT t) (sT s), rfl, ?_, fun _ => rfl, rfl⟩
  have i := ix6 (m := m) (t := t) (s3 := s3) (s4 := .dat (.list (natD o))) (show s < L.length by omega)
  have q : eqD (oN (nxt L s)) (.int (t : Int)) = some (.bool (endAt L t s)) := by
    unfold endAt
    rw [ej]
    show some (PyData.bool (PyData.eqv (.int (j : Int)) (.int (t : Int)))) = _
    rw [eqv_nat]
    simp
  generalize fOp ixD (gVar 2) (gVar 6) = A at i ⊢
  generalize eqD = op at q ⊢
  simp [i, q]
theorem kb_at (g : GI L m t k o) (ht : t < L.length) (hz : o.length ≤ 1000000) : gKB (qK L m (sN L) s3 (.dat (.list (natD o))) (sT t) .un) = some (natD (o2 L t o), qK L m (sN L) s3 (.dat (.list (natD o))) (sT t) .un) := by
  unfold gKB
  refine comp_ifF (fun s : Nat => PyData.int ((s : Nat) : Int)) (past L t) (fun s : Nat => PyData.int ((s : Nat) : Int)) o (ρ1 := qK L m (sN L) s3 (.dat (.list (natD o))) (sT t) .un) rfl rfl (fun s hs => ?_) hz
  obtain ⟨ls, j, ej, hj⟩ := g.ho s hs
  refine ⟨qK L m (sN L) s3 (.dat (.list (natD o))) (sT t) (sT s), rfl, ?_, fun _ => rfl, rfl⟩
  have i := ix6 (m := m) (t := t) (s3 := s3) (s4 := .dat (.list (natD o))) (show s < L.length by omega)
  have q : gtD (oN (nxt L s)) (.int (t : Int)) = some (.bool (past L t s)) := by
    unfold past
    rw [ej]
    show some (PyData.bool (decide ((j : Int) > (t : Int)))) = _
    congr 2
    exact decide_eq_decide.mpr (by omega)
  generalize fOp ixD (gVar 2) (gVar 6) = A at i ⊢
  generalize gtD = op at q ⊢
  simp [i, q]
theorem keys_at (h : ∀ s ∈ o, s < L.length ∧ ∃ j, nxt L s = some j) : keysM Mkey [.list (NX L)] (natD o) = some (kys L o) := by
  induction o with
  | nil => rfl
  | cons s o ih =>
    obtain ⟨ls, j, ej⟩ := h s List.mem_cons_self
    have a := atN ls
    have e : Mkey [.list (NX L)] [.int (s : Int)] = some (.int ((((nxt L s).getD 0 : Nat)) : Int)) := by
      rw [ej] at a ⊢
      show (match fOp ixD (gVar 1) (gVar 0) [.dat (.int (s : Int)), .dat (.list (NX L))] with | some (d, _) => some d | none => none) = _
      have x : fOp ixD (gVar 1) (gVar 0) [.dat (.int (s : Int)), .dat (.list (NX L))] = some (oN (some j), [.dat (.int (s : Int)), .dat (.list (NX L))]) := by simp [a]
      rw [x]
      rfl
    have ih' := ih fun x hx => h x (List.mem_cons_of_mem _ hx)
    show (match Mkey [.list (NX L)] [.int (s : Int)] with
      | some (.int k) => match keysM Mkey [.list (NX L)] (natD o) with
        | some ks => if noF (.int (s : Int)) = true then some (k :: ks) else none
        | none => none
      | _ => none) = _
    rw [e, ih']
    rfl
theorem k3_at (h : ∀ s ∈ o, s < L.length ∧ ∃ j, nxt L s = some j) (nd : o.Nodup) (m1 : 1 ≤ m) : gK3 (qK L m (sN L) s3 (sO o) (sT t) .un) = some (.nx (qK L m (sN L) s3 (sO (if o.length = m then drop1 L o else o)) (sT t) .un)) := by
  have q : eqD (.int (o.length : Int)) (.int (m : Int)) = some (.bool (decide (o.length = m))) := by
    show some (PyData.bool (PyData.eqv (.int (o.length : Int)) (.int (m : Int)))) = _
    rw [eqv_nat]
  have tt : fTst (fOp eqD (gVal (fCl lenD (aCons (gVar 4) aNil))) (gVar 1)) (qK L m (sN L) s3 (sO o) (sT t) .un) = some (decide (o.length = m), qK L m (sN L) s3 (sO o) (sT t) .un) := by
    generalize eqD = op at q ⊢
    simp [q]
  unfold gK3
  by_cases c : o.length = m
  · rw [decide_eq_true c] at tt
    rw [ifs_t tt, if_pos c]
    obtain ⟨s, hs, ed, eg, _⟩ := drop_is (L := L) (o := o) (by omega)
    have hb : bestK (kys L o) < o.length := (List.getElem?_eq_some_iff.mp eg).1
    have es : o[bestK (kys L o)] = s := (List.getElem?_eq_some_iff.mp eg).2
    have ks := keys_at h
    have gb : (natD o)[bestK (kys L o)]? = some (.int (s : Int)) := by rw [List.getElem?_map, eg]; rfl
    have fm : fMaxK Mkey [2] (gVar 4) (qK L m (sN L) s3 (sO o) (sT t) .un) = some (.int (s : Int), qK L m (sN L) s3 (sO o) (sT t) .un) := by
      show (match keysM Mkey [.list (NX L)] (natD o) with
        | none => none
        | some ks => match (natD o)[bestK ks]? with
          | some d => some (d, qK L m (sN L) s3 (sO o) (sT t) .un)
          | none => none) = _
      rw [ks]
      dsimp only
      rw [gb]
    have ix := idx_nat nd hb
    rw [es] at ix
    have er := erase_at nd hb
    rw [es, ← ed] at er
    have fl := flat_nat o
    have r : fRem 4 (fMaxK Mkey [2] (gVar 4)) (qK L m (sN L) s3 (sO o) (sT t) .un) = some (.nx (qK L m (sN L) s3 (sO (drop1 L o)) (sT t) .un)) := by
      show (match fMaxK Mkey [2] (gVar 4) (qK L m (sN L) s3 (sO o) (sT t) .un) with
        | some (d, ρ1) => match ρ1[4]? with
          | some (Sl.own b (Cn.l ds)) => if (flatD d && ds.all flatD) = true then match idxL d ds with
              | some k => some (Out.nx (ρ1.set 4 (Sl.own b (Cn.l (ds.eraseIdx k)))))
              | none => none
            else none
          | _ => none
        | none => none) = _
      rw [fm]
      show (if (flatD (.int (s : Int)) && (natD o).all flatD) = true then match idxL (.int (s : Int)) (natD o) with
              | some k => some (Out.nx (qK L m (sN L) s3 (Sl.own false (Cn.l ((natD o).eraseIdx k))) (sT t) .un))
              | none => none
            else none) = _
      rw [if_pos (by rw [fl]; rfl), ix]
      dsimp only
      rw [er]
    rw [sq_nx r]
    exact q_fNx _
  · rw [decide_eq_false c] at tt
    rw [ifs_f tt, if_neg c]
    exact q_fNx _
theorem k4_at (ht : t < L.length) (hz : o.length ≤ 1000) : gK4 (qK L m (sN L) s3 (sO o) (sT t) .un) = some (.nx (qK L m (sN L) s3 (sO (if (nxt L t).isSome then o ++ [t] else o)) (sT t) .un)) := by
  have a := atN ht
  have fz : fits ((natD o).length + 1) = true := decide_eq_true (by rw [List.length_map]; omega)
  have e : natD (o ++ [t]) = natD o ++ [.int (t : Int)] := List.map_append
  have n := isNot_at (oN (nxt L t))
  rw [isNon_oN] at n
  unfold gK4
  cases c : nxt L t with
  | none =>
    rw [c] at a n
    have q : fTst (fOp isNotD (gVal (fOp ixD (gVar 2) (gVar 5))) (gVal (fC .none))) (qK L m (sN L) s3 (sO o) (sT t) .un) = some (false, qK L m (sN L) s3 (sO o) (sT t) .un) := by
      generalize isNotD = op at n ⊢
      simp [a, n]
    rw [ifs_f q]
    exact q_fNx _
  | some j =>
    rw [c] at a n
    have q : fTst (fOp isNotD (gVal (fOp ixD (gVar 2) (gVar 5))) (gVal (fC .none))) (qK L m (sN L) s3 (sO o) (sT t) .un) = some (true, qK L m (sN L) s3 (sO o) (sT t) .un) := by
      generalize isNotD = op at n ⊢
      simp [a, n]
    rw [ifs_t q]
    simp only [Option.isSome_some, if_true]
    unfold sO
    rw [e]
    generalize natD o = O at fz ⊢
    simp [fz]
theorem kb_step (g : GI L m t k o) (ht : t < L.length) (hl : L.length ≤ 1000) (m1 : 1 ≤ m) (m4 : m ≤ 4) (hk : k.length ≤ 1000) : gKb (qK L m (sN L) (sO k) (sO o) (sT t) .un) = some (.nx (qK L m (sN L) (sO (k ++ o.filter (endAt L t))) (sO (o4 L m t o)) (sT t) .un)) := by
  have lo := g.lo
  have a := ka_at (s3 := sO k) g ht (by omega)
  have fz : fits ((natD k).length + (natD (o.filter (endAt L t))).length) = true := decide_eq_true (by
    have := List.length_filter_le (endAt L t) o
    rw [List.length_map, List.length_map]
    omega)
  have e : natD (k ++ o.filter (endAt L t)) = natD k ++ natD (o.filter (endAt L t)) := List.map_append
  have s1 : gK1 (qK L m (sN L) (sO k) (sO o) (sT t) .un) = some (.nx (qK L m (sN L) (sO (k ++ o.filter (endAt L t))) (.dat (.list (natD o))) (sT t) .un)) := by
    unfold gK1
    unfold sO at a ⊢
    rw [e]
    generalize gKA = A at a ⊢
    generalize natD (o.filter (endAt L t)) = F at a fz ⊢
    generalize natD k = Kk at a fz ⊢
    generalize natD o = O at a ⊢
    simp [a, fz]
  have b := kb_at (s3 := sO (k ++ o.filter (endAt L t))) g ht (by omega)
  have s2 : gK2 (qK L m (sN L) (sO (k ++ o.filter (endAt L t))) (.dat (.list (natD o))) (sT t) .un) = some (.nx (qK L m (sN L) (sO (k ++ o.filter (endAt L t))) (sO (o2 L t o)) (sT t) .un)) := by
    unfold gK2
    generalize gKB = B at b ⊢
    generalize k ++ o.filter (endAt L t) = kk at b ⊢
    simp [b]
  have n2 : (o2 L t o).Nodup := List.Nodup.sublist List.filter_sublist g.no
  have l2 : (o2 L t o).length ≤ o.length := List.length_filter_le _ _
  have s3 := k3_at (m := m) (t := t) (s3 := sO (k ++ o.filter (endAt L t))) (L := L) (o := o2 L t o) (fun s hs => by
    obtain ⟨h1, j, e, _⟩ := in_o2 hs
    have := (g.ho s h1).1
    exact ⟨by omega, j, e⟩) n2 m1
  obtain ⟨_, _, l3, _, _⟩ := o3_is g m1
  have s4 := k4_at (m := m) (t := t) (s3 := sO (k ++ o.filter (endAt L t))) (L := L) (o := o3 L m t o) ht (by omega)
  unfold gKb
  rw [sq_nx s1, sq_nx s2, sq_nx s3]
  exact (sq_nx s4).trans (q_fNx _)
end
end K77
namespace K77
open PySem PySem.Spec PyProof.Rows L2 GX StX DL
theorem nod_len {k : List Nat} {t : Nat} (nd : k.Nodup) (h : ∀ s ∈ k, s < t) : k.length ≤ t := by
  have p : ((List.range t).filter fun i => decide (i ∈ k)).Perm k := by
    refine (List.perm_ext_iff_of_nodup (List.Nodup.sublist List.filter_sublist List.nodup_range) nd).mpr fun a => ?_
    rw [List.mem_filter, List.mem_range]
    constructor
    · rintro ⟨_, h2⟩
      exact of_decide_eq_true h2
    · intro ha
      exact ⟨h a ha, decide_eq_true ha⟩
  rw [← p.length_eq]
  have := List.length_filter_le (fun i => decide (i ∈ k)) (List.range t)
  rwa [List.length_range] at this
theorem flat_bls (bs : List Bool) : (bls bs).all flatD = true := by
  rw [List.all_eq_true]
  intro x hx
  obtain ⟨y, _, rfl⟩ := List.mem_map.mp hx
  rfl
theorem count_bls (bs : List Bool) (b : Bool) : (bls bs).countP (fun z => PyData.eqv z (.bool b)) = bs.countP (fun x => x == b) := by
  rw [List.countP_map]
  rfl
theorem count_tup (bs : List Bool) (b : Bool) : tCountD (.tuple (bls bs)) [.bool b] = some (.int ((bs.countP (fun x => x == b) : Nat) : Int)) := by
  show (if (flatD (.bool b) && (bls bs).all flatD) = true then some (PyData.int (((bls bs).countP fun z => PyData.eqv z (.bool b) : Nat) : Int)) else none) = _
  rw [if_pos (by rw [flat_bls]; rfl), count_bls]
theorem cp_true (bs : List Bool) : bs.countP (fun x => x == true) = bs.countP (fun b => b) := by
  congr 1
  funext b
  cases b <;> rfl
theorem cp_false (bs : List Bool) : bs.countP (fun x => x == false) = bs.countP (fun b => !b) := by
  congr 1
  funext b
  cases b <;> rfl
section
variable {L : List Str} {m : Nat}
theorem kloop (hl : L.length ≤ 1000) (m1 : 1 ≤ m) (m4 : m ≤ 4) : ∃ s5 : Sl, fFor (iRange1 (lCons (fCl lenD (aCons (gVar 0) aNil)) lNil)) (tName 5) gKb (qK L m (sN L) (sO []) (sO []) .un .un) = some (.nx (qK L m (sN L) (sO (kp L m)) (sO []) s5 .un)) := by
  have it := rng_len hl (tl := [.dat (.int (m : Int)), sN L, sO [], sO [], .un, .un])
  have it' : iRange1 (lCons (fCl lenD (aCons (gVar 0) aNil)) lNil) (qK L m (sN L) (sO []) (sO []) .un .un) = some (rangeD 0 L.length, qK L m (sN L) (sO []) (sO []) .un .un) := by
    rw [rangeD_map]
    exact it
  obtain ⟨ρ', e, s5, h⟩ := loop_at (t := tName 5) (g := gKb) (fun j ρ => ∃ s5 : Sl, ρ = qK L m (sN L) (sO (run L m j).1) (sO (run L m j).2) s5 .un) (rangeD 0 L.length) (ρ := qK L m (sN L) (sO []) (sO []) .un .un) ⟨.un, rfl⟩ (by
    rintro j d hd ρ ⟨s5, rfl⟩
    obtain ⟨hj, rfl⟩ := rangeD_at hd
    have g := gi_run (L := L) m1 j (by omega)
    have nl := nod_len g.nk fun s hs => (g.hk s hs).1
    exact ⟨qK L m (sN L) (sO (run L m j).1) (sO (run L m j).2) (sT j) .un, _, rfl, kb_step g hj hl m1 m4 (by omega), sT j, rfl⟩)
  rw [rangeD_len] at h
  have ee := end_empty (L := L) m1
  rw [ee] at h
  refine ⟨s5, (for_it it').trans ?_⟩
  rw [e, h]
  rfl
theorem kc_at (hl : L.length ≤ 1000) {s5 : Sl} : gKc (qK L m (sN L) (sO (kp L m)) (sO []) s5 .un) = some (bls (gB L m), qK L m (sN L) (sO (kp L m)) (sO []) s5 .un) := by
  unfold gKc
  have z := comp_all (it := iRange1 (lCons (fCl lenD (aCons (gVar 0) aNil)) lNil)) (ks := [6]) (t := tName 6) (f := fOp inD (gVar 6) (gVar 3)) (fun i : Nat => PyData.int ((i : Nat) : Int)) (fun i : Nat => PyData.bool (decide (i ∈ kp L m))) (ρ := qK L m (sN L) (sO (kp L m)) (sO []) s5 .un) (List.range L.length) (rng_len hl) rfl (fun i hi => by
    refine ⟨qK L m (sN L) (sO (kp L m)) (sO []) s5 (sT i), qK L m (sN L) (sO (kp L m)) (sO []) s5 (sT i), rfl, ?_, rfl⟩
    have q := in_nat i (kp L m)
    generalize inD = op at q ⊢
    simp [q]) (by rw [List.length_range]; omega)
  rw [z]
  have e : bls (gB L m) = (List.range L.length).map fun i : Nat => PyData.bool (decide (i ∈ kp L m)) := by
    unfold gB
    show List.map _ (List.map _ _) = _
    rw [List.map_map]
    rfl
  rw [e]
theorem k0a_at {r d : PyData} {s2 s3 s4 s5 s6 : Sl} (c : F_checkknown [.dat r, .dat d] = some (.none, [.un, .un])) : gK0a [.dat r, .dat d, s2, s3, s4, s5, s6] = some (.nx [.dat r, .dat d, s2, s3, s4, s5, s6]) := by
  unfold gK0a
  generalize F_checkknown = A at c ⊢
  simp [c]
theorem k0b_at {r d x : PyData} {s2 s3 s4 s5 s6 : Sl} (n : F_nextrequests [.dat r] = some (x, [.un])) : gK0b [.dat r, .dat d, s2, s3, s4, s5, s6] = some (.nx [.dat r, .dat d, .dat x, s3, s4, s5, s6]) := by
  unfold gK0b
  generalize F_nextrequests = A at n ⊢
  simp [n]
theorem krt_at {ρ : Rho} {B : List PyData} (cc : gKc ρ = some (B, ρ)) : fSq (fRet (fCl tupleD (aCons (gVal (fLst gKc)) aNil))) fNx ρ = some (.rt (.tuple B) ρ) := by
  generalize gKc = C at cc ⊢
  simp [cc]
theorem m_best (K : Known L (m : Int)) : F_bestkeeping [.dat (rowD L), .dat (.int (m : Int))] = some (.tuple (bls (gB L m)), [.un, .un]) := by
  have m1 : 1 ≤ m := by have := K.m1; omega
  have m4 : m ≤ 4 := by have := K.m4; omega
  have hl : L.length ≤ 1000 := by have := K.len; omega
  have c := m_known K
  have n := m_next hl
  have a0 := k0a_at (s2 := .un) (s3 := .un) (s4 := .un) (s5 := .un) (s6 := .un) c
  have a1 := k0b_at (d := .int (m : Int)) (s2 := .un) (s3 := .un) (s4 := .un) (s5 := .un) (s6 := .un) n
  have a2 : ∀ s4 : Sl, fHold 3 (lLst lNil) (qK L m (sN L) .un s4 .un .un) = some (.nx (qK L m (sN L) (sO []) s4 .un .un)) := fun _ => rfl
  have a3 : ∀ s3 : Sl, fHold 4 (lLst lNil) (qK L m (sN L) s3 .un .un .un) = some (.nx (qK L m (sN L) s3 (sO []) .un .un)) := fun _ => rfl
  obtain ⟨s5, lp⟩ := kloop hl m1 m4
  have cc := kc_at (L := L) (m := m) hl (s5 := s5)
  have rt := krt_at cc
  have all : g_bestkeeping (qK L m .un .un .un .un .un) = some (.rt (.tuple (bls (gB L m))) (qK L m (sN L) (sO (kp L m)) (sO []) s5 .un)) := by
    rw [gK_is, sq_nx a0, sq_nx a1, sq_nx (a2 _), sq_nx (a3 _), sq_nx lp]
    exact rt
  exact (body_rt (m := 5) (g := g_bestkeeping) (sls := [.dat (rowD L), .dat (.int (m : Int))]) rfl all).trans (by simp [List.range, List.range.loop])
theorem m_least (K : Known L (m : Int)) : F_leastmisses [.dat (rowD L), .dat (.int (m : Int))] = some (.int ((L.length - GN L m : Nat) : Int), [.un, .un]) := by
  have m1 : 1 ≤ m := by have := K.m1; omega
  have b := m_best K
  have c := count_tup (gB L m) false
  rw [cp_false, gB_false m1] at c
  unfold F_leastmisses g_leastmisses
  generalize F_bestkeeping = A at b ⊢
  generalize bls (gB L m) = B at b c ⊢
  have ty : tyD "tuple" (PyData.tuple B) = true := rfl
  generalize tCountD = op at c ⊢
  simp [b, c, ty, List.range, List.range.loop]
end
end K77
namespace K77
open PySem PySem.Spec PyProof.Rows L2 GX StX DL BX
def gT1 : SF := fAsg (fOp addD (gVal (fC (.int 1))) (gVal (fCa 2 F_Ldraw (aCons (gVar 0) (aCons (gVar 1) aNil))))) (tName 6)
def gT2 : SF := fAsg (fLst (lLst (lCons (fCa 1 F_Lrecent (aCons (gVar 6) aNil)) (lCons (fCa 1 F_Lqueue (aCons (gVar 6) aNil)) lNil)))) (tName 7)
def gT3 : SF := fAsg (fCa 3 F_Lpolicy (aCons (gVar 0) (aCons (gVar 6) (aCons (gVal (fOp addD (gVal (fC (.int 1))) (gVal (fCa 2 F_Ldraw (aCons (gVar 0) (aCons (gVar 2) aNil)))))) aNil)))) (tName 8)
def gT4 : SF := fApp 4 (fOp ixD (gVal (fOp addD (gVar 7) (gVal (fLst (fRepL (fLst (lLst (lCons (fVar 8) lNil))) (fC (.int 4))))))) (gVal (fCa 2 F_Ldraw (aCons (gVar 0) (aCons (gVal (fC (.int 6))) aNil)))))
def gT : SF := fSq gT1 (fSq gT2 (fSq gT3 (fSq gT4 fNx)))
theorem dev_turn {P acc : List PyData} (h : Pool P) (ha : acc.length ≤ 10) (wy s5 s6 s7 s8 : Sl) : ∃ (t : PyData) (P' : List PyData) (t6 t7 t8 : Sl), gT [.own true P, .dat (.int 2), .dat (.int 3), wy, .own false acc, s5, s6, s7, s8] = some (.nx [.own true P', .dat (.int 2), .dat (.int 3), wy, .own false (acc ++ [t]), s5, t6, t7, t8]) ∧ (TabOk t ∧ lnT t ≤ 2) ∧ Pool P' := by
  obtain ⟨n0, P1, e1, n1, n4, hP1⟩ := draw h (m := 2) (by omega) (by omega)
  obtain ⟨r, er, hr⟩ := m_recent (n := 1 + n0) (by omega) (by omega)
  obtain ⟨q, eq, hq⟩ := m_queue (n := 1 + n0) (by omega) (by omega)
  obtain ⟨k, P2, e2, k0, k8, hP2⟩ := draw hP1 (m := 3) (by omega) (by omega)
  obtain ⟨t, P3, e3, ht, hP3⟩ := m_policy (n := 1 + n0) (m := 1 + k) (by omega) (by omega) (by omega) (by omega) hP2
  obtain ⟨d, P4, e4, d0, d6, hP4⟩ := draw hP3 (m := 6) (by omega) (by omega)
  have f2 : fits 2 = true := by decide
  have f1 : fits 1 = true := by decide
  have ff : fits (acc.length + 1) = true := decide_eq_true (by omega)
  have st1 : gT1 [.own true P, .dat (.int 2), .dat (.int 3), wy, .own false acc, s5, s6, s7, s8] = some (.nx [.own true P1, .dat (.int 2), .dat (.int 3), wy, .own false acc, s5, .dat (.int (1 + n0)), s7, s8]) := by simp [gT1, e1]
  have st2 : gT2 [.own true P1, .dat (.int 2), .dat (.int 3), wy, .own false acc, s5, .dat (.int (1 + n0)), s7, s8] = some (.nx [.own true P1, .dat (.int 2), .dat (.int 3), wy, .own false acc, s5, .dat (.int (1 + n0)), .dat (.list [r, q]), s8]) := by simp [gT2, er, eq, f2]
  have st3 : gT3 [.own true P1, .dat (.int 2), .dat (.int 3), wy, .own false acc, s5, .dat (.int (1 + n0)), .dat (.list [r, q]), s8] = some (.nx [.own true P3, .dat (.int 2), .dat (.int 3), wy, .own false acc, s5, .dat (.int (1 + n0)), .dat (.list [r, q]), .dat t]) := by simp [gT3, e2, e3]
  obtain ⟨x, hx, _, ex⟩ := atI_int (xs := [r, q, t, t, t, t]) d0 (by simp; omega)
  have hxt : TabOk x ∧ lnT x ≤ 2 := by
    have a1 := hr.2
    have a2 := hq.2
    have a3 := ht.2
    simp only [List.mem_cons, List.not_mem_nil, or_false] at hx
    rcases hx with rfl | rfl | rfl | rfl | rfl | rfl
    · exact ⟨hr.1, by omega⟩
    · exact ⟨hq.1, by omega⟩
    all_goals exact ⟨ht.1, by omega⟩
  have ad : addD (.list [r, q]) (.list [t, t, t, t]) = some (.list [r, q, t, t, t, t]) := rfl
  have tm : fRepL (fLst (lLst (lCons (fVar 8) lNil))) (fC (.int 4)) [.own true P3, .dat (.int 2), .dat (.int 3), wy, .own false acc, s5, .dat (.int (1 + n0)), .dat (.list [r, q]), .dat t] = some ([t, t, t, t], [.own true P3, .dat (.int 2), .dat (.int 3), wy, .own false acc, s5, .dat (.int (1 + n0)), .dat (.list [r, q]), .dat t]) := rfl
  have st4 : gT4 [.own true P3, .dat (.int 2), .dat (.int 3), wy, .own false acc, s5, .dat (.int (1 + n0)), .dat (.list [r, q]), .dat t] = some (.nx [.own true P4, .dat (.int 2), .dat (.int 3), wy, .own false (acc ++ [x]), s5, .dat (.int (1 + n0)), .dat (.list [r, q]), .dat t]) := by
    simp [gT4, -q_fRepL, tm, ad, e4, ex, ff]
  refine ⟨x, P4, .dat (.int (1 + n0)), .dat (.list [r, q]), .dat t, ?_, hxt, hP4⟩
  unfold gT
  rw [sq_nx st1, sq_nx st2, sq_nx st3, sq_nx st4]
  rfl
def gD1 : SF := fPar2 3 4 (xDat (fCa 2 F_Ldraw (aCons (gVar 0) (aCons (gVal (fC (.int 6))) aNil)))) (xNew (lLst lNil))
def gD3 : SF := fIfS (fTst (fOp ltD (gVar 3) (gVal (fC (.int 3))))) (fSq (fRet (fTup (lCons (fC (.str "cache")) (lCons (fOp ixD (gVar 4) (gVal (fC (.int 0)))) lNil)))) fNx) fNx
def gD4 : SF := fSq (fRet (fTup (lCons (fOp ixD (gVal (fLst (lLst (lCons (fC (.str "plain")) (lCons (fC (.str "inclusive")) (lCons (fC (.str "victim")) lNil)))))) (gVal (fOp subD (gVar 3) (gVal (fC (.int 3)))))) (lCons (fOp ixD (gVar 4) (gVal (fC (.int 0)))) (lCons (fOp ixD (gVar 4) (gVal (fC (.int 1)))) lNil))))) fNx
theorem m_device {P : List PyData} (h : Pool P) : ∃ (rig : PyData) (P' : List PyData) (N : Nat), F_Ldevice [.own true P, .dat (.int 2), .dat (.int 3)] = some (rig, [.own true P', .un, .un]) ∧ Rig rig N ∧ Pool P' := by
  obtain ⟨w, P0, e0, w0, w6, hP0⟩ := draw h (m := 6) (by omega) (by omega)
  obtain ⟨ρ', el, P1, acc, s5, s6, s7, s8, rfl, hP1, la, ha⟩ := loop_invB (t := tName 5) (g := gT) (fun i ρ => ∃ (P acc : List PyData) (s5 s6 s7 s8 : Sl), ρ = [.own true P, .dat (.int 2), .dat (.int 3), .dat (.int w), .own false acc, s5, s6, s7, s8] ∧ Pool P ∧ acc.length = i ∧ ∀ x ∈ acc, TabOk x ∧ lnT x ≤ 2) 2
    (rangeD 0 2) 0 [.own true P0, .dat (.int 2), .dat (.int 3), .dat (.int w), .own false (.l []), .un, .un, .un, .un] ⟨P0, [], _, _, _, _, rfl, hP0, rfl, by simp⟩ (by simp [rangeD]) (by
      rintro d hd i ρ hi ⟨P, acc, s5, s6, s7, s8, rfl, hP, la, ha⟩
      obtain ⟨t, P', t6, t7, t8, e, ht, hP'⟩ := dev_turn hP (acc := acc) (by omega) (.dat (.int w)) (.dat d) s6 s7 s8
      refine ⟨_, _, rfl, e, P', acc ++ [t], _, _, _, _, rfl, hP', by simp [la], ?_⟩
      intro x hx
      rcases List.mem_append.mp hx with hx | hx
      · exact ha x hx
      · rw [List.mem_singleton.mp hx]
        exact ht)
  have la2 : acc.length = 2 := by simpa [rangeD] using la
  have f0 : fits 0 = true := by decide
  have f2 : fits 2 = true := by decide
  have f3 : fits 3 = true := by decide
  have st1 : gD1 [.own true P, .dat (.int 2), .dat (.int 3), .un, .un, .un, .un, .un, .un] = some (.nx [.own true P0, .dat (.int 2), .dat (.int 3), .dat (.int w), .own false (.l []), .un, .un, .un, .un]) := by
    simp [gD1, e0, f0, setX]
  have it : iRange1 (lCons (fC (.int 2)) lNil) [.own true P0, .dat (.int 2), .dat (.int 3), .dat (.int w), .own false (.l []), .un, .un, .un, .un] = some (rangeD 0 2, [.own true P0, .dat (.int 2), .dat (.int 3), .dat (.int w), .own false (.l []), .un, .un, .un, .un]) := q_iR (j := 2) (by simp) (by decide)
  have g_is : g_Ldevice = fSq gD1 (fSq (fFor (iRange1 (lCons (fC (.int 2)) lNil)) (tName 5) gT) (fSq gD3 gD4)) := rfl
  match acc, la2, ha with
  | [u, v], _, ha =>
    obtain ⟨n, rows, rfl, hu⟩ := (ha u (by simp)).1.is
    obtain ⟨m, rows', rfl, hv⟩ := (ha v (by simp)).1.is
    have n2 : n ≤ 2 := (ha (.tuple [.int n, .tuple rows]) (by simp)).2
    have m2 : m ≤ 2 := (ha (.tuple [.int m, .tuple rows']) (by simp)).2
    have a0 : atI [PyData.tuple [.int n, .tuple rows], .tuple [.int m, .tuple rows']] 0 = some (.tuple [.int n, .tuple rows]) := rfl
    have a1 : atI [PyData.tuple [.int n, .tuple rows], .tuple [.int m, .tuple rows']] 1 = some (.tuple [.int m, .tuple rows']) := rfl
    have fin : ∀ (rig : PyData) (ρ2 : Rho), fSq gD3 gD4 [.own true P1, .dat (.int 2), .dat (.int 3), .dat (.int w), .own false (.l [.tuple [.int n, .tuple rows], .tuple [.int m, .tuple rows']]), s5, s6, s7, s8] = some (.rt rig ρ2) → backP 3 ρ2 = [.own true P1, .un, .un] → F_Ldevice [.own true P, .dat (.int 2), .dat (.int 3)] = some (rig, [.own true P1, .un, .un]) := fun rig ρ2 e eb => by
      have z : g_Ldevice [.own true P, .dat (.int 2), .dat (.int 3), .un, .un, .un, .un, .un, .un] = some (.rt rig ρ2) := by
        rw [g_is, sq_nx st1, sq_nx ((for_it it).trans el)]
        exact e
      have y := body_rt (m := 6) (g := g_Ldevice) (sls := [.own true P, .dat (.int 2), .dat (.int 3)]) rfl z
      rw [← eb]
      exact y
    by_cases h3 : w < 3
    · have c : ltD (.int w) (.int 3) = some (.bool true) := by
        show some (PyData.bool (decide (w < 3))) = _
        rw [decide_eq_true h3]
      have st : gD3 [.own true P1, .dat (.int 2), .dat (.int 3), .dat (.int w), .own false (.l [.tuple [.int n, .tuple rows], .tuple [.int m, .tuple rows']]), s5, s6, s7, s8] = some (.rt (D1 n rows) [.own true P1, .dat (.int 2), .dat (.int 3), .dat (.int w), .own false (.l [.tuple [.int n, .tuple rows], .tuple [.int m, .tuple rows']]), s5, s6, s7, s8]) := by
        simp [gD3, c, a0, f2]
      exact ⟨_, P1, _, fin _ _ (sq_rt st) (by simp [List.range, List.range.loop]), .one hu, hP1⟩
    · have c : ltD (.int w) (.int 3) = some (.bool false) := by
        show some (PyData.bool (decide (w < 3))) = _
        rw [decide_eq_false h3]
      have st : gD3 [.own true P1, .dat (.int 2), .dat (.int 3), .dat (.int w), .own false (.l [.tuple [.int n, .tuple rows], .tuple [.int m, .tuple rows']]), s5, s6, s7, s8] = some (.nx [.own true P1, .dat (.int 2), .dat (.int 3), .dat (.int w), .own false (.l [.tuple [.int n, .tuple rows], .tuple [.int m, .tuple rows']]), s5, s6, s7, s8]) := by
        simp [gD3, c]
      obtain ⟨x, hx, _, ex⟩ := atI_int (xs := [PyData.str "plain", .str "inclusive", .str "victim"]) (i := w - 3) (by omega) (by simp; omega)
      have hm : ∃ mode ∈ modes, x = .str mode := by
        simp only [List.mem_cons, List.not_mem_nil, or_false] at hx
        rcases hx with rfl | rfl | rfl
        · exact ⟨"plain", by simp [modes], rfl⟩
        · exact ⟨"inclusive", by simp [modes], rfl⟩
        · exact ⟨"victim", by simp [modes], rfl⟩
      obtain ⟨mode, hmm, rfl⟩ := hm
      have st4 : gD4 [.own true P1, .dat (.int 2), .dat (.int 3), .dat (.int w), .own false (.l [.tuple [.int n, .tuple rows], .tuple [.int m, .tuple rows']]), s5, s6, s7, s8] = some (.rt (Dv mode n m rows rows') [.own true P1, .dat (.int 2), .dat (.int 3), .dat (.int w), .own false (.l [.tuple [.int n, .tuple rows], .tuple [.int m, .tuple rows']]), s5, s6, s7, s8]) := by
        simp [gD4, ex, a0, a1, f3]
      exact ⟨_, P1, _, fin _ _ ((sq_nx st).trans st4) (by simp [List.range, List.range.loop]), .two hu hv hmm (by omega), hP1⟩
end K77
namespace K77
open PySem PySem.Spec PyProof.Rows L2 GX StX DL BX
theorem m_lines {rig : PyData} {N : Nat} (R : Rig rig N) : F_countlines [.dat rig] = some (.int (N : Int), [.un]) := by
  have c := R.chk
  have f1 : fits 1 = true := by decide
  have f2 : fits 2 = true := by decide
  cases R with
  | @one n rows t =>
    have n1 := t.n1
    have e : ((n.toNat : Nat) : Int) = n := by omega
    rw [e]
    have s : sliceD (.tuple [.str "cache", .tuple [.int n, .tuple rows]]) (some 1) none = some (.tuple [.tuple [.int n, .tuple rows]]) := rfl
    have sm : sumD [.list [.int n]] = some (.int n) := by simp [sumD, intsOf]
    simp [F_countlines, g_countlines, c, s, cLoop, f1, wipeR, sm, List.range, List.range.loop]
  | @two mode n m rows rows' t t' hm h =>
    have n1 := t.n1
    have m1 := t'.n1
    have e : (((n + m).toNat : Nat) : Int) = n + m := by omega
    rw [e]
    have s : sliceD (.tuple [.str mode, .tuple [.int n, .tuple rows], .tuple [.int m, .tuple rows']]) (some 1) none = some (.tuple [.tuple [.int n, .tuple rows], .tuple [.int m, .tuple rows']]) := rfl
    have sm : sumD [.list [.int n, .int m]] = some (.int (n + m)) := by simp [sumD, intsOf]
    simp [F_countlines, g_countlines, c, s, cLoop, f1, f2, wipeR, sm, List.range, List.range.loop]
/-- what a device answers to a row -/
structure Acc (rig : PyData) (L : List Str) (hs : List Bool) (N : Nat) (B B' : Bs) : Prop where
  run : RunR rig B L hs B'
  st : F_startof [.dat rig] = some (placeD B, [.un])
  b0 : ∀ x, some x ∉ cB B
  l0 : (cB B).length = N
theorem acc_of {rig : PyData} {N : Nat} (R : Rig rig N) {L : List Str} (hw : ∀ w ∈ L, NameOk w) : ∃ hs B B', Acc rig L hs N B B' := by
  have no : ∀ (k : Int) (x : Str), some x ∉ (nones k : Ls) := fun k x h => by
    unfold nones at h
    have := List.eq_of_mem_replicate h
    cases this
  cases R with
  | @one n rows t =>
    obtain ⟨hs, B', r, _⟩ := RunR.ex (dev1 t) L (.one 0 (nones n)) (.mk (start1 t)) hw
    exact ⟨hs, _, B', r, m_start1 t.n1 t.n4, fun x => no n x, by show (nones n : Ls).length = _; unfold nones; rw [List.length_replicate]⟩
  | @two mode n m rows rows' t t' hm h =>
    obtain ⟨hs, B', r, _⟩ := RunR.ex (dev2 t t' hm) L (.two ⟨0, 0, nones n, nones m⟩) (.mk (Inv.start t t')) hw
    refine ⟨hs, _, B', r, m_start2 t.n1 t.n4 t'.n1 t'.n4, fun x hx => ?_, ?_⟩
    · rcases List.mem_append.mp hx with z | z
      · exact no n x z
      · exact no m x z
    · show (nones n ++ nones m : Ls).length = _
      have := t.n1
      have := t'.n1
      unfold nones
      rw [List.length_append, List.length_replicate, List.length_replicate]
      omega
section
variable {rig : PyData} {L : List Str} {hs : List Bool} {N : Nat} {B B' : Bs}
theorem Acc.ru (A : Acc rig L hs N B B') : ∃ b, Ru L hs N b := by
  obtain ⟨b, b0, st⟩ := A.run.seq
  exact ⟨b, st, fun x => by rw [b0]; exact A.b0 x, by rw [b0]; exact A.l0, A.run.len⟩
theorem Acc.ans (A : Acc rig L hs N B B') (R : Rig rig N) (hl : L.length ≤ 1000) (hw : ∀ w ∈ L, NameOk w) : F_answers [.dat rig, .dat (rowD L)] = some (.tuple (bls hs), [.un, .un]) :=
  A.run.ans (by omega) R.chk (m_history (by omega) hw) A.st
theorem Acc.cnt (A : Acc rig L hs N B B') (R : Rig rig N) (hl : L.length ≤ 1000) (hw : ∀ w ∈ L, NameOk w) : F_countmisses [.dat rig, .dat (rowD L)] = some (.int ((L.length - hs.countP fun b => b : Nat) : Int), [.un, .un]) := by
  have a := A.ans R hl hw
  have c := count_tup hs false
  rw [cp_false, count_f, A.run.len] at c
  generalize bls hs = ds at a c
  generalize (hs.countP fun b => b) = k at c ⊢
  have ty : tyD "tuple" (.tuple ds) = true := rfl
  simp [F_countmisses, g_countmisses, a, c, ty, List.range, List.range.loop]
/-- kept of what is drawn -/
theorem Acc.kept (A : Acc rig L hs N B B') (R : Rig rig N) : fitsB L N (bsOf L (hitNx L hs)) = true ∧ (bsOf L (hitNx L hs)).countP (fun b => b) = hs.countP (fun b => b) ∧ hs.countP (fun b => b) ≤ GN L N := by
  obtain ⟨b, r⟩ := A.ru
  refine ⟨r.fit.fits, ?_, ?_⟩
  · rw [count_t (L := L) bsOf_len, St_of]
    exact r.hits
  · rw [← r.hits]
    exact r.fit.le R.n1.1
end
end K77
namespace K77
open PySem PySem.Spec PyProof.Rows L2 GX StX DL BX
/-- what a cache holds -/
abbrev fsO (r p h m : PyData) : List (Str × PyData) := [("served", r), ("place", p), ("hit_count", h), ("miss_count", m)]
section
variable {r p h m d : PyData}
theorem lk_s : (fsO r p h m).lookup ("served" : Str) = some r := rfl
theorem lk_p : (fsO r p h m).lookup ("place" : Str) = some p := rfl
theorem lk_h : (fsO r p h m).lookup ("hit_count" : Str) = some h := rfl
theorem lk_m : (fsO r p h m).lookup ("miss_count" : Str) = some m := rfl
theorem lk_take : (fsO r p h m).lookup ("take" : Str) = none := rfl
theorem lk_req : (fsO r p h m).lookup ("request" : Str) = none := rfl
theorem pt_p : putD' "place" d (fsO r p h m) = fsO r d h m := rfl
theorem pt_h : putD' "hit_count" d (fsO r p h m) = fsO r p d m := rfl
theorem pt_m : putD' "miss_count" d (fsO r p h m) = fsO r p h d := rfl
abbrev obT (fs : List (Str × PyData)) : Sl := .own true (.o "Cache" fs)
abbrev obF (fs : List (Str × PyData)) : Sl := .own false (.o "Cache" fs)
theorem at_T {fs : List (Str × PyData)} {ρ : Rho} {i : Nat} (e : ρ[i]? = some (obT fs)) : objAt "Cache" i ρ = some (true, fs) := by
  unfold objAt
  rw [e]
  rfl
theorem at_F {fs : List (Str × PyData)} {ρ : Rho} {i : Nat} (e : ρ[i]? = some (obF fs)) : objAt "Cache" i ρ = some (false, fs) := by
  unfold objAt
  rw [e]
  rfl
theorem fld_T {fs : List (Str × PyData)} {ρ : Rho} {i : Nat} {f : Str} {x : PyData} (e : ρ[i]? = some (obT fs)) (l : fs.lookup f = some x) : fFld "Cache" i f ρ = some (x, ρ) := by
  unfold fFld
  rw [at_T e]
  dsimp only
  rw [l]
theorem set_T {fs fs' : List (Str × PyData)} {ρ ρ1 : Rho} {i : Nat} {f : Str} {g : EF} {x : PyData} (hg : g ρ = some (x, ρ1)) (e : ρ1[i]? = some (obT fs)) (l : fs.length < 900) (pt : putD' f x fs = fs') : fSetF "Cache" i f g ρ = some (.nx (ρ1.set i (obT fs'))) := by
  unfold fSetF
  rw [hg]
  dsimp only
  rw [at_T e]
  dsimp only
  rw [if_pos l, pt]
theorem add_T {fs fs' : List (Str × PyData)} {ρ : Rho} {i : Nat} {f : Str} {n k : Int} (e : ρ[i]? = some (obT fs)) (lk : fs.lookup f = some (.int n)) (l : fs.length < 900) (pt : putD' f (.int (n + k)) fs = fs') : fAddF "Cache" i f (fC (.int k)) ρ = some (.nx (ρ.set i (obT fs'))) := by
  unfold fAddF
  rw [at_T e]
  dsimp only
  rw [lk]
  show (match objAt "Cache" i ρ with
    | some (b, fs) => if fs.length < 900 then some (Out.nx (ρ.set i (.own b (.o "Cache" (putD' f (.int (n + k)) fs))))) else none
    | none => none) = _
  rw [at_T e]
  dsimp only
  rw [if_pos l, pt]
/-- the cache is made -/
theorem m_init {rig : PyData} {N : Nat} {x : PyData} (R : Rig rig N) (st : F_startof [.dat rig] = some (x, [.un])) : F_Minit [obT [], .dat rig] = some (.none, [obT (fsO rig x (.int 0) (.int 0)), .un]) := by
  have c := R.chk
  have z : g_Minit = fSq (fDrop (fCa 1 F_checkdevice (aCons (gVar 1) aNil))) (fSq (fSetF "Cache" 0 "served" (fVar 1)) (fSq (fSetF "Cache" 0 "place" (fCa 1 F_startof (aCons (gVar 1) aNil))) (fSq (fSetF "Cache" 0 "hit_count" (fC (.int 0))) (fSq (fSetF "Cache" 0 "miss_count" (fC (.int 0))) fNx)))) := rfl
  have s0 : fDrop (fCa 1 F_checkdevice (aCons (gVar 1) aNil)) [obT [], .dat rig] = some (.nx [obT [], .dat rig]) := by simp [c]
  have s1 : fSetF "Cache" 0 "served" (fVar 1) [obT [], .dat rig] = some (.nx [obT [("served", rig)], .dat rig]) := set_T (ρ1 := [obT [], .dat rig]) (x := rig) (by simp) rfl (by decide) rfl
  have s2 : fSetF "Cache" 0 "place" (fCa 1 F_startof (aCons (gVar 1) aNil)) [obT [("served", rig)], .dat rig] = some (.nx [obT [("served", rig), ("place", x)], .dat rig]) := set_T (ρ1 := [obT [("served", rig)], .dat rig]) (x := x) (by simp [st]) rfl (by show 1 < 900; omega) rfl
  have s3 : fSetF "Cache" 0 "hit_count" (fC (.int 0)) [obT [("served", rig), ("place", x)], .dat rig] = some (.nx [obT [("served", rig), ("place", x), ("hit_count", .int 0)], .dat rig]) := set_T (ρ1 := [obT [("served", rig), ("place", x)], .dat rig]) (x := .int 0) rfl rfl (by show 2 < 900; omega) rfl
  have s4 : fSetF "Cache" 0 "miss_count" (fC (.int 0)) [obT [("served", rig), ("place", x), ("hit_count", .int 0)], .dat rig] = some (.nx [obT (fsO rig x (.int 0) (.int 0)), .dat rig]) := set_T (ρ1 := [obT [("served", rig), ("place", x), ("hit_count", .int 0)], .dat rig]) (x := .int 0) rfl rfl (by show 3 < 900; omega) rfl
  have e : g_Minit [obT [], .dat rig] = some (.nx [obT (fsO rig x (.int 0) (.int 0)), .dat rig]) := by
    rw [z, sq_nx s0, sq_nx s1, sq_nx s2, sq_nx s3, sq_nx s4]
    rfl
  show fBody 0 g_Minit [obT [], .dat rig] = _
  rw [q_fBody, show [obT [], .dat rig] ++ List.replicate 0 Sl.un = [obT [], .dat rig] from rfl, e]
  rfl
theorem m_checkname {w : Str} (h : NameOk w) : F_checkname [.dat (.str w)] = some (.none, [.un]) := by
  have e := h.1
  simp [F_checkname, g_checkname, e, List.range, List.range.loop]
/-- a request, of the cache's own -/
theorem m_take {rig : PyData} {B B1 : Bs} {w : Str} {hit : Bool} {h k : Int} (es : F_serve [.dat rig, .dat (stB B), .dat (ctB B), .dat (.str w)] = some (.tuple [.bool hit, stB B1, ctB B1], [.un, .un, .un, .un])) :
    F_Mtake [obT (fsO rig (placeD B) (.int h) (.int k)), .dat (.str w)] = some (.bool hit, [obT (fsO rig (placeD B1) (.int (h + if hit then 1 else 0)) (.int (k + if hit then 0 else 1))), .un]) := by
  have z : g_Mtake = fSq (fAsg (fCa 4 F_serve (aCons (gVal (fFld "Cache" 0 "served")) (aCons (gVal (fOp ixD (gVal (fFld "Cache" 0 "place")) (gVal (fC (.int 0))))) (aCons (gVal (fOp ixD (gVal (fFld "Cache" 0 "place")) (gVal (fC (.int 1))))) (aCons (gVar 1) aNil))))) (tTupT 3 [(tName 2), (tName 3), (tName 4)]))
    (fSq (fSetF "Cache" 0 "place" (fTup (lCons (fVar 3) (lCons (fVar 4) lNil)))) (fSq (fIfS (fTst (fVar 2)) (fSq (fAddF "Cache" 0 "hit_count" (fC (.int 1))) fNx) (fSq (fAddF "Cache" 0 "miss_count" (fC (.int 1))) fNx)) (fSq (fRet (fVar 2)) fNx))) := rfl
  have f1 : fFld "Cache" 0 "served" [obT (fsO rig (placeD B) (.int h) (.int k)), .dat (.str w), .un, .un, .un] = some (rig, [obT (fsO rig (placeD B) (.int h) (.int k)), .dat (.str w), .un, .un, .un]) := fld_T rfl lk_s
  have f2 : fFld "Cache" 0 "place" [obT (fsO rig (placeD B) (.int h) (.int k)), .dat (.str w), .un, .un, .un] = some (.tuple [stB B, ctB B], [obT (fsO rig (placeD B) (.int h) (.int k)), .dat (.str w), .un, .un, .un]) := fld_T rfl lk_p
  have a0 : atI [stB B, ctB B] 0 = some (stB B) := rfl
  have a1 : atI [stB B, ctB B] 1 = some (ctB B) := rfl
  have s1 : fAsg (fCa 4 F_serve (aCons (gVal (fFld "Cache" 0 "served")) (aCons (gVal (fOp ixD (gVal (fFld "Cache" 0 "place")) (gVal (fC (.int 0))))) (aCons (gVal (fOp ixD (gVal (fFld "Cache" 0 "place")) (gVal (fC (.int 1))))) (aCons (gVar 1) aNil))))) (tTupT 3 [(tName 2), (tName 3), (tName 4)]) [obT (fsO rig (placeD B) (.int h) (.int k)), .dat (.str w), .un, .un, .un] = some (.nx [obT (fsO rig (placeD B) (.int h) (.int k)), .dat (.str w), .dat (.bool hit), .dat (stB B1), .dat (ctB B1)]) := by
    generalize fsO rig (placeD B) (.int h) (.int k) = fs at f1 f2 ⊢
    simp [f1, f2, a0, a1, es]
  have s2 : fSetF "Cache" 0 "place" (fTup (lCons (fVar 3) (lCons (fVar 4) lNil))) [obT (fsO rig (placeD B) (.int h) (.int k)), .dat (.str w), .dat (.bool hit), .dat (stB B1), .dat (ctB B1)] = some (.nx [obT (fsO rig (placeD B1) (.int h) (.int k)), .dat (.str w), .dat (.bool hit), .dat (stB B1), .dat (ctB B1)]) := by
    have f2 : fits 2 = true := by decide
    exact set_T (ρ1 := [obT (fsO rig (placeD B) (.int h) (.int k)), .dat (.str w), .dat (.bool hit), .dat (stB B1), .dat (ctB B1)]) (x := placeD B1) (by simp [f2]; rfl) rfl (by show 4 < 900; omega) pt_p
  have s3 : fIfS (fTst (fVar 2)) (fSq (fAddF "Cache" 0 "hit_count" (fC (.int 1))) fNx) (fSq (fAddF "Cache" 0 "miss_count" (fC (.int 1))) fNx) [obT (fsO rig (placeD B1) (.int h) (.int k)), .dat (.str w), .dat (.bool hit), .dat (stB B1), .dat (ctB B1)] = some (.nx [obT (fsO rig (placeD B1) (.int (h + if hit then 1 else 0)) (.int (k + if hit then 0 else 1))), .dat (.str w), .dat (.bool hit), .dat (stB B1), .dat (ctB B1)]) := by
    have t : fTst (fVar 2) [obT (fsO rig (placeD B1) (.int h) (.int k)), .dat (.str w), .dat (.bool hit), .dat (stB B1), .dat (ctB B1)] = some (hit, [obT (fsO rig (placeD B1) (.int h) (.int k)), .dat (.str w), .dat (.bool hit), .dat (stB B1), .dat (ctB B1)]) := by simp
    cases hit with
    | true =>
      rw [ifs_t t]
      have q := add_T (ρ := [obT (fsO rig (placeD B1) (.int h) (.int k)), .dat (.str w), .dat (.bool true), .dat (stB B1), .dat (ctB B1)]) (i := 0) (k := 1) rfl lk_h (by show 4 < 900; omega) (pt_h (r := rig) (p := placeD B1) (h := .int h) (m := .int k) (d := .int (h + 1)))
      rw [sq_nx q]
      simp
    | false =>
      rw [ifs_f t]
      have q := add_T (ρ := [obT (fsO rig (placeD B1) (.int h) (.int k)), .dat (.str w), .dat (.bool false), .dat (stB B1), .dat (ctB B1)]) (i := 0) (k := 1) rfl lk_m (by show 4 < 900; omega) (pt_m (r := rig) (p := placeD B1) (h := .int h) (m := .int k) (d := .int (k + 1)))
      rw [sq_nx q]
      simp
  have s4 : fSq (fRet (fVar 2)) fNx [obT (fsO rig (placeD B1) (.int (h + if hit then 1 else 0)) (.int (k + if hit then 0 else 1))), .dat (.str w), .dat (.bool hit), .dat (stB B1), .dat (ctB B1)] = some (.rt (.bool hit) [obT (fsO rig (placeD B1) (.int (h + if hit then 1 else 0)) (.int (k + if hit then 0 else 1))), .dat (.str w), .dat (.bool hit), .dat (stB B1), .dat (ctB B1)]) := by simp
  have e : g_Mtake [obT (fsO rig (placeD B) (.int h) (.int k)), .dat (.str w), .un, .un, .un] = some (.rt (.bool hit) [obT (fsO rig (placeD B1) (.int (h + if hit then 1 else 0)) (.int (k + if hit then 0 else 1))), .dat (.str w), .dat (.bool hit), .dat (stB B1), .dat (ctB B1)]) := by
    rw [z, sq_nx s1, sq_nx s2, sq_nx s3]
    exact s4
  exact (body_rt (m := 3) (g := g_Mtake) (sls := [obT (fsO rig (placeD B) (.int h) (.int k)), .dat (.str w)]) rfl e).trans (by simp [List.range, List.range.loop])
theorem mt_call {fs fs' : List (Str × PyData)} {m : Str} {F : FF} {w : PyData} {d : PyData} {i j : Nat} {b : Bool} {ρ : Rho} (hi : ρ[i]? = some (.own b (.o "Cache" fs))) (hj : ρ[j]? = some (.dat w)) (lk : fs.lookup m = none) (e : F [obT fs, .dat w] = some (d, [obT fs', .un])) :
    fMt 2 F "Cache" i m (aCons (gVar j) aNil) ρ = some (d, ρ.set i (.own b (.o "Cache" fs'))) := by
  have o : objAt "Cache" i ρ = some (b, fs) := by
    unfold objAt
    rw [hi]
    rfl
  have g : gObj "Cache" i ρ = some (.v i, ρ) := by
    unfold gObj
    rw [o]
  unfold fMt
  rw [o]
  dsimp only
  rw [if_pos lk]
  have gj : gVar j ρ = some (.v j, ρ) := by simp [hj]
  have al : aCons (gObj "Cache" i) (aCons (gVar j) aNil) ρ = some ([.v i, .v j], ρ) := by simp only [q_aCons, g, gj, q_aNil]
  have nd : (([.v i, .v j] : List Ag).filterMap (ownJ ρ)).Nodup := by
    simp [ownJ, hi, hj]
  have ts : ([.v i, .v j] : List Ag).map (toSl ρ) = [obT fs, .dat w] := by simp [toSl, hi, hj]
  have bc : backC ρ [.v i, .v j] [obT fs', .un] = ρ.set i (.own b (.o "Cache" fs')) := by
    simp [backC, hi, hj]
  rw [q_fCa, q_fCall, al]
  dsimp only
  rw [if_pos nd, ts, e]
  dsimp only
  rw [if_pos (show [obT fs', Sl.un].length = [Ag.v i, Ag.v j].length from rfl), bc]
  rfl
theorem m_request {rig : PyData} {B B1 : Bs} {w : Str} {hit : Bool} {h k : Int} (hw : NameOk w) (es : F_serve [.dat rig, .dat (stB B), .dat (ctB B), .dat (.str w)] = some (.tuple [.bool hit, stB B1, ctB B1], [.un, .un, .un, .un])) :
    F_Mrequest [obT (fsO rig (placeD B) (.int h) (.int k)), .dat (.str w)] = some (.bool hit, [obT (fsO rig (placeD B1) (.int (h + if hit then 1 else 0)) (.int (k + if hit then 0 else 1))), .un]) := by
  have z : g_Mrequest = fSq (fDrop (fCa 1 F_checkname (aCons (gVar 1) aNil))) (fSq (fRet (fMt 2 F_Mtake "Cache" 0 "take" (aCons (gVar 1) aNil))) fNx) := rfl
  have c := m_checkname hw
  have s1 : fDrop (fCa 1 F_checkname (aCons (gVar 1) aNil)) [obT (fsO rig (placeD B) (.int h) (.int k)), .dat (.str w)] = some (.nx [obT (fsO rig (placeD B) (.int h) (.int k)), .dat (.str w)]) := by
    generalize fsO rig (placeD B) (.int h) (.int k) = fs
    simp [c]
  have s2 := mt_call (m := "take") (F := F_Mtake) (i := 0) (j := 1) (b := true) (ρ := [obT (fsO rig (placeD B) (.int h) (.int k)), .dat (.str w)]) rfl rfl lk_take (m_take (h := h) (k := k) es)
  have e : g_Mrequest [obT (fsO rig (placeD B) (.int h) (.int k)), .dat (.str w)] = some (.rt (.bool hit) [obT (fsO rig (placeD B1) (.int (h + if hit then 1 else 0)) (.int (k + if hit then 0 else 1))), .dat (.str w)]) := by
    rw [z, sq_nx s1]
    exact sq_rt (ret_at s2)
  exact (body_rt (m := 0) (g := g_Mrequest) (sls := [obT (fsO rig (placeD B) (.int h) (.int k)), .dat (.str w)]) rfl e).trans (by simp [List.range, List.range.loop])
end
end K77
namespace K77
open PySem PySem.Spec PyProof.Rows L2 GX StX DL BX
section
variable {rig : PyData} {L : List Str} {hs : List Bool} {N : Nat} {B B' : Bs}
/-- two values, an operation -/
theorem op_vv {op : PyData → PyData → Option PyData} {f g : EF} {ρ : Rho} {a b r : PyData} (e1 : f ρ = some (a, ρ)) (e2 : g ρ = some (b, ρ)) (q : op a b = some r) : fOp op (gVal f) (gVal g) ρ = some (r, ρ) := by
  rw [q_fOp, q_gVal, e1]
  dsimp only
  rw [q_gVal, e2]
  simp [q]
abbrev dS (rig r : PyData) (s2 s3 s4 s5 s6 s7 s8 : Sl) : Rho := [.dat rig, .dat r, s2, s3, s4, s5, s6, s7, s8]
def gV1 : SF := fAsg (fTup (lCons (fCa 1 F_countlines (aCons (gVar 0) aNil)) (lCons (fCa 2 F_answers (aCons (gVar 0) (aCons (gVar 1) aNil))) lNil))) (tTupT 2 [(tName 2), (tName 3)])
def gV2 : SF := fAsg (fCa 1 F_Llater (aCons (gVar 1) aNil)) (tName 4)
def gVk : LF := fComp (iSeq (fVar 4)) [6] (tName 6) fYes (fAndV (fOp isNotD (gVar 6) (gVal (fC .none))) (fOp ixD (gVar 3) (gVar 6)))
def gV3 : SF := fAsg (fCl tupleD (aCons (gVal (fLst gVk)) aNil)) (tName 5)
def gVa : TF := fNot (fTst (fCa 1 F_isdevice (aCons (gVar 0) aNil)))
def gVb : TF := fTst (fOp isNotBD (gVal (fCa 3 F_iskeeping (aCons (gVar 1) (aCons (gVar 2) (aCons (gVar 5) aNil))))) (gVal (fC (.bool true))))
def gV4 : SF := fIfS (fOr gVa gVb) (fSq (fRet (fC (.bool false))) fNx) fNx
def gVc : TF := fTst (fOp neD (gVal (fCa 2 F_countmisses (aCons (gVar 0) (aCons (gVar 1) aNil)))) (gVal (fOp subD (gVal (fCl lenD (aCons (gVar 1) aNil))) (gVal (fMe "tuple" tCountD (gVar 5) (aCons (gVal (fC (.bool true))) aNil))))))
def gVd : TF := fTst (fOp ltD (gVal (fCa 2 F_countmisses (aCons (gVar 0) (aCons (gVar 1) aNil)))) (gVal (fCa 2 F_leastmisses (aCons (gVar 1) (aCons (gVar 2) aNil)))))
def gV5 : SF := fIfS (fOr gVc gVd) (fSq (fRet (fC (.bool false))) fNx) fNx
def gV6 : SF := fMk 7 "Cache" 2 F_Minit (aCons (gVar 0) aNil)
def gVr : LF := fComp (iSeq (fVar 1)) [8] (tName 8) fYes (fMt 2 F_Mrequest "Cache" 7 "request" (aCons (gVar 8) aNil))
def gVe : EF := fOp eqD (gVal (fLst gVr)) (gVal (fLst (fListC (aCons (gVar 3) aNil))))
def gVf : EF := fOp geD (gVal (fPr F_Mmisses "Cache" 7)) (gVal (fCa 2 F_leastmisses (aCons (gVar 1) (aCons (gVar 2) aNil))))
def gV7 : SF := fRet (fAndV gVe gVf)
theorem gV_is : g_Ldeviceright = fSq gV1 (fSq gV2 (fSq gV3 (fSq gV4 (fSq gV5 (fSq gV6 (fSq gV7 fNx)))))) := rfl
theorem v1_at {r a : PyData} {n : Int} (e1 : F_countlines [.dat rig] = some (.int n, [.un])) (e2 : F_answers [.dat rig, .dat r] = some (a, [.un, .un])) : gV1 (dS rig r .un .un .un .un .un .un .un) = some (.nx (dS rig r (.dat (.int n)) (.dat a) .un .un .un .un .un)) := by
  have f2 : fits 2 = true := by decide
  simp [gV1, e1, e2, f2]
theorem v2_at {r g : PyData} {s2 s3 : Sl} (e : F_Llater [.dat r] = some (g, [.un])) : gV2 (dS rig r s2 s3 .un .un .un .un .un) = some (.nx (dS rig r s2 s3 (.dat g) .un .un .un .un)) := by
  simp [gV2, e]
theorem ix_hs {j : Nat} (h : j < hs.length) : ixD (.tuple (bls hs)) (.int (j : Nat)) = some (.bool (hs.getD j false)) := by
  have a := atB h
  generalize bls hs = xs at a ⊢
  generalize hs.getD j false = b at a ⊢
  exact a
theorem vk_at {r : PyData} {s2 : Sl} (hl : L.length ≤ 1000) (ln : hs.length = L.length) : gVk (dS rig r s2 (.dat (.tuple (bls hs))) (.dat (.list (NX L))) .un .un .un .un) = some (bls (bsOf L (hitNx L hs)), dS rig r s2 (.dat (.tuple (bls hs))) (.dat (.list (NX L))) .un .un .un .un) := by
  have z := comp_all (it := iSeq (fVar 4)) (ks := [6]) (t := tName 6) (f := fAndV (fOp isNotD (gVar 6) (gVal (fC .none))) (fOp ixD (gVar 3) (gVar 6))) (fun i => oN (nxt L i)) (fun i => PyData.bool (hitNx L hs i)) (ρ := dS rig r s2 (.dat (.tuple (bls hs))) (.dat (.list (NX L))) .un .un .un .un) (ρ1 := dS rig r s2 (.dat (.tuple (bls hs))) (.dat (.list (NX L))) .un .un .un .un) (List.range L.length) (by
      generalize bls hs = xs
      simp [NX]) rfl (fun i hi => by
      refine ⟨dS rig r s2 (.dat (.tuple (bls hs))) (.dat (.list (NX L))) .un (.dat (oN (nxt L i))) .un .un, dS rig r s2 (.dat (.tuple (bls hs))) (.dat (.list (NX L))) .un (.dat (oN (nxt L i))) .un .un, rfl, ?_, rfl⟩
      unfold hitNx
      cases e : nxt L i with
      | none => exact andV_f (by simp [isNot_at]; rfl)
      | some j =>
        have hj : j < hs.length := by rw [ln]; exact (nxt_spec e).2.1
        have q := ix_hs hj
        generalize bls hs = xs at q ⊢
        refine (andV_t (ρ1 := dS rig r s2 (.dat (.tuple xs)) (.dat (.list (NX L))) .un (.dat (oN (some j))) .un .un) ?_).trans ?_
        · simp [isNot_at]; rfl
        · show fOp ixD (gVar 3) (gVar 6) (dS rig r s2 (.dat (.tuple xs)) (.dat (.list (NX L))) .un (.dat (.int (j : Nat))) .un .un) = _
          simp [q]
          rfl) (by simp; omega)
  refine Eq.trans z ?_
  simp only [bls, bsOf, List.map_map]
  rfl
theorem v3_at {ρ : Rho} {ds : List PyData} (e : gVk ρ = some (ds, ρ)) : gV3 ρ = some (.nx (ρ.set 5 (.dat (.tuple ds)))) := by
  unfold gV3
  generalize gVk = f at e ⊢
  simp [e]
theorem va_at {r : PyData} {s2 s3 s4 s5 s6 s7 s8 : Sl} (e : F_isdevice [.dat rig] = some (.bool true, [.un])) : gVa (dS rig r s2 s3 s4 s5 s6 s7 s8) = some (false, dS rig r s2 s3 s4 s5 s6 s7 s8) := by
  simp [gVa, e]
theorem vb_at {r k : PyData} {n : Int} {s3 s4 s6 s7 s8 : Sl} (e : F_iskeeping [.dat r, .dat (.int n), .dat k] = some (.bool true, [.un, .un, .un])) : gVb (dS rig r (.dat (.int n)) s3 s4 (.dat k) s6 s7 s8) = some (false, dS rig r (.dat (.int n)) s3 s4 (.dat k) s6 s7 s8) := by
  have q : isNotBD (.bool true) (.bool true) = some (.bool false) := rfl
  simp [gVb, e, q]
theorem vc_at {xs ks : List PyData} {n c h : Int} {s3 s4 s6 s7 s8 : Sl} (e : F_countmisses [.dat rig, .dat (.tuple xs)] = some (.int c, [.un, .un])) (k : tCountD (.tuple ks) [.bool true] = some (.int h)) (q : c = xs.length - h) : gVc (dS rig (.tuple xs) (.dat (.int n)) s3 s4 (.dat (.tuple ks)) s6 s7 s8) = some (false, dS rig (.tuple xs) (.dat (.int n)) s3 s4 (.dat (.tuple ks)) s6 s7 s8) := by
  have ty : tyD "tuple" (.tuple ks) = true := rfl
  have ne := ne_int c c
  rw [decide_eq_true rfl] at ne
  have e1 : fOp subD (gVal (fCl lenD (aCons (gVar 1) aNil))) (gVal (fMe "tuple" tCountD (gVar 5) (aCons (gVal (fC (.bool true))) aNil))) (dS rig (.tuple xs) (.dat (.int n)) s3 s4 (.dat (.tuple ks)) s6 s7 s8) = some (.int c, dS rig (.tuple xs) (.dat (.int n)) s3 s4 (.dat (.tuple ks)) s6 s7 s8) := by
    simp [k, ty, q]
  have e0 : fCa 2 F_countmisses (aCons (gVar 0) (aCons (gVar 1) aNil)) (dS rig (.tuple xs) (.dat (.int n)) s3 s4 (.dat (.tuple ks)) s6 s7 s8) = some (.int c, dS rig (.tuple xs) (.dat (.int n)) s3 s4 (.dat (.tuple ks)) s6 s7 s8) := by
    simp [e]
  unfold gVc
  rw [q_fTst, op_vv e0 e1 ne]
  rfl
theorem vd_at {r : PyData} {n c l : Int} {s3 s4 s5 s6 s7 s8 : Sl} (e : F_countmisses [.dat rig, .dat r] = some (.int c, [.un, .un])) (k : F_leastmisses [.dat r, .dat (.int n)] = some (.int l, [.un, .un])) (q : l ≤ c) : gVd (dS rig r (.dat (.int n)) s3 s4 s5 s6 s7 s8) = some (false, dS rig r (.dat (.int n)) s3 s4 s5 s6 s7 s8) := by
  have d : decide (c < l) = false := decide_eq_false (by omega)
  have lt : ltD (.int c) (.int l) = some (.bool false) := by
    show some (PyData.bool (decide (c < l))) = _
    rw [d]
  simp [gVd, e, k, lt]
/-- the cache is made -/
theorem v6_at {r x : PyData} {s2 s3 s4 s5 : Sl} (e : F_Minit [obT [], .dat rig] = some (.none, [obT (fsO rig x (.int 0) (.int 0)), .un])) : gV6 (dS rig r s2 s3 s4 s5 .un .un .un) = some (.nx (dS rig r s2 s3 s4 s5 .un (obF (fsO rig x (.int 0) (.int 0))) .un)) := by
  unfold gV6 fMk
  have g : aCons (gVar 0) aNil (dS rig r s2 s3 s4 s5 .un .un .un) = some ([.v 0], dS rig r s2 s3 s4 s5 .un .un .un) := by simp
  rw [g]
  dsimp only
  have ok : ((([.v 0] : List Ag).all (agNe 7) && decide (([.v 0] : List Ag).length + 1 = 2)) = true ∧ 7 < (dS rig r s2 s3 s4 s5 .un .un .un).length) := ⟨rfl, by simp⟩
  rw [if_pos ok]
  have c : fCall F_Minit (fun ρ => some (.v 7 :: [.v 0], ρ)) ((dS rig r s2 s3 s4 s5 .un .un .un).set 7 (.own false (.o "Cache" []))) = some (.none, dS rig r s2 s3 s4 s5 .un (obF (fsO rig x (.int 0) (.int 0))) .un) := by
    generalize fsO rig x (.int 0) (.int 0) = fs at e ⊢
    simp [fCall, ownJ, toSl, e, backC]
  rw [c]
end
end K77
namespace K77
open PySem PySem.Spec PyProof.Rows L2 GX StX DL BX
section
variable {rig : PyData} {L : List Str} {hs : List Bool} {N : Nat} {B B' : Bs}
abbrev gRq : EF := fMt 2 F_Mrequest "Cache" 7 "request" (aCons (gVar 8) aNil)
theorem rq_loop {rig r : PyData} {s2 s3 s4 s5 s6 : Sl} {B B' : Bs} {ws : List Str} {hs : List Bool} (R : RunR rig B ws hs B') : ∀ (acc : List PyData) (h k : Int), acc.length + ws.length ≤ 100000 → ∃ h' : Int, cLoop [8] (tName 8) fYes gRq (ws.map .str) acc (dS rig r s2 s3 s4 s5 s6 (obF (fsO rig (placeD B) (.int h) (.int k))) .un)
    = some (acc ++ bls hs, dS rig r s2 s3 s4 s5 s6 (obF (fsO rig (placeD B') (.int h') (.int (k + (hs.countP fun b => !b : Nat))))) .un) := by
  induction R with
  | nil => exact fun acc h k _ => ⟨h, by simp [cLoop]⟩
  | @cons B B1 B2 w hit ws hs hw es fa _ ih =>
    intro acc h k hz
    have hf : fits (acc.length + 1) = true := by
      simp only [List.length_cons] at hz
      exact decide_eq_true (by omega)
    obtain ⟨h', e2⟩ := ih (acc ++ [.bool hit]) (h + if hit then 1 else 0) (k + if hit then 0 else 1) (by simp only [List.length_append, List.length_cons, List.length_nil] at hz ⊢; omega)
    refine ⟨h', ?_⟩
    have z := mt_call (m := "request") (F := F_Mrequest) (i := 7) (j := 8) (b := false) (ρ := dS rig r s2 s3 s4 s5 s6 (obF (fsO rig (placeD B) (.int h) (.int k))) (.dat (.str w))) rfl rfl lk_req (m_request (h := h) (k := k) hw es)
    have hk : k + ((List.countP (fun b => !b) (hit :: hs) : Nat) : Int) = (k + if hit then 0 else 1) + ((List.countP (fun b => !b) hs : Nat) : Int) := by
      rw [List.countP_cons]
      cases hit <;> simp <;> omega
    rw [hk]
    have eb : acc ++ bls (hit :: hs) = (acc ++ [.bool hit]) ++ bls hs := by simp [bls]
    rw [eb, ← e2, List.map_cons]
    conv => lhs; unfold cLoop
    simp only [q_tName, q_fYes]
    have z2 : gRq (List.set (dS rig r s2 s3 s4 s5 s6 (obF (fsO rig (placeD B) (.int h) (.int k))) .un) 8 (.dat (.str w))) = some (.bool hit, dS rig r s2 s3 s4 s5 s6 (obF (fsO rig (placeD B1) (.int (h + if hit then 1 else 0)) (.int (k + if hit then 0 else 1)))) (.dat (.str w))) := z
    rw [z2]
    simp only [hf, if_true]
    rfl
theorem vr_at {s2 s3 s4 s5 s6 : Sl} (R : RunR rig B L hs B') (hl : L.length ≤ 1000) : ∃ h' : Int, gVr (dS rig (rowD L) s2 s3 s4 s5 s6 (obF (fsO rig (placeD B) (.int 0) (.int 0))) .un)
    = some (bls hs, dS rig (rowD L) s2 s3 s4 s5 s6 (obF (fsO rig (placeD B') (.int h') (.int (L.length - hs.countP fun b => b : Nat)))) .un) := by
  obtain ⟨h', e⟩ := rq_loop (r := rowD L) (s2 := s2) (s3 := s3) (s4 := s4) (s5 := s5) (s6 := s6) R [] 0 0 (by simp; omega)
  refine ⟨h', ?_⟩
  rw [List.nil_append, count_f, R.len, Int.zero_add] at e
  unfold gVr
  rw [q_fComp, show iSeq (fVar 1) (dS rig (rowD L) s2 s3 s4 s5 s6 (obF (fsO rig (placeD B) (.int 0) (.int 0))) .un) = some (L.map .str, dS rig (rowD L) s2 s3 s4 s5 s6 (obF (fsO rig (placeD B) (.int 0) (.int 0))) .un) by simp]
  dsimp only
  rw [show wipeR (dS rig (rowD L) s2 s3 s4 s5 s6 (obF (fsO rig (placeD B) (.int 0) (.int 0))) .un) [8] = dS rig (rowD L) s2 s3 s4 s5 s6 (obF (fsO rig (placeD B) (.int 0) (.int 0))) .un from rfl]
  exact e
theorem bls_eqv : ∀ hs : List Bool, PyData.eqvAll (bls hs) (bls hs) = true
  | [] => rfl
  | b :: hs => by
    show (PyData.eqv (.bool b) (.bool b) && PyData.eqvAll (bls hs) (bls hs)) = true
    rw [bls_eqv hs]
    cases b <;> rfl
theorem bls_plain (hs : List Bool) : ∀ d ∈ bls hs, Plain d := fun d hd => by
  obtain ⟨b, _, rfl⟩ := List.mem_map.mp hd
  exact ⟨rfl, by simp [PyData.depth]⟩
theorem bls_eq (hs : List Bool) : eqD (.list (bls hs)) (.list (bls hs)) = some (.bool true) := by
  have a := sh_l (bls_plain hs)
  show (if (SeqAt.shaped (.list (bls hs)) && SeqAt.shaped (.list (bls hs))) = true then some (PyData.bool (PyData.eqv (.list (bls hs)) (.list (bls hs)))) else none) = _
  rw [a, show PyData.eqv (.list (bls hs)) (.list (bls hs)) = PyData.eqvAll (bls hs) (bls hs) by simp [PyData.eqv], bls_eqv]
  rfl
theorem ve_at {r : PyData} {s2 s4 s5 s6 s7 s7' : Sl} (hl : hs.length ≤ 1000) (e : gVr (dS rig r s2 (.dat (.tuple (bls hs))) s4 s5 s6 s7 .un) = some (bls hs, dS rig r s2 (.dat (.tuple (bls hs))) s4 s5 s6 s7' .un)) : gVe (dS rig r s2 (.dat (.tuple (bls hs))) s4 s5 s6 s7 .un) = some (.bool true, dS rig r s2 (.dat (.tuple (bls hs))) s4 s5 s6 s7' .un) := by
  have q := bls_eq hs
  have ff : fits (bls hs).length = true := by rw [List.length_map]; exact decide_eq_true (by omega)
  have c : fLst (fListC (aCons (gVar 3) aNil)) (dS rig r s2 (.dat (.tuple (bls hs))) s4 s5 s6 s7' .un) = some (.list (bls hs), dS rig r s2 (.dat (.tuple (bls hs))) s4 s5 s6 s7' .un) := by
    generalize bls hs = xs at ff ⊢
    simp [ff]
  unfold gVe
  rw [q_fOp, q_gVal, q_fLst, e]
  simp only [Option.map_some]
  rw [q_gVal, c]
  simp only [q_look_d]
  rw [q]
theorem m_misses {r p : PyData} {h k : Int} : F_Mmisses [obT (fsO r p (.int h) (.int k))] = some (.int k, [obT (fsO r p (.int h) (.int k))]) := by
  have f : fFld "Cache" 0 "miss_count" [obT (fsO r p (.int h) (.int k))] = some (.int k, [obT (fsO r p (.int h) (.int k))]) := fld_T rfl lk_m
  have e : g_Mmisses [obT (fsO r p (.int h) (.int k))] = some (.rt (.int k) [obT (fsO r p (.int h) (.int k))]) := by
    show fSq (fRet (fFld "Cache" 0 "miss_count")) fNx _ = _
    exact sq_rt (ret_at f)
  exact (body_rt (m := 0) (g := g_Mmisses) (sls := [obT (fsO r p (.int h) (.int k))]) rfl e).trans (by simp [List.range, List.range.loop])
theorem pr_at {fs : List (Str × PyData)} {ρ : Rho} {i : Nat} {F : FF} {d : PyData} (hi : ρ[i]? = some (obF fs)) (e : F [obT fs] = some (d, [obT fs])) : fPr F "Cache" i ρ = some (d, ρ) := by
  have o := at_F hi
  have g : gObj "Cache" i ρ = some (.v i, ρ) := by
    unfold gObj
    rw [o]
  have al : aCons (gObj "Cache" i) aNil ρ = some ([.v i], ρ) := by simp only [q_aCons, g, q_aNil]
  have nd : (([.v i] : List Ag).filterMap (ownJ ρ)).Nodup := by
    simp [ownJ, hi]
  have ts : ([.v i] : List Ag).map (toSl ρ) = [obT fs] := by simp [toSl, hi]
  have bc : backC ρ [.v i] [obT fs] = ρ := by
    have : ρ.set i (obF fs) = ρ := by
      obtain ⟨h, e⟩ := List.getElem?_eq_some_iff.mp hi
      rw [← e]
      exact List.set_getElem_self h
    simp [backC, hi, this]
  unfold fPr
  rw [q_fCa, q_fCall, al]
  dsimp only
  rw [if_pos nd, ts, e]
  dsimp only
  rw [if_pos (show [obT fs].length = [Ag.v i].length from rfl), bc]
  rfl
theorem vf_at {r p : PyData} {h k n l : Int} {s3 s4 s5 s6 : Sl} (e : F_leastmisses [.dat r, .dat (.int n)] = some (.int l, [.un, .un])) (q : l ≤ k) : gVf (dS rig r (.dat (.int n)) s3 s4 s5 s6 (obF (fsO rig p (.int h) (.int k))) .un) = some (.bool true, dS rig r (.dat (.int n)) s3 s4 s5 s6 (obF (fsO rig p (.int h) (.int k))) .un) := by
  have e1 := pr_at (F := F_Mmisses) (ρ := dS rig r (.dat (.int n)) s3 s4 s5 s6 (obF (fsO rig p (.int h) (.int k))) .un) (i := 7) rfl m_misses
  have e2 : fCa 2 F_leastmisses (aCons (gVar 1) (aCons (gVar 2) aNil)) (dS rig r (.dat (.int n)) s3 s4 s5 s6 (obF (fsO rig p (.int h) (.int k))) .un) = some (.int l, dS rig r (.dat (.int n)) s3 s4 s5 s6 (obF (fsO rig p (.int h) (.int k))) .un) := by
    generalize fsO rig p (.int h) (.int k) = fs
    simp [e]
  have d : decide (l ≤ k) = true := decide_eq_true q
  have ge : geD (.int k) (.int l) = some (.bool true) := by
    show some (PyData.bool (decide (l ≤ k))) = _
    rw [d]
  exact op_vv e1 e2 ge
theorem m_devright (R : Rig rig N) (hl : L.length ≤ 200) (hw : ∀ w ∈ L, NameOk w) : F_Ldeviceright [.dat rig, .dat (rowD L)] = some (.bool true, [.un, .un]) := by
  obtain ⟨hs, B, B', A⟩ := acc_of R hw
  obtain ⟨n1, n4⟩ := R.n1
  have K : Known L (N : Int) := ⟨hl, hw, by omega, by omega⟩
  have ln := A.run.len
  obtain ⟨k1, k2, k3⟩ := A.kept R
  have s1 := v1_at (rig := rig) (r := rowD L) (m_lines R) (A.ans R (by omega) hw)
  have s2 := v2_at (rig := rig) (r := rowD L) (s2 := .dat (.int (N : Int))) (s3 := .dat (.tuple (bls hs))) (m_later (L := L) (by omega))
  have s3 := v3_at (vk_at (rig := rig) (r := rowD L) (s2 := .dat (.int (N : Int))) (L := L) (hs := hs) (by omega) ln)
  have ki : F_iskeeping [.dat (rowD L), .dat (.int (N : Int)), .dat (.tuple (bls (bsOf L (hitNx L hs))))] = some (.bool true, [.un, .un, .un]) := by
    have q := m_keeping K (.t (es := bls (bsOf L (hitNx L hs))) (fun e he => ⟨bls_plain _ e he, fun q qs z => by
      obtain ⟨b, _, e2⟩ := List.mem_map.mp he
      rw [z] at e2
      cases e2⟩) (by rw [List.length_map, bsOf_len]; omega))
    have kb : keepB L N (.tuple (bls (bsOf L (hitNx L hs)))) = true := by
      have ab : (bls (bsOf L (hitNx L hs))).all dBool = true := List.all_eq_true.mpr fun e he => by
        obtain ⟨b, _, rfl⟩ := List.mem_map.mp he
        rfl
      have tb : (bls (bsOf L (hitNx L hs))).map toB = bsOf L (hitNx L hs) := by
        rw [List.map_map]
        exact List.map_id' _
      show (decide ((bls (bsOf L (hitNx L hs))).length = L.length) && ((bls (bsOf L (hitNx L hs))).all dBool && fitsB L N ((bls (bsOf L (hitNx L hs))).map toB))) = true
      rw [ab, tb, k1, decide_eq_true (by rw [List.length_map, bsOf_len])]
      rfl
    rw [kb] at q
    exact q
  have s4 : gV4 (dS rig (rowD L) (.dat (.int (N : Int))) (.dat (.tuple (bls hs))) (.dat (.list (NX L))) (.dat (.tuple (bls (bsOf L (hitNx L hs))))) .un .un .un) = some (.nx (dS rig (rowD L) (.dat (.int (N : Int))) (.dat (.tuple (bls hs))) (.dat (.list (NX L))) (.dat (.tuple (bls (bsOf L (hitNx L hs))))) .un .un .un)) :=
    (ifs_f ((or_f (va_at R.dev)).trans (vb_at ki))).trans (q_fNx _)
  have cm := A.cnt R (by omega) hw
  have lm := m_least K
  have hle : hs.countP (fun b => b) ≤ L.length := by rw [← ln]; exact List.countP_le_length
  have s5 : gV5 (dS rig (rowD L) (.dat (.int (N : Int))) (.dat (.tuple (bls hs))) (.dat (.list (NX L))) (.dat (.tuple (bls (bsOf L (hitNx L hs))))) .un .un .un) = some (.nx (dS rig (rowD L) (.dat (.int (N : Int))) (.dat (.tuple (bls hs))) (.dat (.list (NX L))) (.dat (.tuple (bls (bsOf L (hitNx L hs))))) .un .un .un)) := by
    have ct := count_tup (bsOf L (hitNx L hs)) true
    rw [cp_true, k2] at ct
    exact (ifs_f ((or_f (vc_at cm ct (by rw [List.length_map]; omega))).trans (vd_at cm lm (by omega)))).trans (q_fNx _)
  have s6 := v6_at (rig := rig) (r := rowD L) (s2 := .dat (.int (N : Int))) (s3 := .dat (.tuple (bls hs))) (s4 := .dat (.list (NX L))) (s5 := .dat (.tuple (bls (bsOf L (hitNx L hs))))) (m_init R A.st)
  obtain ⟨h', vr⟩ := vr_at (s2 := .dat (.int (N : Int))) (s3 := .dat (.tuple (bls hs))) (s4 := .dat (.list (NX L))) (s5 := .dat (.tuple (bls (bsOf L (hitNx L hs))))) (s6 := .un) A.run (by omega)
  have s7 := (andV_t (ve_at (by omega) vr)).trans (vf_at (rig := rig) (p := placeD B') (h := h') (k := ((L.length - hs.countP fun b => b : Nat) : Int)) lm (by omega))
  have e : g_Ldeviceright (dS rig (rowD L) .un .un .un .un .un .un .un) = some (.rt (.bool true) (dS rig (rowD L) (.dat (.int (N : Int))) (.dat (.tuple (bls hs))) (.dat (.list (NX L))) (.dat (.tuple (bls (bsOf L (hitNx L hs))))) .un (obF (fsO rig (placeD B') (.int h') (.int (L.length - hs.countP fun b => b : Nat)))) .un)) := by
    rw [gV_is, sq_nx s1, sq_nx s2]
    refine (sq_nx s3).trans ?_
    refine (sq_nx s4).trans ?_
    rw [sq_nx s5, sq_nx s6]
    exact sq_rt (ret_at s7)
  exact (body_rt (m := 7) (g := g_Ldeviceright) (sls := [.dat rig, .dat (rowD L)]) rfl e).trans (by simp [List.range, List.range.loop])
end
end K77
namespace K77
open PySem PySem.Spec PyProof.Rows L2 GX StX DL BX
theorem srP (l : List Int) : (srtR l).Pairwise (· ≥ ·) := by
  have h := List.pairwise_mergeSort (le := fun a b : Int => decide (b ≤ a)) (fun a b c h1 h2 => by simp at h1 h2 ⊢; omega) (fun a b => by simp; omega) l
  exact h.imp fun h => by simpa using h
theorem srS {l : List Int} (h : l.Pairwise (· ≥ ·)) : srtR l = l :=
  List.Perm.eq_of_pairwise (le := (· ≥ ·)) (fun x y _ _ h1 h2 => by omega) (srP l) h (List.mergeSort_perm ..)
section
variable {L : List Str} {a : Nat}
theorem sl_take (h : a ≤ L.length) : sliceD (rowD L) none (some (a : Int)) = some (rowD (L.take a)) := by
  have e := sl_up (a := (L.take a).map PyData.str) (b := (L.drop a).map PyData.str) (n := (a : Int)) (by rw [List.length_map, List.length_take]; omega)
  rw [← List.map_append, List.take_append_drop] at e
  exact e
theorem sl_drop (h : a ≤ L.length) : sliceD (rowD L) (some (a : Int)) none = some (rowD (L.drop a)) := by
  have e := sl_low (a := (L.take a).map PyData.str) (b := (L.drop a).map PyData.str) (n := (a : Int)) (by rw [List.length_map, List.length_take]; omega)
  rw [← List.map_append, List.take_append_drop] at e
  exact e
theorem sl_last : sliceD (rowD L) (some (-1)) none = some (rowD (L.drop (L.length - 1))) := by
  show some (PyData.tuple (cutL (L.map PyData.str) (some (-1)) none)) = _
  unfold cutL
  have e : HT.sIx (L.map PyData.str).length 0 (some (-1)) = L.length - 1 := by
    rw [List.length_map]
    unfold HT.sIx
    simp
    omega
  rw [e]
  show some (PyData.tuple (((L.map PyData.str).drop (L.length - 1)).take ((L.map PyData.str).length - (L.length - 1)))) = _
  rw [List.length_map, ← List.map_drop, ← List.map_take, List.take_of_length_le (by rw [List.length_drop]; omega)]
theorem sl_one (h : a < L.length) : sliceD (rowD L) (some (a : Int)) (some (((a + 1 : Nat)) : Int)) = some (rowD [L.getD a ""]) := by
  show some (PyData.tuple (cutL (L.map PyData.str) (some (a : Int)) (some (((a + 1 : Nat)) : Int)))) = _
  unfold cutL
  rw [HT.sIx_nat, HT.sIx_nat, List.length_map]
  have e1 : min a L.length = a := by omega
  have e2 : min (a + 1) L.length = a + 1 := by omega
  rw [e1, e2, ← List.map_drop, ← List.map_take]
  have : (L.drop a).take (a + 1 - a) = [L.getD a ""] := by
    have g : L.getD a "" = L[a] := by simp [List.getD, h]
    rw [g, show a + 1 - a = 1 by omega, List.drop_eq_getElem_cons h]
    rfl
  rw [this]
theorem ne_rows0 {y : Str} (hy : PyData.strOk y = true) : neD (rowD []) (rowD [y]) = some (.bool true) := by
  simp [hy, neD, SeqAt.shaped, PyData.canLay0, PyData.canLayAll0, PyData.depth, PyData.depthAll, PyData.eqv, PyData.eqvAll]
theorem ne_rows1 {x y : Str} (hx : PyData.strOk x = true) (hy : PyData.strOk y = true) : neD (rowD [x]) (rowD [y]) = some (.bool (decide (x ≠ y))) := by
  have q : (x == y) = decide (x = y) := rfl
  simp [hx, hy, q, neD, SeqAt.shaped, PyData.canLay0, PyData.canLayAll0, PyData.depth, PyData.depthAll, PyData.eqv, PyData.eqvAll]
theorem strs_map : ∀ xs : List Str, BX.strsOf (xs.map PyData.str) = some xs
  | [] => rfl
  | x :: xs => by
    show (match BX.strsOf (xs.map PyData.str) with
      | some ns => some (x :: ns)
      | none => none) = _
    rw [strs_map xs]
theorem ints_map : ∀ xs : List Int, intsOf (xs.map PyData.int) = some xs
  | [] => rfl
  | x :: xs => by
    show (match intsOf (xs.map PyData.int) with
      | some ns => some (x :: ns)
      | none => none) = _
    rw [ints_map xs]
end
end K77
namespace K77
open PySem PySem.Spec PyProof.Rows L2 GX StX DL BX
/-- least misses -/
def MS (L : List Str) (m : Nat) : Int := ((L.length - GN L m : Nat) : Int)
abbrev tdI (L : List Str) : List Int := [MS L 1, MS L 2, MS L 3, MS L 4]
abbrev tdL (L : List Str) : List PyData := [.int (MS L 1), .int (MS L 2), .int (MS L 3), .int (MS L 4)]
theorem MS_mono {L : List Str} {m m' : Nat} (m1 : 1 ≤ m) (h : m ≤ m') : MS L m' ≤ MS L m := by
  have := GN_mono (L := L) m1 h
  unfold MS
  omega
theorem MS_at {L : List Str} {m : Nat} (m1 : 1 ≤ m) (m4 : m ≤ 4) : atI (tdL L) ((m : Int) - 1) = some (.int (MS L m)) := by
  have : m = 1 ∨ m = 2 ∨ m = 3 ∨ m = 4 := by omega
  rcases this with rfl | rfl | rfl | rfl <;> rfl
section
variable {L : List Str} {P : List PyData}
abbrev rS (p r s2 s3 s4 s5 s6 : Sl) : Rho := [p, r, s2, s3, s4, s5, s6]
def gY1 : SF := fAsg (fLst (fComp (iRange2 (lCons (fC (.int 1)) (lCons (fC (.int 5)) lNil))) [3] (tName 3) fYes (fCa 2 F_leastmisses (aCons (gVar 1) (aCons (gVar 3) aNil))))) (tName 2)
def gYa : TF := fTst (fOp neD (gVar 2) (gVal (fLst (fSortRev (gVar 2)))))
def gYb : TF := fTst (fOp neD (gVar 2) (gVal (fLst (lLst lNil))))
def gYc : TF := fTst (fOp ltD (gVal (fOp ixD (gVar 2) (gVal (fC (.int (-1)))))) (gVal (fLenSetZ (gVar 1))))
def gY2 : SF := fIfS (fOr gYa (fAnd gYb gYc)) (fSq (fRet (fC (.bool false))) fNx) fNx
def gYd : LF := fComp iLen1 [4] (tName 4) (fTst (fOp neD (gVal (fSl (gVal (fSl (gVar 1) oNone (oSome (fVar 4)))) (oSome (fC (.int (-1)))) oNone)) (gVal (fSl (gVar 1) (oSome (fVar 4)) (oSome (fOp addD (gVar 4) (gVal (fC (.int 1))))))))) (fVar 4)
  where iLen1 : LF := iRange1 (lCons (fCl lenD (aCons (gVar 1) aNil)) lNil)
def gY3 : SF := fIfS (fTst (fOp neD (gVal (fOp ixD (gVar 2) (gVal (fC (.int 0))))) (gVal (fCl lenD (aCons (gVal (fLst gYd)) aNil))))) (fSq (fRet (fC (.bool false))) fNx) fNx
def gYe : LF := fComp (iRange2 (lCons (fLenSetZ (gVar 1)) (lCons (fC (.int 5)) lNil))) [3] (tName 3) (fAnd (fTst (fOp gtD (gVar 3) (gVal (fC (.int 0))))) (fTst (fOp neD (gVal (fOp ixD (gVar 2) (gVal (fOp subD (gVar 3) (gVal (fC (.int 1))))))) (gVal (fLenSetZ (gVar 1)))))) (fVar 3)
def gY4 : SF := fIfS (fTst (fOp neD (gVal (fLst gYe)) (gVal (fLst (lLst lNil))))) (fSq (fRet (fC (.bool false))) fNx) fNx
def gY5 : SF := fPar 4 3 (lCons (fCa 2 F_Ldraw (aCons (gVar 0) (aCons (gVal (fOp addD (gVal (fCl lenD (aCons (gVar 1) aNil))) (gVal (fC (.int 1))))) aNil))) (lCons (fOp addD (gVal (fC (.int 1))) (gVal (fCa 2 F_Ldraw (aCons (gVar 0) (aCons (gVal (fC (.int 4))) aNil))))) lNil))
def gY6 : SF := fPar 5 6 (lCons (fCa 2 F_leastmisses (aCons (gVal (fSl (gVar 1) oNone (oSome (fVar 4)))) (aCons (gVar 3) aNil))) (lCons (fCa 2 F_leastmisses (aCons (gVal (fSl (gVar 1) (oSome (fVar 4)) oNone)) (aCons (gVar 3) aNil))) lNil))
def gYt : EF := fOp ixD (gVar 2) (gVal (fOp subD (gVar 3) (gVal (fC (.int 1)))))
def gY7 : SF := fIfS (fOr (fTst (fOp gtD (gVar 5) (gVal gYt))) (fOr (fTst (fOp gtD (gVal gYt) (gVal (fOp addD (gVar 5) (gVar 6))))) (fTst (fOp gtD (gVar 6) (gVal (fOp addD (gVal gYt) (gVar 3))))))) (fSq (fRet (fC (.bool false))) fNx) fNx
def gY8 : SF := fRet (fOp eqD (gVal (fMe "tuple" tCountD (gVal (fCa 2 F_bestkeeping (aCons (gVar 1) (aCons (gVar 3) aNil)))) (aCons (gVal (fC (.bool true))) aNil))) (gVal (fOp subD (gVal (fCl lenD (aCons (gVar 1) aNil))) (gVal gYt))))
theorem gY_is : g_Lrowright = fSq gY1 (fSq gY2 (fSq gY3 (fSq gY4 (fSq gY5 (fSq gY6 (fSq gY7 (fSq gY8 fNx))))))) := rfl
theorem y1_at {p : Sl} (hl : L.length ≤ 200) (hw : ∀ w ∈ L, NameOk w) : gY1 (rS p (.dat (rowD L)) .un .un .un .un .un) = some (.nx (rS p (.dat (rowD L)) (.dat (.list (tdL L))) .un .un .un .un)) := by
  have c := comp_all (it := iRange2 (lCons (fC (.int 1)) (lCons (fC (.int 5)) lNil))) (ks := [3]) (t := tName 3) (f := fCa 2 F_leastmisses (aCons (gVar 1) (aCons (gVar 3) aNil))) (fun m : Nat => PyData.int ((m : Nat) : Int)) (fun m => PyData.int (MS L m)) (ρ := rS p (.dat (rowD L)) .un .un .un .un .un) (ρ1 := rS p (.dat (rowD L)) .un .un .un .un .un) [1, 2, 3, 4]
    (q_iR2 (i := 1) (j := 5) (by simp) (by decide) (by decide)) rfl (fun m hm => by
      have e := m_least (L := L) (m := m) ⟨hl, hw, by simp at hm; omega, by simp at hm; omega⟩
      exact ⟨rS p (.dat (rowD L)) .un (.dat (.int (m : Nat))) .un .un .un, rS p (.dat (rowD L)) .un (.dat (.int (m : Nat))) .un .un .un, rfl, by simp [e]; rfl, rfl⟩) (by simp)
  unfold gY1
  rw [q_fAsg, q_fLst, c]
  rfl
theorem plain_ints {xs : List Int} : ∀ d ∈ xs.map PyData.int, Plain d := fun d hd => by
  obtain ⟨i, _, rfl⟩ := List.mem_map.mp hd
  exact plain_int i
theorem eqv_ints : ∀ xs : List Int, PyData.eqvAll (xs.map PyData.int) (xs.map PyData.int) = true
  | [] => rfl
  | x :: xs => by
    show (PyData.eqv (.int x) (.int x) && PyData.eqvAll (xs.map PyData.int) (xs.map PyData.int)) = true
    rw [eqv_ints xs]
    simp [PyData.eqv]
theorem ne_ints (xs : List Int) : neD (.list (xs.map PyData.int)) (.list (xs.map PyData.int)) = some (.bool false) := by
  have a := sh_l (plain_ints (xs := xs))
  show (if (SeqAt.shaped (.list (xs.map PyData.int)) && SeqAt.shaped (.list (xs.map PyData.int))) = true then some (PyData.bool (!PyData.eqv (.list (xs.map PyData.int)) (.list (xs.map PyData.int)))) else none) = _
  rw [a, show PyData.eqv (.list (xs.map PyData.int)) (.list (xs.map PyData.int)) = PyData.eqvAll (xs.map PyData.int) (xs.map PyData.int) by simp [PyData.eqv], eqv_ints]
  rfl
theorem td_srt : srtR (tdI L) = tdI L := by
  refine srS ?_
  have a := MS_mono (L := L) (m := 1) (m' := 2) (by omega) (by omega)
  have b := MS_mono (L := L) (m := 2) (m' := 3) (by omega) (by omega)
  have c := MS_mono (L := L) (m := 3) (m' := 4) (by omega) (by omega)
  simp
  omega
theorem ya_at {p s3 s4 s5 s6 : Sl} : gYa (rS p (.dat (rowD L)) (.dat (.list (tdL L))) s3 s4 s5 s6) = some (false, rS p (.dat (rowD L)) (.dat (.list (tdL L))) s3 s4 s5 s6) := by
  have n := ne_ints (tdI L)
  have i := ints_map (tdI L)
  have s := td_srt (L := L)
  have e : fSortRev (gVar 2) (rS p (.dat (rowD L)) (.dat (.list (tdL L))) s3 s4 s5 s6) = some (tdL L, rS p (.dat (rowD L)) (.dat (.list (tdL L))) s3 s4 s5 s6) := by
    have g : gVar 2 (rS p (.dat (rowD L)) (.dat (.list (tdL L))) s3 s4 s5 s6) = some (.v 2, rS p (.dat (rowD L)) (.dat (.list (tdL L))) s3 s4 s5 s6) := by simp
    unfold fSortRev
    rw [g]
    dsimp only
    rw [show look (rS p (.dat (rowD L)) (.dat (.list (tdL L))) s3 s4 s5 s6) (.v 2) = some (.list ((tdI L).map PyData.int)) from rfl]
    dsimp only
    rw [i]
    dsimp only
    rw [s]
    rfl
  have n : neD (.list (tdL L)) (.list (tdL L)) = some (.bool false) := n
  unfold gYa
  generalize tdL L = xs at e n ⊢
  simp [e, n]
theorem yb_at {p s3 s4 s5 s6 : Sl} : gYb (rS p (.dat (rowD L)) (.dat (.list (tdL L))) s3 s4 s5 s6) = some (true, rS p (.dat (rowD L)) (.dat (.list (tdL L))) s3 s4 s5 s6) := by
  have f0 : fits 0 = true := by decide
  have n : neD (.list (tdL L)) (.list []) = some (.bool true) := ne_nil (plain_ints (xs := tdI L))
  unfold gYb
  generalize tdL L = xs at n ⊢
  simp [f0, n]
theorem ls_at {p s2 s3 s4 s5 s6 : Sl} (hl : L.length ≤ 200) : fLenSetZ (gVar 1) (rS p (.dat (rowD L)) s2 s3 s4 s5 s6) = some (.int ((ddS L).length : Nat), rS p (.dat (rowD L)) s2 s3 s4 s5 s6) := by
  have g : gVar 1 (rS p (.dat (rowD L)) s2 s3 s4 s5 s6) = some (.v 1, rS p (.dat (rowD L)) s2 s3 s4 s5 s6) := by simp
  unfold fLenSetZ
  rw [g]
  dsimp only
  rw [show look (rS p (.dat (rowD L)) s2 s3 s4 s5 s6) (.v 1) = some (.tuple (L.map PyData.str)) from rfl]
  dsimp only
  rw [strs_map]
  dsimp only
  rw [if_pos (by omega)]
theorem MS_names {m : Nat} (m1 : 1 ≤ m) : ((ddS L).length : Int) ≤ MS L m := by
  have := GN_names (L := L) m1
  have := dd_le (L := L)
  unfold MS
  omega
theorem yc_at {p s3 s4 s5 s6 : Sl} (hl : L.length ≤ 200) : gYc (rS p (.dat (rowD L)) (.dat (.list (tdL L))) s3 s4 s5 s6) = some (false, rS p (.dat (rowD L)) (.dat (.list (tdL L))) s3 s4 s5 s6) := by
  have e1 : fOp ixD (gVar 2) (gVal (fC (.int (-1)))) (rS p (.dat (rowD L)) (.dat (.list (tdL L))) s3 s4 s5 s6) = some (.int (MS L 4), rS p (.dat (rowD L)) (.dat (.list (tdL L))) s3 s4 s5 s6) := by
    have a : atI (tdL L) (-1) = some (.int (MS L 4)) := rfl
    generalize tdL L = xs at a ⊢
    simp [a]
  have q : ltD (.int (MS L 4)) (.int ((ddS L).length : Nat)) = some (.bool false) := by
    have := MS_names (L := L) (m := 4) (by omega)
    show some (PyData.bool (decide (MS L 4 < ((ddS L).length : Nat)))) = _
    rw [decide_eq_false (by omega)]
  unfold gYc
  rw [q_fTst, op_vv e1 (ls_at hl) q]
theorem y2_at {p s3 s4 s5 s6 : Sl} (hl : L.length ≤ 200) : gY2 (rS p (.dat (rowD L)) (.dat (.list (tdL L))) s3 s4 s5 s6) = some (.nx (rS p (.dat (rowD L)) (.dat (.list (tdL L))) s3 s4 s5 s6)) := by
  have a : fAnd gYb gYc (rS p (.dat (rowD L)) (.dat (.list (tdL L))) s3 s4 s5 s6) = some (false, rS p (.dat (rowD L)) (.dat (.list (tdL L))) s3 s4 s5 s6) := by
    rw [q_fAnd, yb_at]
    exact yc_at hl
  exact (ifs_f ((or_f ya_at).trans a)).trans (q_fNx _)
end
end K77
namespace K77
open PySem PySem.Spec PyProof.Rows L2 GX StX DL BX
section
variable {L : List Str} {P : List PyData}
theorem slv {f : GF} {lo hi : OF} {ρ : Rho} {a : Ag} {x y : Option Int} {d r : PyData} (e : f ρ = some (a, ρ)) (l : lo ρ = some (x, ρ)) (h : hi ρ = some (y, ρ)) (k : look ρ a = some d) (q : sliceD d x y = some r) : fSl f lo hi ρ = some (r, ρ) := by
  unfold fSl
  rw [e]
  dsimp only
  rw [l]
  dsimp only
  rw [h]
  dsimp only
  rw [k]
  dsimp only
  rw [q]
theorem len_lst {f : LF} {ρ : Rho} {xs : List PyData} {n : Int} (d : f ρ = some (xs, ρ)) (h : (xs.length : Int) = n) : fCl lenD (aCons (gVal (fLst f)) aNil) ρ = some (.int n, ρ) := by
  rw [← h]
  simp only [q_fCl, q_aCons, q_gVal, q_fLst, d, Option.map_some, q_aNil, q_looks_c, q_look_d, q_looks_nil]
  rfl
theorem if_ne {f g : EF} {ρ : Rho} {x y : PyData} {h : SF} (e1 : f ρ = some (x, ρ)) (e2 : g ρ = some (y, ρ)) (n : neD x y = some (.bool false)) : fIfS (fTst (fOp neD (gVal f) (gVal g))) h fNx ρ = some (.nx ρ) := by
  refine (ifs_f (ρ1 := ρ) ?_).trans (q_fNx _)
  rw [q_fTst, op_vv e1 e2 n]
theorem yd_at {p s5 s6 : Sl} (hl : L.length ≤ 200) (hw : ∀ w ∈ L, NameOk w) {T : PyData} : gYd (rS p (.dat (rowD L)) (.dat T) .un .un s5 s6) = some ((wh L.length (chg L)).map (fun i => PyData.int ((i : Nat) : Int)), rS p (.dat (rowD L)) (.dat T) .un .un s5 s6) := by
  have sk : ∀ i, i < L.length → PyData.strOk (L.getD i "") = true := fun i hi => wd_ok (hw _ (List.mem_of_getElem? (getD_at hi))).2
  have it : gYd.iLen1 (rS p (.dat (rowD L)) (.dat T) .un .un s5 s6) = some ((List.range L.length).map (fun i => PyData.int ((i : Nat) : Int)), rS p (.dat (rowD L)) (.dat T) .un .un s5 s6) := by
    have z := q_iR (f := lCons (fCl lenD (aCons (gVar 1) aNil)) lNil) (ρ := rS p (.dat (rowD L)) (.dat T) .un .un s5 s6) (ρ' := rS p (.dat (rowD L)) (.dat T) .un .un s5 s6) (j := (L.length : Int)) (by simp) (small62_le (by omega) (by omega))
    rw [Int.toNat_natCast, rangeD_map] at z
    exact z
  refine comp_if (it := gYd.iLen1) (ks := [4]) (t := tName 4) (f := fVar 4) (fun i : Nat => PyData.int ((i : Nat) : Int)) (chg L) (fun i : Nat => PyData.int ((i : Nat) : Int)) (List.range L.length) it rfl (fun i hi => ⟨rS p (.dat (rowD L)) (.dat T) .un (.dat (.int (i : Nat))) s5 s6, rfl, ?_, fun _ => rfl, rfl⟩) (by simp; omega)
  have li : i < L.length := by simpa using hi
  have a1 : fSl (gVar 1) oNone (oSome (fVar 4)) (rS p (.dat (rowD L)) (.dat T) .un (.dat (.int (i : Nat))) s5 s6) = some (rowD (L.take i), rS p (.dat (rowD L)) (.dat T) .un (.dat (.int (i : Nat))) s5 s6) :=
    slv (a := .v 1) (x := none) (y := some (i : Int)) (d := rowD L) (by simp) rfl (by simp [oSome]) rfl (sl_take (by omega))
  have a2 : fSl (gVal (fSl (gVar 1) oNone (oSome (fVar 4)))) (oSome (fC (.int (-1)))) oNone (rS p (.dat (rowD L)) (.dat T) .un (.dat (.int (i : Nat))) s5 s6) = some (rowD ((L.take i).drop ((L.take i).length - 1)), rS p (.dat (rowD L)) (.dat T) .un (.dat (.int (i : Nat))) s5 s6) :=
    slv (a := .d (rowD (L.take i))) (x := some (-1)) (y := none) (d := rowD (L.take i)) (by rw [q_gVal, a1]) rfl rfl rfl sl_last
  have a3 : fSl (gVar 1) (oSome (fVar 4)) (oSome (fOp addD (gVar 4) (gVal (fC (.int 1))))) (rS p (.dat (rowD L)) (.dat T) .un (.dat (.int (i : Nat))) s5 s6) = some (rowD [L.getD i ""], rS p (.dat (rowD L)) (.dat T) .un (.dat (.int (i : Nat))) s5 s6) :=
    slv (a := .v 1) (x := some (i : Int)) (y := some ((i + 1 : Nat) : Int)) (d := rowD L) (by simp) (by simp [oSome]) (by simp [oSome]) rfl (sl_one li)
  have q : neD (rowD ((L.take i).drop ((L.take i).length - 1))) (rowD [L.getD i ""]) = some (.bool (chg L i)) := by
    rw [List.length_take, show min i L.length = i by omega]
    cases i with
    | zero => exact ne_rows0 (sk 0 li)
    | succ k =>
      have e : (L.take (k + 1)).drop (k + 1 - 1) = [L.getD k ""] := by
        rw [Nat.add_sub_cancel, List.drop_take, show k + 1 - k = 1 by omega, List.drop_eq_getElem_cons (show k < L.length by omega)]
        have g : L.getD k "" = L[k] := by simp [List.getD, show k < L.length by omega]
        rw [g]
        rfl
      rw [e]
      exact ne_rows1 (sk k (by omega)) (sk _ li)
  rw [q_fTst, op_vv a2 a3 q]
theorem y3_at {p s5 s6 : Sl} (hl : L.length ≤ 200) (hw : ∀ w ∈ L, NameOk w) : gY3 (rS p (.dat (rowD L)) (.dat (.list (tdL L))) .un .un s5 s6) = some (.nx (rS p (.dat (rowD L)) (.dat (.list (tdL L))) .un .un s5 s6)) := by
  have d := yd_at (p := p) (s5 := s5) (s6 := s6) (T := .list (tdL L)) hl hw
  have e1 : fOp ixD (gVar 2) (gVal (fC (.int 0))) (rS p (.dat (rowD L)) (.dat (.list (tdL L))) .un .un s5 s6) = some (.int (MS L 1), rS p (.dat (rowD L)) (.dat (.list (tdL L))) .un .un s5 s6) := by
    have a : atI (tdL L) 0 = some (.int (MS L 1)) := rfl
    generalize tdL L = xs at a ⊢
    simp [a]
  have o := GN_one (L := L)
  have e2 := len_lst (n := MS L 1) d (by
    rw [List.length_map]
    unfold MS
    omega)
  have n := ne_int (MS L 1) (MS L 1)
  rw [decide_eq_true rfl] at n
  exact if_ne e1 e2 n
theorem ye_at {p s5 s6 s4 : Sl} (hl : L.length ≤ 200) : gYe (rS p (.dat (rowD L)) (.dat (.list (tdL L))) .un s4 s5 s6) = some ([], rS p (.dat (rowD L)) (.dat (.list (tdL L))) .un s4 s5 s6) := by
  have dl := dd_le (L := L)
  have ls := ls_at (p := p) (s2 := .dat (.list (tdL L))) (s3 := .un) (s4 := s4) (s5 := s5) (s6 := s6) hl
  have it := q_iR2 (f := lCons (fLenSetZ (gVar 1)) (lCons (fC (.int 5)) lNil)) (ρ := rS p (.dat (rowD L)) (.dat (.list (tdL L))) .un s4 s5 s6) (ρ' := rS p (.dat (rowD L)) (.dat (.list (tdL L))) .un s4 s5 s6) (i := ((ddS L).length : Nat)) (j := 5) (by
    generalize fLenSetZ (gVar 1) = f at ls ⊢
    simp [ls]) (small62_le (by omega) (by omega)) (by decide)
  have e := comp_if (it := iRange2 (lCons (fLenSetZ (gVar 1)) (lCons (fC (.int 5)) lNil))) (ks := [3]) (t := tName 3) (c := fAnd (fTst (fOp gtD (gVar 3) (gVal (fC (.int 0))))) (fTst (fOp neD (gVal (fOp ixD (gVar 2) (gVal (fOp subD (gVar 3) (gVal (fC (.int 1))))))) (gVal (fLenSetZ (gVar 1)))))) (f := fVar 3)
    (fun i : Nat => PyData.int (((ddS L).length : Nat) + (i : Int))) (fun _ => false) (fun i : Nat => PyData.int (((ddS L).length : Nat) + (i : Int))) (ρ := rS p (.dat (rowD L)) (.dat (.list (tdL L))) .un s4 s5 s6) (ρ1 := rS p (.dat (rowD L)) (.dat (.list (tdL L))) .un s4 s5 s6) (List.range (5 - ((ddS L).length : Nat) : Int).toNat) it rfl (fun i hi => by
      refine ⟨rS p (.dat (rowD L)) (.dat (.list (tdL L))) (.dat (.int (((ddS L).length : Nat) + (i : Int)))) s4 s5 s6, rfl, ?_, fun h => by (cases h), rfl⟩
      have li : (i : Int) < 5 - ((ddS L).length : Nat) := by
        have := List.mem_range.mp hi
        omega
      by_cases c : 0 < (ddS L).length + i
      · have g : fTst (fOp gtD (gVar 3) (gVal (fC (.int 0)))) (rS p (.dat (rowD L)) (.dat (.list (tdL L))) (.dat (.int (((ddS L).length : Nat) + (i : Int)))) s4 s5 s6) = some (true, rS p (.dat (rowD L)) (.dat (.list (tdL L))) (.dat (.int (((ddS L).length : Nat) + (i : Int)))) s4 s5 s6) := by
          have q : gtD (.int (((ddS L).length : Nat) + (i : Int))) (.int 0) = some (.bool true) := by
            show some (PyData.bool (decide (0 < ((ddS L).length : Nat) + (i : Int)))) = _
            rw [decide_eq_true (by omega)]
          simp [q]
        rw [q_fAnd, g]
        have e1 : fOp ixD (gVar 2) (gVal (fOp subD (gVar 3) (gVal (fC (.int 1))))) (rS p (.dat (rowD L)) (.dat (.list (tdL L))) (.dat (.int (((ddS L).length : Nat) + (i : Int)))) s4 s5 s6) = some (.int ((ddS L).length : Nat), rS p (.dat (rowD L)) (.dat (.list (tdL L))) (.dat (.int (((ddS L).length : Nat) + (i : Int)))) s4 s5 s6) := by
          have a := MS_at (L := L) (m := (ddS L).length + i) (by omega) (by omega)
          have q : MS L ((ddS L).length + i) = ((ddS L).length : Nat) := by
            unfold MS
            rw [GN_all (by omega) (by omega)]
            omega
          rw [q, show (((ddS L).length + i : Nat) : Int) - 1 = ((ddS L).length : Nat) + (i : Int) - 1 by omega] at a
          generalize tdL L = xs at a ⊢
          simp [a]
        have ls2 := ls_at (p := p) (s2 := .dat (.list (tdL L))) (s3 := .dat (.int (((ddS L).length : Nat) + (i : Int)))) (s4 := s4) (s5 := s5) (s6 := s6) hl
        have n := ne_int ((ddS L).length : Nat) ((ddS L).length : Nat)
        rw [decide_eq_true rfl] at n
        show fTst (fOp neD (gVal (fOp ixD (gVar 2) (gVal (fOp subD (gVar 3) (gVal (fC (.int 1))))))) (gVal (fLenSetZ (gVar 1)))) _ = _
        rw [q_fTst, op_vv e1 ls2 n]
        rfl
      · have g : fTst (fOp gtD (gVar 3) (gVal (fC (.int 0)))) (rS p (.dat (rowD L)) (.dat (.list (tdL L))) (.dat (.int (((ddS L).length : Nat) + (i : Int)))) s4 s5 s6) = some (false, rS p (.dat (rowD L)) (.dat (.list (tdL L))) (.dat (.int (((ddS L).length : Nat) + (i : Int)))) s4 s5 s6) := by
          have q : gtD (.int (((ddS L).length : Nat) + (i : Int))) (.int 0) = some (.bool false) := by
            show some (PyData.bool (decide (0 < ((ddS L).length : Nat) + (i : Int)))) = _
            rw [decide_eq_false (by omega)]
          simp [q]
        rw [q_fAnd, g]) (by rw [List.length_range]; omega)
  refine Eq.trans e ?_
  rw [List.filter_eq_nil_iff.mpr (fun _ _ h => by cases h)]
  rfl
theorem y4_at {p s4 s5 s6 : Sl} (hl : L.length ≤ 200) : gY4 (rS p (.dat (rowD L)) (.dat (.list (tdL L))) .un s4 s5 s6) = some (.nx (rS p (.dat (rowD L)) (.dat (.list (tdL L))) .un s4 s5 s6)) := by
  have e := ye_at (p := p) (s4 := s4) (s5 := s5) (s6 := s6) hl
  have f0 : fits 0 = true := by decide
  have n : neD (.list []) (.list []) = some (.bool false) := rfl
  refine (ifs_f (ρ1 := rS p (.dat (rowD L)) (.dat (.list (tdL L))) .un s4 s5 s6) ?_).trans (q_fNx _)
  generalize gYe = f at e ⊢
  generalize tdL L = xs at e ⊢
  simp [e, f0, n]
theorem y5_at (h : Pool P) {T : PyData} (hl : L.length ≤ 200) : ∃ (a m : Nat) (P' : List PyData), gY5 (rS (.own true P) (.dat (rowD L)) (.dat T) .un .un .un .un) = some (.nx (rS (.own true P') (.dat (rowD L)) (.dat T) (.dat (.int (m : Int))) (.dat (.int (a : Int))) .un .un)) ∧ a ≤ L.length ∧ 1 ≤ m ∧ m ≤ 4 ∧ Pool P' := by
  obtain ⟨x, P1, e1, x0, x1, h1⟩ := draw h (m := (L.length : Int) + 1) (by omega) (by omega)
  obtain ⟨y, P2, e2, y0, y1, h2⟩ := draw h1 (m := 4) (by omega) (by omega)
  refine ⟨x.toNat, (1 + y).toNat, P2, ?_, by omega, by omega, by omega, h2⟩
  have ex : ((x.toNat : Nat) : Int) = x := by omega
  have ey : (((1 + y).toNat : Nat) : Int) = 1 + y := by omega
  rw [ex, ey]
  simp [gY5, e1, e2]
theorem y6_at {p : Sl} {T : PyData} {a m : Nat} (hl : L.length ≤ 200) (hw : ∀ w ∈ L, NameOk w) (ha : a ≤ L.length) (m1 : 1 ≤ m) (m4 : m ≤ 4) : gY6 (rS p (.dat (rowD L)) (.dat T) (.dat (.int (m : Int))) (.dat (.int (a : Int))) .un .un) = some (.nx (rS p (.dat (rowD L)) (.dat T) (.dat (.int (m : Int))) (.dat (.int (a : Int))) (.dat (.int (MS (L.take a) m))) (.dat (.int (MS (L.drop a) m))))) := by
  have k1 := m_least (L := L.take a) (m := m) ⟨by rw [List.length_take]; omega, fun w h => hw w (List.mem_of_mem_take h), by omega, by omega⟩
  have k2 := m_least (L := L.drop a) (m := m) ⟨by rw [List.length_drop]; omega, fun w h => hw w (List.mem_of_mem_drop h), by omega, by omega⟩
  have k1 : F_leastmisses [.dat (rowD (L.take a)), .dat (.int (m : Int))] = some (.int (MS (L.take a) m), [.un, .un]) := k1
  have k2 : F_leastmisses [.dat (rowD (L.drop a)), .dat (.int (m : Int))] = some (.int (MS (L.drop a) m), [.un, .un]) := k2
  have s1 := sl_take ha
  have s2 := sl_drop ha
  generalize rowD (L.take a) = A at k1 s1
  generalize rowD (L.drop a) = B at k2 s2
  generalize rowD L = R at s1 s2 ⊢
  simp [gY6, s1, s2, k1, k2, oSome, oNone]
theorem yt_at {p s4 s5 s6 : Sl} {m : Nat} (m1 : 1 ≤ m) (m4 : m ≤ 4) : gYt (rS p (.dat (rowD L)) (.dat (.list (tdL L))) (.dat (.int (m : Int))) s4 s5 s6) = some (.int (MS L m), rS p (.dat (rowD L)) (.dat (.list (tdL L))) (.dat (.int (m : Int))) s4 s5 s6) := by
  have a := MS_at (L := L) m1 m4
  unfold gYt
  generalize tdL L = xs at a ⊢
  simp [a]
theorem y7_at {p s4 : Sl} {a m : Nat} (ha : a ≤ L.length) (m1 : 1 ≤ m) (m4 : m ≤ 4) : gY7 (rS p (.dat (rowD L)) (.dat (.list (tdL L))) (.dat (.int (m : Int))) s4 (.dat (.int (MS (L.take a) m))) (.dat (.int (MS (L.drop a) m)))) = some (.nx (rS p (.dat (rowD L)) (.dat (.list (tdL L))) (.dat (.int (m : Int))) s4 (.dat (.int (MS (L.take a) m))) (.dat (.int (MS (L.drop a) m))))) := by
  have t := yt_at (L := L) (p := p) (s4 := s4) (s5 := .dat (.int (MS (L.take a) m))) (s6 := .dat (.int (MS (L.drop a) m))) m1 m4
  have b1 := GN_take (L := L) m1 ha
  have b2 := GN_drop (L := L) m1 ha
  have b3 := GN_both (L := L) m1 ha
  have c0 := GN_le (L := L) m1
  have c1 := GN_le (L := L.take a) m1
  have c2 := GN_le (L := L.drop a) m1
  rw [List.length_take] at c1
  rw [List.length_drop] at c2
  have q1 : MS (L.take a) m ≤ MS L m := by
    unfold MS
    rw [List.length_take]
    omega
  have q2 : MS L m ≤ MS (L.take a) m + MS (L.drop a) m := by
    unfold MS
    rw [List.length_take, List.length_drop]
    omega
  have q3 : MS (L.drop a) m ≤ MS L m + (m : Int) := by
    unfold MS
    rw [List.length_drop]
    omega
  generalize MS (L.take a) m = x at t q1 q2 ⊢
  generalize MS (L.drop a) m = y at t q2 q3 ⊢
  generalize MS L m = z at t q1 q2 q3
  have g1 : gtD (.int x) (.int z) = some (.bool false) := by
    show some (PyData.bool (decide (z < x))) = _
    rw [decide_eq_false (by omega)]
  have g2 : gtD (.int z) (.int (x + y)) = some (.bool false) := by
    show some (PyData.bool (decide (x + y < z))) = _
    rw [decide_eq_false (by omega)]
  have g3 : gtD (.int y) (.int (z + (m : Int))) = some (.bool false) := by
    show some (PyData.bool (decide (z + (m : Int) < y))) = _
    rw [decide_eq_false (by omega)]
  refine (ifs_f (ρ1 := rS p (.dat (rowD L)) (.dat (.list (tdL L))) (.dat (.int (m : Int))) s4 (.dat (.int x)) (.dat (.int y))) ?_).trans (q_fNx _)
  generalize gYt = f at t ⊢
  generalize tdL L = xs at t ⊢
  simp [t, g1, g2, g3]
theorem y8_at {p s4 s5 s6 : Sl} {m : Nat} (hl : L.length ≤ 200) (hw : ∀ w ∈ L, NameOk w) (m1 : 1 ≤ m) (m4 : m ≤ 4) : gY8 (rS p (.dat (rowD L)) (.dat (.list (tdL L))) (.dat (.int (m : Int))) s4 s5 s6) = some (.rt (.bool true) (rS p (.dat (rowD L)) (.dat (.list (tdL L))) (.dat (.int (m : Int))) s4 s5 s6)) := by
  have t := yt_at (L := L) (p := p) (s4 := s4) (s5 := s5) (s6 := s6) m1 m4
  have b := m_best (L := L) (m := m) ⟨hl, hw, by omega, by omega⟩
  have c := count_tup (gB L m) true
  rw [cp_true, gB_true m1] at c
  have c0 := GN_le (L := L) m1
  have ty : tyD "tuple" (.tuple (bls (gB L m))) = true := rfl
  have q : (L.length : Int) - MS L m = (GN L m : Nat) := by
    unfold MS
    omega
  have ee : eqD (.int (GN L m : Nat)) (.int ((L.length : Int) - MS L m)) = some (.bool true) := by
    rw [q]
    simp [eqD, SeqAt.shaped, PyData.canLay0, PyData.depth, PyData.eqv]
  have e1 : fMe "tuple" tCountD (gVal (fCa 2 F_bestkeeping (aCons (gVar 1) (aCons (gVar 3) aNil)))) (aCons (gVal (fC (.bool true))) aNil) (rS p (.dat (rowD L)) (.dat (.list (tdL L))) (.dat (.int (m : Int))) s4 s5 s6) = some (.int (GN L m : Nat), rS p (.dat (rowD L)) (.dat (.list (tdL L))) (.dat (.int (m : Int))) s4 s5 s6) := by
    generalize tdL L = xs
    generalize bls (gB L m) = ds at b c ty
    simp [b, c, ty]
  have e2 : fOp subD (gVal (fCl lenD (aCons (gVar 1) aNil))) (gVal gYt) (rS p (.dat (rowD L)) (.dat (.list (tdL L))) (.dat (.int (m : Int))) s4 s5 s6) = some (.int ((L.length : Int) - MS L m), rS p (.dat (rowD L)) (.dat (.list (tdL L))) (.dat (.int (m : Int))) s4 s5 s6) := by
    generalize gYt = f at t ⊢
    generalize tdL L = xs at t ⊢
    refine op_vv (a := .int (L.length : Int)) (by simp) t ?_
    rfl
  exact ret_at (op_vv e1 e2 ee)
theorem m_rowright (h : Pool P) (hl : L.length ≤ 200) (hw : ∀ w ∈ L, NameOk w) : ∃ P' : List PyData, F_Lrowright [.own true P, .dat (rowD L)] = some (.bool true, [.own true P', .un]) ∧ Pool P' := by
  obtain ⟨a, m, P', e5, ha, m1, m4, h'⟩ := y5_at h (T := .list (tdL L)) hl
  refine ⟨P', ?_, h'⟩
  have e : g_Lrowright (rS (.own true P) (.dat (rowD L)) .un .un .un .un .un) = some (.rt (.bool true) (rS (.own true P') (.dat (rowD L)) (.dat (.list (tdL L))) (.dat (.int (m : Int))) (.dat (.int (a : Int))) (.dat (.int (MS (L.take a) m))) (.dat (.int (MS (L.drop a) m))))) := by
    rw [gY_is, sq_nx (y1_at hl hw), sq_nx (y2_at hl), sq_nx (y3_at hl hw), sq_nx (y4_at hl), sq_nx e5, sq_nx (y6_at hl hw ha m1 m4), sq_nx (y7_at ha m1 m4)]
    exact sq_rt (y8_at hl hw m1 m4)
  exact (body_rt (m := 5) (g := g_Lrowright) (sls := [.own true P, .dat (rowD L)]) rfl e).trans (by simp [List.range, List.range.loop])
end
end K77
namespace K77
open PySem PySem.Spec PyProof.Rows L2 GX StX DL
theorem eq_int (i j : Int) : eqD (.int i) (.int j) = some (.bool (decide (i = j))) := by
  simp [eqD, SeqAt.shaped, PyData.canLay0, PyData.depth, PyData.eqv, Bool.beq_eq_decide_eq]
abbrev rwS (a b : Int) (P : List PyData) (n w : Int) (s5 : Sl) : Rho := [.own true P, .dat (.int a), .dat (.int b), .dat (.int n), .dat (.int w), s5]
def gR1 : SF := fAsg (fTup (lCons (fCa 2 F_Ldraw (aCons (gVar 0) (aCons (gVal (fOp addD (gVar 1) (gVal (fC (.int 1))))) aNil))) (lCons (fOp addD (gVal (fC (.int 1))) (gVal (fCa 2 F_Ldraw (aCons (gVar 0) (aCons (gVar 2) aNil))))) lNil))) (tTupT 2 [(tName 3), (tName 4)])
def gRt : TF := fTst (fOp eqD (gVal (fCa 2 F_Ldraw (aCons (gVar 0) (aCons (gVal (fC (.int 4))) aNil)))) (gVal (fC (.int 0))))
def gRf1 : EF := fOp ixD (gVal (fC (.str "abcdefghijkl"))) (gVal (fOp modD (gVar 5) (gVar 4)))
def gRf2 : EF := fOp ixD (gVal (fC (.str "abcdefghijkl"))) (gVal (fCa 2 F_Ldraw (aCons (gVar 0) (aCons (gVar 4) aNil))))
def gRc (f : EF) : LF := fComp (iRange1 (lCons (fVar 3) lNil)) [5] (tName 5) fYes f
def gRr (f : EF) : SF := fRet (fCl tupleD (aCons (gVal (fLst (gRc f))) aNil))
theorem gR_is : g_Lrow = fSq gR1 (fSq (fIfS gRt (fSq (gRr gRf1) fNx) fNx) (fSq (gRr gRf2) fNx)) := rfl
section
variable {a b : Int}
theorem r1v {P P1 P2 : List PyData} {n w : Int} (e1 : F_Ldraw [.own true P, .dat (.int (a + 1))] = some (.int n, [.own true P1, .un])) (e2 : F_Ldraw [.own true P1, .dat (.int b)] = some (.int w, [.own true P2, .un])) : gR1 [.own true P, .dat (.int a), .dat (.int b), .un, .un, .un] = some (.nx (rwS a b P2 n (1 + w) .un)) := by
  have f2 : fits 2 = true := by decide
  unfold gR1
  generalize F_Ldraw = A at e1 e2 ⊢
  simp [e1, e2, f2]
theorem rtv {P P1 : List PyData} {n w d : Int} (e1 : F_Ldraw [.own true P, .dat (.int 4)] = some (.int d, [.own true P1, .un])) : gRt (rwS a b P n w .un) = some (decide (d = 0), rwS a b P1 n w .un) := by
  have e := eq_int d 0
  unfold gRt
  generalize F_Ldraw = A at e1 ⊢
  generalize decide (d = 0) = b at e ⊢
  generalize eqD = op at e ⊢
  simp [e1, e]
theorem rf1v {P : List PyData} {n w j : Int} {x : PyData} (w1 : 0 < w) (e : ixD (.str "abcdefghijkl") (.int (j % w)) = some x) : gRf1 (rwS a b P n w (.dat (.int j))) = some (x, rwS a b P n w (.dat (.int j))) := by
  unfold gRf1
  generalize (PyData.str "abcdefghijkl") = z at e ⊢
  simp [w1, e]
theorem rf2v {P P1 : List PyData} {n w j d : Int} {x : PyData} (e1 : F_Ldraw [.own true P, .dat (.int w)] = some (.int d, [.own true P1, .un])) (e : ixD (.str "abcdefghijkl") (.int d) = some x) : gRf2 (rwS a b P n w (.dat (.int j))) = some (x, rwS a b P1 n w (.dat (.int j))) := by
  unfold gRf2
  generalize F_Ldraw = A at e1 ⊢
  generalize (PyData.str "abcdefghijkl") = z at e ⊢
  simp [e1, e]
theorem rcv {f : EF} {P : List PyData} {n w : Int} (n0 : 0 ≤ n) (n1 : n ≤ 100) (hP : Pool P) (st : ∀ (P : List PyData) (j : Nat), Pool P → ∃ (P' : List PyData) (x : Str), f (rwS a b P n w (.dat (.int (j : Nat)))) = some (.str x, rwS a b P' n w (.dat (.int (j : Nat)))) ∧ Pool P' ∧ NameOk x) : ∃ (P' : List PyData) (L : List Str), gRc f (rwS a b P n w .un) = some (L.map .str, rwS a b P' n w .un) ∧ Pool P' ∧ (L.length : Int) = n ∧ ∀ w ∈ L, NameOk w := by
  have it : iRange1 (lCons (fVar 3) lNil) (rwS a b P n w .un) = some (rangeD 0 n.toNat, rwS a b P n w .un) := q_iR (by simp) (small62_le n0 (by omega))
  obtain ⟨ys, ρ', e, hl, hy, P', rfl, hP'⟩ := comp_inv (k := 5) (f := f) (fun ρ => ∃ P' : List PyData, ρ = rwS a b P' n w .un ∧ Pool P') (fun y => ∃ h, y = PyData.str h ∧ NameOk h) (rangeD 0 n.toNat) [] (rwS a b P n w .un) ⟨P, rfl, hP⟩ (by
    rintro d hd ρ ⟨P, rfl, hP⟩
    obtain ⟨i, _, rfl⟩ := rangeD_mem hd
    obtain ⟨P', x, e, hP', hx⟩ := st P i hP
    exact ⟨.str x, rwS a b P' n w (.dat (.int (i : Nat))), by simpa using e, ⟨P', rfl, hP'⟩, x, rfl, hx⟩) (by rw [rangeD_len]; simp; omega)
  obtain ⟨L, rfl, hL⟩ := strs_of hy
  refine ⟨P', L, ?_, hP', ?_, hL⟩
  · unfold gRc
    rw [q_fComp, it]
    exact e
  · rw [List.length_map, rangeD_len] at hl
    omega
theorem rrv {f : EF} {ρ ρ' : Rho} {ds : List PyData} (e : gRc f ρ = some (ds, ρ')) : gRr f ρ = some (.rt (.tuple ds) ρ') := by
  unfold gRr
  generalize gRc f = g at e ⊢
  simp [e]
theorem m_hist {P : List PyData} (hP : Pool P) (a0 : 0 ≤ a) (a1 : a ≤ 40) (b0 : 1 ≤ b) (b1 : b ≤ 8) : ∃ (P' : List PyData) (L : List Str), F_Lrow [.own true P, .dat (.int a), .dat (.int b)] = some (rowD L, [.own true P', .un, .un]) ∧ Pool P' ∧ (L.length : Int) ≤ a ∧ ∀ w ∈ L, NameOk w := by
  obtain ⟨n, P1, e1, n0, n1, hP1⟩ := draw hP (m := a + 1) (by omega) (by omega)
  obtain ⟨w, P2, e2, w0, w1, hP2⟩ := draw hP1 (m := b) (by omega) (by omega)
  obtain ⟨d, P3, e3, _, _, hP3⟩ := draw hP2 (m := 4) (by omega) (by omega)
  have s1 := r1v e1 e2
  have s2 := rtv (a := a) (b := b) (n := n) (w := 1 + w) e3
  have fin : ∀ {P' : List PyData} {L : List Str}, g_Lrow [.own true P, .dat (.int a), .dat (.int b), .un, .un, .un] = some (.rt (rowD L) (rwS a b P' n (1 + w) .un)) → F_Lrow [.own true P, .dat (.int a), .dat (.int b)] = some (rowD L, [.own true P', .un, .un]) := fun z =>
    (body_rt (m := 3) (g := g_Lrow) (sls := [.own true P, .dat (.int a), .dat (.int b)]) rfl z).trans (by simp [List.range, List.range.loop])
  by_cases q : d = 0
  · rw [decide_eq_true q] at s2
    obtain ⟨P', L, e, hP', hl, hL⟩ := rcv (a := a) (b := b) (f := gRf1) (P := P3) (n := n) (w := 1 + w) n0 (by omega) hP3 (fun P j hP => by
      obtain ⟨x, ex, hx⟩ := letter (x := (j : Int) % (1 + w)) (Int.emod_nonneg _ (by omega)) (by have := Int.emod_lt_of_pos (j : Int) (show 0 < 1 + w by omega); omega)
      exact ⟨P, x, rf1v (by omega) ex, hP, hx⟩)
    refine ⟨P', L, fin ?_, hP', by omega, hL⟩
    rw [gR_is, sq_nx s1]
    exact sq_rt ((ifs_t s2).trans (sq_rt (rrv e)))
  · rw [decide_eq_false q] at s2
    obtain ⟨P', L, e, hP', hl, hL⟩ := rcv (a := a) (b := b) (f := gRf2) (P := P3) (n := n) (w := 1 + w) n0 (by omega) hP3 (fun P j hP => by
      obtain ⟨d, P', e, d0, d1, hP'⟩ := draw hP (m := 1 + w) (by omega) (by omega)
      obtain ⟨x, ex, hx⟩ := letter (x := d) d0 (by omega)
      exact ⟨P', x, rf2v e ex, hP', hx⟩)
    refine ⟨P', L, fin ?_, hP', by omega, hL⟩
    rw [gR_is, sq_nx s1]
    refine (sq_nx ((ifs_f s2).trans (q_fNx _))).trans ?_
    exact sq_rt (rrv e)
end
end K77
namespace K77
open PySem PySem.Spec PyProof.Rows L2 GX StX DL BX
def gZ1 : SF := fPar 1 2 (lCons (fCa 2 F_Ldraw (aCons (gVar 0) (aCons (gVal (fC (.int 4))) aNil))) (lCons (fOp addD (gVal (fC (.int 1))) (gVal (fCa 2 F_Ldraw (aCons (gVar 0) (aCons (gVal (fC (.int 4))) aNil))))) lNil))
def gZd : SF := fSq (fRet (fCa 3 F_Ldevice (aCons (gVar 0) (aCons (gVal (fC (.int 2))) (aCons (gVal (fC (.int 3))) aNil))))) fNx
def gZ2 : SF := fIfS (fTst (fOp ltD (gVar 1) (gVal (fC (.int 2))))) gZd fNx
def gZl : LF := lLst (lCons (fCa 1 F_Lrecent (aCons (gVar 2) aNil)) (lCons (fCa 1 F_Lqueue (aCons (gVar 2) aNil)) (lCons (fCa 3 F_Lpolicy (aCons (gVar 0) (aCons (gVar 2) (aCons (gVal (fC (.int 4))) aNil)))) lNil)))
def gZ3 : SF := fRet (fTup (lCons (fC (.str "cache")) (lCons (fOp ixD (gVal (fLst gZl)) (gVal (fCa 2 F_Ldraw (aCons (gVar 0) (aCons (gVal (fC (.int 3))) aNil))))) lNil)))
theorem gZ_is : g_Lkit = fSq gZ1 (fSq gZ2 (fSq gZ3 fNx)) := rfl
theorem m_kit {P : List PyData} (h : Pool P) : ∃ (rig : PyData) (P' : List PyData) (N : Nat), F_Lkit [.own true P] = some (rig, [.own true P']) ∧ Rig rig N ∧ Pool P' := by
  obtain ⟨x, P1, e1, x0, x1, h1⟩ := draw h (m := 4) (by omega) (by omega)
  obtain ⟨y, P2, e2, y0, y1, h2⟩ := draw h1 (m := 4) (by omega) (by omega)
  have s1 : gZ1 [.own true P, .un, .un] = some (.nx [.own true P2, .dat (.int x), .dat (.int (1 + y))]) := by simp [gZ1, e1, e2]
  have fin : ∀ (rig : PyData) (P' : List PyData), g_Lkit [.own true P, .un, .un] = some (.rt rig [.own true P', .dat (.int x), .dat (.int (1 + y))]) → F_Lkit [.own true P] = some (rig, [.own true P']) := fun rig P' z =>
    (body_rt (m := 2) (g := g_Lkit) (sls := [.own true P]) rfl z).trans (by simp [List.range, List.range.loop])
  by_cases c : x < 2
  · obtain ⟨rig, P3, N, e3, R, h3⟩ := m_device h2
    refine ⟨rig, P3, N, fin _ _ ?_, R, h3⟩
    have q : ltD (.int x) (.int 2) = some (.bool true) := by
      show some (PyData.bool (decide (x < 2))) = _
      rw [decide_eq_true c]
    have t : fTst (fOp ltD (gVar 1) (gVal (fC (.int 2)))) [.own true P2, .dat (.int x), .dat (.int (1 + y))] = some (true, [.own true P2, .dat (.int x), .dat (.int (1 + y))]) := by simp [q]
    have d : gZd [.own true P2, .dat (.int x), .dat (.int (1 + y))] = some (.rt rig [.own true P3, .dat (.int x), .dat (.int (1 + y))]) := by simp [gZd, e3]
    rw [gZ_is, sq_nx s1]
    exact sq_rt ((ifs_t t).trans d)
  · have q : ltD (.int x) (.int 2) = some (.bool false) := by
      show some (PyData.bool (decide (x < 2))) = _
      rw [decide_eq_false c]
    have t : fTst (fOp ltD (gVar 1) (gVal (fC (.int 2)))) [.own true P2, .dat (.int x), .dat (.int (1 + y))] = some (false, [.own true P2, .dat (.int x), .dat (.int (1 + y))]) := by simp [q]
    obtain ⟨r, er, hr⟩ := m_recent (n := 1 + y) (by omega) (by omega)
    obtain ⟨u, eu, hu⟩ := m_queue (n := 1 + y) (by omega) (by omega)
    obtain ⟨v, P3, ev, hv, h3⟩ := m_policy (n := 1 + y) (m := 4) (by omega) (by omega) (by omega) (by omega) h2
    obtain ⟨d, P4, e4, d0, d1, h4⟩ := draw h3 (m := 3) (by omega) (by omega)
    obtain ⟨k, hk, _, ek⟩ := atI_int (xs := [r, u, v]) d0 (by simp; omega)
    have f3 : fits 3 = true := by decide
    have f2 : fits 2 = true := by decide
    have hkt : TabOk k ∧ lnT k = 1 + y := by
      simp only [List.mem_cons, List.not_mem_nil, or_false] at hk
      rcases hk with rfl | rfl | rfl
      · exact hr
      · exact hu
      · exact hv
    have l : gZl [.own true P2, .dat (.int x), .dat (.int (1 + y))] = some ([r, u, v], [.own true P3, .dat (.int x), .dat (.int (1 + y))]) := by simp [gZl, er, eu, ev, f3]
    have s3 : gZ3 [.own true P2, .dat (.int x), .dat (.int (1 + y))] = some (.rt (.tuple [.str "cache", k]) [.own true P4, .dat (.int x), .dat (.int (1 + y))]) := by
      unfold gZ3
      generalize gZl = f at l ⊢
      simp [l, e4, ek, f2]
    obtain ⟨n, rows, rfl, T⟩ := hkt.1.is
    refine ⟨_, P4, _, fin _ _ ?_, .one T, h4⟩
    rw [gZ_is, sq_nx s1]
    exact (sq_nx ((ifs_f t).trans (q_fNx _))).trans (sq_rt s3)
abbrev qR (P : List PyData) (s1 s2 s3 s4 : Sl) : Rho := [.own true P, s1, s2, s3, s4]
def gA1 : SF := fAsg (fCa 3 F_Lrow (aCons (gVar 0) (aCons (gVal (fC (.int 30))) (aCons (gVal (fC (.int 7))) aNil)))) (tName 4)
def gAa : TF := fNot (fTst (fCa 2 F_Ldeviceright (aCons (gVar 2) (aCons (gVar 4) aNil))))
def gAb : TF := fNot (fTst (fCa 2 F_Lrowright (aCons (gVar 0) (aCons (gVar 4) aNil))))
noncomputable def gA2 : SF := fIfS (fOr gAa gAb) (fSq (fRet (fC (.bool false))) fNx) fNx
noncomputable def gAi : SF := fSq gA1 (fSq gA2 fNx)
def gA0 : SF := fAsg (fCa 1 F_Lkit (aCons (gVar 0) aNil)) (tName 2)
noncomputable def gAo : SF := fSq gA0 (fSq (fFor (iRange1 (lCons (fC (.int 3)) lNil)) (tName 3) gAi) fNx)
theorem gRt_is : g_Lright = fSq (fFor (iRange1 (lCons (fC (.int 3)) lNil)) (tName 1) gAo) (fSq (fRet (fC (.bool true))) fNx) := rfl
section
variable {s1 s2 s3 s4 : Sl} {rig : PyData} {N : Nat} {P P1 : List PyData}
theorem a1_at {x : PyData} (e1 : F_Lrow [.own true P, .dat (.int 30), .dat (.int 7)] = some (x, [.own true P1, .un, .un])) : gA1 (qR P s1 s2 s3 s4) = some (.nx (qR P1 s1 s2 s3 (.dat x))) := by
  unfold gA1
  generalize F_Lrow = A at e1 ⊢
  simp [e1]
theorem aa_at {x : PyData} (e : F_Ldeviceright [.dat rig, .dat x] = some (.bool true, [.un, .un])) : gAa (qR P s1 (.dat rig) s3 (.dat x)) = some (false, qR P s1 (.dat rig) s3 (.dat x)) := by
  unfold gAa
  generalize F_Ldeviceright = A at e ⊢
  simp [e]
theorem ab_at {x : PyData} (e : F_Lrowright [.own true P, .dat x] = some (.bool true, [.own true P1, .un])) : gAb (qR P s1 s2 s3 (.dat x)) = some (false, qR P1 s1 s2 s3 (.dat x)) := by
  unfold gAb
  generalize F_Lrowright = A at e ⊢
  simp [e]
theorem a0_at (e : F_Lkit [.own true P] = some (rig, [.own true P1])) : gA0 (qR P s1 s2 s3 s4) = some (.nx (qR P1 s1 (.dat rig) s3 s4)) := by
  unfold gA0
  generalize F_Lkit = A at e ⊢
  simp [e]
theorem inner (R : Rig rig N) (hP : Pool P) : ∃ (P' : List PyData) (u4 : Sl), gAi (qR P s1 (.dat rig) s3 s4) = some (.nx (qR P' s1 (.dat rig) s3 u4)) ∧ Pool P' := by
  obtain ⟨P1, L, e1, hP1, hl, hL⟩ := m_hist hP (a := 30) (b := 7) (by omega) (by omega) (by omega) (by omega)
  have d := m_devright R (L := L) (by omega) hL
  obtain ⟨P2, e2, hP2⟩ := m_rowright hP1 (L := L) (by omega) hL
  refine ⟨P2, .dat (rowD L), ?_, hP2⟩
  unfold gAi
  rw [sq_nx (a1_at e1)]
  exact (sq_nx ((ifs_f ((or_f (aa_at d)).trans (ab_at e2))).trans (q_fNx _))).trans (q_fNx _)
theorem outer (hP : Pool P) : ∃ (P' : List PyData) (u2 u3 u4 : Sl), gAo (qR P s1 s2 s3 s4) = some (.nx (qR P' s1 u2 u3 u4)) ∧ Pool P' := by
  obtain ⟨rig, P1, N, e1, R, h1⟩ := m_kit hP
  obtain ⟨ρ', e, P', u3, u4, rfl, hP'⟩ := loop_inv (t := tName 3) (g := gAi) (fun _ ρ => ∃ (P' : List PyData) (u3 u4 : Sl), ρ = qR P' s1 (.dat rig) u3 u4 ∧ Pool P') (rangeD 0 3) 0 (qR P1 s1 (.dat rig) s3 s4) ⟨P1, _, _, rfl, h1⟩ (by
    rintro d hd i ρ ⟨P, u3, u4, rfl, hP⟩
    obtain ⟨P', v4, e, hP'⟩ := inner (s1 := s1) (s3 := .dat d) (s4 := u4) R hP
    exact ⟨qR P s1 (.dat rig) (.dat d) u4, _, rfl, e, P', .dat d, v4, rfl, hP'⟩)
  have i2 : ∀ ρ, iRange1 (lCons (fC (.int 3)) lNil) ρ = some (rangeD 0 3, ρ) := fun _ => rfl
  refine ⟨P', .dat rig, u3, u4, ?_, hP'⟩
  unfold gAo
  rw [sq_nx (a0_at e1)]
  exact (sq_nx ((for_it (i2 _)).trans e)).trans (q_fNx _)
end
theorem m_right {P : List PyData} (hP : Pool P) : ∃ P' : List PyData, F_Lright [.own true P] = some (.bool true, [.own true P']) := by
  obtain ⟨ρ', e, P', u1, u2, u3, u4, rfl, hP'⟩ := loop_inv (t := tName 1) (g := gAo) (fun _ ρ => ∃ (P' : List PyData) (u1 u2 u3 u4 : Sl), ρ = qR P' u1 u2 u3 u4 ∧ Pool P') (rangeD 0 3) 0 (qR P .un .un .un .un) ⟨P, _, _, _, _, rfl, hP⟩ (by
    rintro d hd i ρ ⟨P, u1, u2, u3, u4, rfl, hP⟩
    obtain ⟨P', v2, v3, v4, e, hP'⟩ := outer (s1 := .dat d) (s2 := u2) (s3 := u3) (s4 := u4) hP
    exact ⟨qR P (.dat d) u2 u3 u4, _, rfl, e, P', .dat d, v2, v3, v4, rfl, hP'⟩)
  have i2 : ∀ ρ, iRange1 (lCons (fC (.int 3)) lNil) ρ = some (rangeD 0 3, ρ) := fun _ => rfl
  refine ⟨P', ?_⟩
  have z : g_Lright (qR P .un .un .un .un) = some (.rt (.bool true) (qR P' u1 u2 u3 u4)) := by
    rw [gRt_is, sq_nx ((for_it (i2 _)).trans e)]
    rfl
  exact (body_rt (m := 4) (g := g_Lright) (sls := [.own true P]) rfl z).trans (by simp [List.range, List.range.loop])
theorem q_caN (F : FF) (f : LF) (ρ : Rho) : fCaN F f ρ = (match f ρ with
  | none => none
  | some (ds, ρ1) => match F [.own true (.l ds)] with
    | none => none
    | some (d, _) => some (d, ρ1)) := rfl
abbrev gMk : LF := fCaL 1 F_Lpool (aCons (gVal (fCa 2 F_Lcell (aCons (gScr 0) (aCons (gVar 1) aNil)))) aNil)
theorem mk (ns : List Int) (k : Nat) (hk : k ≤ 1000) : ∃ P, gMk [.scr ns, .dat (.int k)] = some (P, [.scr ns, .dat (.int k)]) ∧ Pool P := by
  obtain ⟨v, ev⟩ := m_cell ns k hk
  obtain ⟨P, eP, hP⟩ := m_pool v
  exact ⟨P, by simp [gMk, ev, eP], hP⟩
theorem one (ns : List Int) (k : Nat) (hk : k ≤ 1000) : fCaN F_Lright gMk [.scr ns, .dat (.int k)] = some (.bool true, [.scr ns, .dat (.int k)]) := by
  obtain ⟨P, e, hP⟩ := mk ns k hk
  obtain ⟨P', e2⟩ := m_right hP
  rw [q_caN, e]
  dsimp only
  rw [e2]
abbrev gN : LF := (lCons (fCl maxD (aCons (gVal (fC (.int 2))) (aCons (gVal (fCl min2D (aCons (gVal (fScrLen 0)) (aCons (gVal (fC (.int 6))) aNil)))) aNil))) lNil)
noncomputable def gLA : SF := fRet (fCl allD (aCons (gVal (fLst (fComp (iRange1 gN) [1] (tName 1) fYes (fCaN F_Lright gMk)))) aNil))
theorem law_is : g_law = fSq gLA fNx := rfl
theorem law_true (ns : List Int) (_ : ns.length ≤ 63) : ∃ sls, F_law [.scr ns] = some (.bool true, sls) := by
  have hN : ∃ N : Int, 0 ≤ N ∧ N ≤ 6 ∧ gN [.scr ns, .un] = some ([.int N], [.scr ns, .un]) := by
    refine ⟨if (if (6 : Int) < (ns.length : Int) then 6 else (ns.length : Int)) > 2 then (if (6 : Int) < (ns.length : Int) then 6 else (ns.length : Int)) else 2, ?_, ?_, ?_⟩
    · split <;> omega
    · split
      · split <;> omega
      · omega
    · rfl
  obtain ⟨N, N0, N6, eN⟩ := hN
  have it := q_iR eN (small62_le N0 (by omega))
  have c := comp_map (k := 1) (f := fCaN F_Lright gMk) (h := fun _ => .bool true) (ρ := [.scr ns, .un]) (rangeD 0 N.toNat) [] (fun d hd => by
    obtain ⟨k, hk, rfl⟩ := rangeD_mem hd
    rw [Int.zero_add]
    exact ⟨_, one ns k (by omega), rfl⟩) (by rw [rangeD_len]; simp; omega)
  rw [List.nil_append] at c
  have cc : fComp (iRange1 gN) [1] (tName 1) fYes (fCaN F_Lright gMk) [.scr ns, .un] = some ((rangeD 0 N.toNat).map fun _ => .bool true, [.scr ns, .un]) := by
    rw [q_fComp, it]
    exact c
  have al := all_true (rangeD 0 N.toNat)
  have e1 : gLA [.scr ns, .un] = some (.rt (.bool true) [.scr ns, .un]) := by
    unfold gLA
    generalize fComp (iRange1 gN) [1] (tName 1) fYes (fCaN F_Lright gMk) = C at cc ⊢
    simp [cc, al]
  have all : g_law [.scr ns, .un] = some (.rt (.bool true) [.scr ns, .un]) := by
    rw [law_is]
    exact sq_rt e1
  exact ⟨backP 1 [.scr ns, .un], body_rt (m := 1) (g := g_law) (sls := [.scr ns]) rfl all⟩
end K77
open PySem PySem.W PySem.Calls PyProof.Rows
theorem PySem.Challenge.cw_missbounds_k77_whole_no_device_with_fewe_holds : PySem.Challenge.rw_missbounds_k77_whole_no_device_with_fewe.Holds := by
  w_on; o_law
  refine HandSHeadRun.head_any (r := OpenLaw.row PySem.Challenge.rw_missbounds_k77_whole_no_device_with_fewe) (q := view (OpenLaw.row PySem.Challenge.rw_missbounds_k77_whole_no_device_with_fewe).prog [66]) (H := K77.hk) (ob := K77.ob) (M := 20000) (loose := K77.loose) (d := HandSHeadRun.topDef (OpenLaw.row PySem.Challenge.rw_missbounds_k77_whole_no_device_with_fewe).prog 66) (kwd := []) K77.ob_eq
    (by kernel_rfl) (fun s => by kernel_rfl) K77.headRun (by kernel_rfl) (by kernel_rfl) (by kernel_rfl) (by rfl) (by first | assumption | decide +kernel) (by decide +kernel) ⟨rfl, rfl, rfl, rfl, rfl, by decide +kernel⟩ ?hw ?hc
  case hw => w_witness2
  case hc =>
    refine DL.walk_TF (l := PySem.Challenge.rw_missbounds_k77_whole_no_device_with_fewe) (n := 63) (k := 11) (x := "_law_script") rfl (by decide) (by kernel_rfl) ⟨rfl, by decide, by decide⟩ ?F
    intro w mg fa h Y G hmg0
    obtain ⟨K, KX, c⟩ := Y
    have hmg : mg ("law" : PySem.Str) = some (.ref fa) := by
      have e : (HandSHeadRun.topDef (OpenLaw.row PySem.Challenge.rw_missbounds_k77_whole_no_device_with_fewe).prog 66).name = ("law" : PySem.Str) := by kernel_rfl
      rw [← e]
      exact hmg0
    letI : DL.FT := K77.ftOf w (He.cT K ("best_keeping", none)).2 (He.ga K "Cache")
    obtain ⟨fd, hb, hF⟩ := K77.facts (P := (PySem.Challenge.rw_missbounds_k77_whole_no_device_with_fewe).prog) (w := w) KX G hmg c (K77.ft_ok _ _ _)
    refine ⟨inferInstance, K, fd, DL.spD w K 1 K77.F_law, K77.cps K, KX, fun p hp => ?_, fun p hp => ?_, fun p hp => ?_, hb, fun H a ns hl hS hH => DL.sp_scr (K77.law_true ns hl).choose_spec hS (DL.tb_empty fun p hp => ?_), hF⟩
    · obtain ⟨x, hx, rfl⟩ := List.mem_map.mp hp
      exact c.x.empty x hx
    · obtain ⟨x, hx, rfl⟩ := List.mem_map.mp hp
      exact c.x.out x hx
    · obtain ⟨x, hx, rfl⟩ := List.mem_map.mp hp
      exact PySem.W.codeHd_of_K KX (c.x.hd x hx)
    · have hp2 : p ∈ [((He.cT K ("best_keeping", none)).2, K77.nm)] := hp
      simp only [List.mem_cons, List.not_mem_nil, or_false] at hp2
      rw [hp2]
      exact hH (He.cT K ("best_keeping", none)) (List.mem_map.mpr ⟨("best_keeping", none), List.mem_cons_self, rfl⟩)
