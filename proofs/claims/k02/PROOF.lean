import PyProof.Rows.All
import Wide.All
import OpenK.AllK
import Wide.FinOn
import HandS.ForMost
import HandS.Exc
import HandS.Defaults
import HandS.HeadEnd
import HandS.ExcInit
import HandS.NoneIn
import HandS.Steps
import PyProof.ReprRoads
import KE.KExcInit
import KE.KIsAll
import HandS.ExcValue
import HandS.ExcIs
import HandS.ExcField
import OpenK.KMore
import HandS.Head0
import HandS.Head1
import HandS.Head2
import HandS.HeadHook1
import HandS.HeadHook2
import KE.KStateDown
import HandS.HeadHook4
import PySem.Challenge.RW_missbounds_k02_errors_and_limits
set_option Elab.async false
set_option linter.all false
set_option maxRecDepth 100000
set_option maxHeartbeats 4000000
/-! Defs called where no repr runs around; repr of data. -/
namespace GX
open PySem PySem.Spec PyProof.Rows L2

/-! ### defs that are called where no repr runs around -/
abbrev Gd (A : Around) : Prop := A.guards = some []

structure FnG (P : Program) (w : World) (K : PySem.W.Frag) (mg : Str → Option Value) (base : Heap) (k : Nat) (f : Addr) (fd : FuncData) (ps : List Str) (sp : Sp) : Prop where
  len : ∀ vs H Q E, sp vs H Q E → vs.length = ps.length
  go : ∀ (A : Around) (outer : List Env) (s : Shared) (H : Hp) (args : Args) (us : List Value) (vs : List V) (Q : VK) (E : XK), Gd A → Room k A →
    Env0 P w K mg base A outer s H → BindsTo s fd args (ps.zip us) → Vals vs us → sp vs H Q E →
    codeAny (model P w) A (.call (.ref f) args) (CR CX0 outer P w H s Q E) s

section
variable {P : Program} {w : World} {K : PySem.W.Frag} {mg : Str → Option Value} {base : Heap} {k : Nat} {f : Addr} {fd : FuncData} {ps : List Str} {sp : Sp}

theorem FnG.of (F : FnOk P w K mg base CX0 k f fd ps sp) : FnG P w K mg base k f fd ps sp :=
  ⟨F.len, fun A outer s H args us vs Q E _ hr he hb hv hs => F.run A outer s H args us vs Q E hr he hb hv hs⟩

theorem FnG.mono {j : Nat} (F : FnG P w K mg base j f fd ps sp) (h : j ≤ k) : FnG P w K mg base k f fd ps sp :=
  ⟨F.len, fun A outer s H args us vs Q E g hr he hb hv hs => F.go A outer s H args us vs Q E g (hr.mono h) he hb hv hs⟩

/-- a def by its body -/
theorem okG {x qual : Str} {pa : Arguments} {bd : List Stmt} {sc : Scope} {dvs : List V} {kws : List (Str × V)} {N : List Str}
    (F : FunD K x qual pa bd sc dvs kws f fd) (S : FnScope N ps sc) (len : ∀ vs H Q E, sp vs H Q E → vs.length = ps.length)
    (body : ∀ (cdw : Value) (A : Around) (outer : List Env) (s : Shared) (H : Hp) (vs : List V) (Q : VK) (E : XK),
      Gd (A.deeper (envOfC qual sc s.heap.objs.size f cdw)) → Room k (A.deeper (envOfC qual sc s.heap.objs.size f cdw)) → sp vs H Q E →
      ∃ t, PSs (cxOf CX0 P w K mg base N qual sc f cdw A outer s H E).nox bd t ∧ t { nx := fun _ H' => Q .non H', rt := Q } (start N vs) H) :
    FnG P w K mg base (k + 1) f fd ps sp := by
  obtain ⟨oc, od, dV, kV, doc, pm, an, cdw, ct, slo, rfl, at_, isCode, _, _⟩ := F.ex
  constructor
  · exact len
  intro A outer s H args us vs Q E hG hR e0 hb rv hs
  have hlen := len _ _ _ _ hs
  have kin : K.In s.heap := e0.mod.kin.keeps fun b o z => (e0.bs b o z).1
  have nol : s.heap.NoLimit := e0.mod.nolimit.keeps fun b o z => (e0.bs b o z).1
  have kinds : ∀ y ∈ ps.zip us, sc.names.lookup y.1 = some .local ∨ (sc.names.lookup y.1 = some .cell ∧ ((cellsFrom (s.heap.objs.size + 1) sc.names []).lookup y.1).isSome = true) := by
    rintro ⟨n, v⟩ hy
    rcases S.par n (List.of_mem_zip hy).1 with z | z
    · exact Or.inl z
    · exact Or.inr ⟨z, PySem.W.cellsFrom_some _ _ _ (.inl z)⟩
  refine codeAny_call_function (Room.depth hR) (kin _ _ at_) rfl S.co S.gen rfl (PySem.W.codeRec_of kin isCode) (hb _ _ _ _ (wpAny_newFunctionEnv_cells S.kind kinds ?_))
  intro env henv s1 x
  subst henv
  refine ⟨nol.keeps x.toInCall.keep, codeAny_func ?_⟩
  obtain ⟨t, ht, hq⟩ := body cdw A outer s H vs Q E (by exact hG) (hR.deeper _) hs
  have I := inv_start (CX := CX0) (P := P) (w := w) (K := K) (mg := mg) (base := base) (E := E) S hR.hd e0 hlen rv x
  have done : ∀ {σ' : L2.St} {H' : Hp} {v : V} {u : Value} {s' : Shared}, Inv (cxOf CX0 P w K mg base N qual sc f cdw A outer s H E) [] σ' H' s' → RelV v u → Q v H' → CE outer P w H s Q u s' :=
    fun {_ H' v _ _} J r q => ⟨v, H', J.os, J.bare, J.base, J.hok, r, q⟩
  refine wpAny_mono (ht.nox.run [] s1 (start N vs) H _ I hq) ?_ (fun _ _ z => z)
  intro fl s' hfl
  cases fl with
  | ret u => obtain ⟨v, σ', H', J, r, q⟩ := hfl; exact done J r q
  | next => obtain ⟨σ', H', J, q⟩ := hfl; exact done (v := V.non) (u := Value.none) J rfl q
  | brk => obtain ⟨_, _, _, q⟩ := hfl; exact q.elim
  | cont => obtain ⟨_, _, _, q⟩ := hfl; exact q.elim
end

section
variable {X : Cx} {k : Nat} {f : Addr} {fd : FuncData} {ps : List Str} {sp : Sp} {x : Str} {p pos : Pos} {e : Expr} {es : List Expr} {t : TA}
theorem runG {pins : List (Addr × Obj)} {σ : L2.St} {H : Hp} {s : Shared} {Q : VK} {us : List Value} {vs : List V}
    (F : FnG X.prog X.w X.K X.mg X.base k f fd ps sp) (hG : Gd X.A) (hR : Room k X.A) (hb : Binds X.K fd ps []) (I : Inv X pins σ H s) (r : Vals vs us) (h : sp vs H Q E0) :
    wpAny (model X.prog X.w) X.A (call (.ref f) us)
      (EP X pins σ Q) X.xe s := by
  have hl : (us ++ ([] : List Value)).length = ps.length := by
    rw [List.append_nil, ← r.length]
    exact F.len _ _ _ _ h
  have hbb := hb s us I.kIn hl
  rw [List.append_nil] at hbb
  apply wpAny_call
  refine codeAny_mono (F.go X.A X.stack s H ⟨us, []⟩ us vs Q E0 hG hR I.env0 hbb r h) ?_
  intro res s' z
  cases res with
  | error er => exact False.elim z
  | ok fl => cases fl with
    | ret u => exact I.after z
    | next => exact z.elim
    | brk => exact z.elim
    | cont => exact z.elim
/-- f(e, ..) -/
theorem pe_callG (F : FnG X.prog X.w X.K X.mg X.base k f fd ps sp) (hG : Gd X.A) (hR : Room k X.A) (hg : Gl X x) (hm : X.mg x = some (.ref f)) (hk : PySem.W.keepIn X.K (.ref f) = true) (hb : Binds X.K fd ps [])
    (ha : PA X (e :: es) t)
    (hdb : (x == ("__debug__" : Str)) = false := by decide)
    (he : starEach (e :: es) X.env = (false, eval e X.env) :: starEach es X.env := by rfl) (hpl : (backTo pos (starEach es X.env)).any (·.1) = false := by rfl) :
    PE X (.Call (.Name x p) (e :: es) [] pos) (tCall sp [] E0 t) := by
  constructor
  intro pins s σ H Q I h
  apply wpAny_Call_Name_kw
  refine ld_glob I hg hm (PySem.W.callWith_K (h₀ := X.base) I.ok.mod.kin hk (thn (ha.run pos pins s σ H _ I h) ?_) he hpl) hdb
  rintro us s1 ⟨vs, H1, I1, r, q⟩
  exact ⟨I1.kIn, runG F hG hR hb I1 r (by rw [List.append_nil] at q; exact q)⟩
end

/-! ### repr of data -/
mutual
inductive Dd (K : PySem.W.Frag) (H : Hp) : V → PyData → Prop
  | non : Dd K H .non .none
  | bl (b : Bool) : Dd K H (.bl b) (.bool b)
  | int (i : Int) : Dd K H (.int i) (.int i)
  | str (x : Str) : Dd K H (.str x) (.str x)
  | lst {a : Addr} {xs : List V} {ds : List PyData} : a ≠ sysModules → SqL K H a xs → DdA K H xs ds → Dd K H (.ref a) (.list ds)
  | tup {a : Addr} {xs : List V} {ds : List PyData} : SqT K H a xs → DdA K H xs ds → Dd K H (.ref a) (.tuple ds)
  | dic {a : Addr} : H a = some (.dK []) → Dd K H (.ref a) (.dict [])
inductive DdA (K : PySem.W.Frag) (H : Hp) : List V → List PyData → Prop
  | nil : DdA K H [] []
  | cons {v : V} {vs : List V} {d : PyData} {ds : List PyData} : Dd K H v d → DdA K H vs ds → DdA K H (v :: vs) (d :: ds)
end
theorem sqT_same {K : PySem.W.Frag} {H H' : Hp} {a : Addr} {xs : List V} (e : Same H H') (h : SqT K H a xs) : SqT K H' a xs := by
  rcases h with (h | ⟨o, h⟩) | h
  · exact .inl (.inl (e _ _ h))
  · exact .inl (.inr ⟨o, e _ _ h⟩)
  · exact .inr h
mutual
theorem Dd.same {K : PySem.W.Frag} {H H' : Hp} (e : Same H H') : ∀ (d : PyData) (v : V), Dd K H v d → Dd K H' v d
  | .none, _, h => by cases h; exact .non
  | .bool _, _, h => by cases h; exact .bl _
  | .int _, _, h => by cases h; exact .int _
  | .str _, _, h => by cases h; exact .str _
  | .list ds, _, h => by cases h with | lst hne hs ha => exact .lst hne (e.seq hs) (DdA.same e ds _ ha)
  | .tuple ds, _, h => by cases h with | tup hs ha => exact .tup (sqT_same e hs) (DdA.same e ds _ ha)
  | .dict _, _, h => by cases h with | dic hd => exact .dic (e _ _ hd)
theorem DdA.same {K : PySem.W.Frag} {H H' : Hp} (e : Same H H') : ∀ (ds : List PyData) (vs : List V), DdA K H vs ds → DdA K H' vs ds
  | [], _, h => by cases h; exact .nil
  | d :: ds, _, h => by cases h with | cons h1 h2 => exact .cons (Dd.same e d _ h1) (DdA.same e ds _ h2)
end
section
variable {X : Cx} {s : Shared} {H : Hp} {σ : L2.St} {pins : List (Addr × Obj)}
theorem dK_nil {a : Addr} (I : Inv X pins σ H s) (h : H a = some (.dK [])) : ∃ (o : Obj) (n : Nat), s.heap.get? a = some o ∧ o.cls = .type "dict" ∧ o.data = .dict #[] n ∧ a ≠ sysModules := by
  obtain ⟨_, hs, vs, kv, o, es, ep, ho, hx, hd, _, hl, _⟩ := I.hok a _ h
  cases kv
  have e0 : es = #[] := by
    obtain ⟨l⟩ := es
    cases hl
    rfl
  subst e0
  exact ⟨o, ep, ho, hx.1, hd, by simpa using hs⟩
mutual
theorem Dd.reads (I : Inv X pins σ H s) : ∀ (d : PyData) (v : V) (u : Value), Dd X.K H v d → RelV v u → ∃ as, Reads s.heap u d as ∧ sysModules ∉ as
  | .none, _, _, h, r => by cases h; cases r; exact ⟨_, .none, fun z => nomatch z⟩
  | .bool b, _, _, h, r => by cases h; cases r; exact ⟨_, .bool b, fun z => nomatch z⟩
  | .int i, _, _, h, r => by cases h; obtain ⟨t, rfl⟩ := r; exact ⟨_, .int i t, fun z => nomatch z⟩
  | .str x, _, _, h, r => by cases h; obtain ⟨t, rfl⟩ := r; exact ⟨_, .str x t, fun z => nomatch z⟩
  | .list ds, _, _, h, r => by
    cases h with
    | lst hne hs ha =>
      cases r
      obtain ⟨its, rv, ⟨o, n, ho, hc, _, hd⟩, _⟩ := I.list hs
      obtain ⟨as, hr, hz⟩ := DdA.reads I ds _ its ha rv
      refine ⟨_, .list ho hc hd hr, fun z => ?_⟩
      rcases List.mem_cons.mp z with y | y
      · exact hne y.symm
      · exact hz y
  | .tuple ds, _, _, h, r => by
    cases h with
    | tup hs ha =>
      cases r
      obtain ⟨its, rv, ⟨o, ho, hc, n, hd⟩, _⟩ := I.tuple hs
      obtain ⟨as, hr, hz⟩ := DdA.reads I ds _ its ha rv
      exact ⟨_, .tuple ho hc hd hr, hz⟩
  | .dict kvs, _, _, h, r => by
    cases h with
    | dic hd0 =>
      cases r
      obtain ⟨o, n, ho, hc, hd, hne⟩ := dK_nil I hd0
      exact ⟨_, .dict (kvs := []) ho hc hd .nil .nil, fun z => by simp at z; exact hne z.symm⟩
theorem DdA.reads (I : Inv X pins σ H s) : ∀ (ds : List PyData) (vs : List V) (us : List Value), DdA X.K H vs ds → Vals vs us → ∃ as, ReadsAll s.heap us ds as ∧ sysModules ∉ as
  | [], _, _, h, r => by cases h; cases r; exact ⟨_, .nil, fun z => nomatch z⟩
  | d :: ds, _, _, h, r => by
    cases h with
    | cons h1 h2 =>
      cases r with
      | cons r1 r2 =>
        obtain ⟨as, q1, z1⟩ := Dd.reads I d _ _ h1 r1
        obtain ⟨bs, q2, z2⟩ := DdA.reads I ds _ _ h2 r2
        refine ⟨_, .cons q1 q2, fun hm => ?_⟩
        rcases List.mem_append.mp hm with y | y
        · exact z1 y
        · exact z2 y
end
/-- repr of a list that is not empty -/
def rReprL (K : PySem.W.Frag) : List V → Hp → VK → Prop := fun xs H Q => ∃ (p : Addr) (vs : List V) (ds : List PyData), xs = [.ref p] ∧ vs ≠ [] ∧ SqL K H p vs ∧ DdA K H vs ds ∧
  PyData.showableAll ds = true ∧ PyData.depthAll ds ≤ 60 ∧ (listText (PyData.shownAll ds)).length ≤ sizeLine ∧ Q (.str (listText (PyData.shownAll ds))) H
theorem call_reprL (hG : Gd X.A) (hu : X.A.units + 64 < cLine) : CallR X (.builtin "repr") (rReprL X.K) := by
  intro pins s σ H xs us Q I r h
  obtain ⟨p, vs, ds, rfl, hne, hs, ha, hsh, hdep, hz, q⟩ := h
  cases r with
  | cons r1 r2 =>
    cases r2
    cases r1
    obtain ⟨its, rv, ⟨o, n, ho, hc, _, hd⟩, _⟩ := I.list hs
    obtain ⟨as, hr, hn⟩ := DdA.reads I ds _ its ha rv
    cases its with
    | nil => cases rv; exact (hne rfl).elim
    | cons y l =>
      have hrl : ReadsAll s.heap (y :: l).toArray.toList ds as := by simpa using hr
      obtain ⟨bs, hb, hk⟩ := ReprAllK.of_readsAll (prog := X.prog) (w := X.w) hr hsh (fun _ => hn) (fun t ht => Nat.le_trans (listText_mem_le ht) hz)
      have hna : p ∉ bs := not_mem_of_deeper (Reads.list ho hc hd hrl) (n := PyData.depthAll ds) (by simp only [PyData.depth]; omega) hb
      refine call_repr_slot (T := "list") (idr := "list.__repr__") (by omega) ⟨o, ho, hc⟩ F.slot_list_repr.toG ?_
      refine call_list_reprK (A := X.A.in1) (d := PyData.depthAll ds) ho hc hd hna (by simpa using hk.length_eq) (fun i z e => hk.item i z (by simpa using e)) hG (fun b _ => Clear.nil b) (by show X.A.units + 1 + (PyData.depthAll ds + 1) < cLine; omega) (fun _ _ e => e) (fun h' u tk hkeep => ?_) hz
      exact ⟨_, _, rfl, .str _, H, I.kept (t' := tk) hkeep, ⟨_, rfl⟩, q⟩
end
section
variable {X : Cx} {es : List Expr} {t : TA} {pos : Pos}
/-- a display: the new list is not sys.modules -/
def tLstN (t : TA) : TE := fun σ H Q => t σ H fun xs H1 => xs.length ≤ sizeLine ∧ ∀ p, H1 p = none → p ≠ sysModules → Q (.ref p) (upd H1 p (.lst xs))
theorem pe_lstN (h : PA X es t) : PE X (.List es pos) (tLstN t) := by
  constructor
  intro pins s σ H Q I hq
  apply wpAny_List_spliced
  refine thn (h.run pos pins s σ H _ I hq) ?_
  rintro us s1 ⟨xs, H1, I1, r, z, q⟩
  have hn : H1 s1.heap.objs.size = none := I1.hok.fresh (Nat.le_refl _)
  have big : mainGlobals < s1.heap.objs.size := Nat.lt_of_lt_of_le (Nat.lt_of_lt_of_le I1.mod.glob.lt I1.ok.bsz) I1.sz
  have ne : s1.heap.objs.size ≠ sysModules := fun e => by
    rw [e] at big
    exact absurd big (by decide)
  refine ⟨by rw [← r.length]; exact z, .ref s1.heap.objs.size, upd H1 s1.heap.objs.size (.lst xs), I1.laid (t' := s1.toks) (fun b u e => Heap.get?_push_of_some _ e) (Nat.le_refl _) ?_, rfl, q _ hn ne⟩
  exact ⟨z, us, 0, r, Heap.get?_push_size _ rfl⟩
end
end GX
set_option maxRecDepth 100000
set_option maxHeartbeats 4000000
/-! Own exception classes called, by position and by keywords. -/
namespace PySem
namespace GE
open PySem.W PySem.Calls PyProof.Rows PySem.HandSPX
open Builtin Builtin.ObjectAttr
section
variable {M : Model} {A : Around} {E : Value → Shared → Prop} {h : Heap} {gn : Array GenState} {dw : Drawn} {t0 : Nat} {osx : OsState}
variable {cnm q : Str} {C N : Addr} {bses mroC mroB : List Value} {hasD : Bool} {sns : List Str} {sub : List Value} {abst : Bool} {coll : Option Bool} {dct : Option Addr} {o0 o1 o2 o3 o5 : Option Value} {B newN initN : String}
theorem new_check (F : ExcBaseFacts B newN initN mroB) (tails : ∀ X : String, mroC.contains (.type X) = mroB.contains (.type X)) {rest : List Value} {kw : List (Str × Value)} {Q : Unit → Shared → Prop}
    (atC : h.get? C = some (excClassObj cnm q C N bses mroC hasD sns sub abst coll dct o0 o1 o2 o3 o5 newN)) (goes : Q () ⟨h, gn, dw, t0, osx⟩) :
    wpAny M A (checkBuiltinCall newN ⟨.ref C :: rest, kw⟩) Q E ⟨h, gn, dw, t0, osx⟩ := by
  have c1 : (Value.ref C :: mroC).contains (.type B) = true := by
    rw [List.contains_cons, tails, F.hasB, Bool.or_true]
  have c2 := F.noStar
  simp only [checkBuiltinCall, F.newKind, F.newSplit, F.newRow]
  repeat (first
    | refine wpAny_loadPart_at atC ?_
    | (refine wpAny_isSubtype_exc atC ?_; rw [c1])
    | refine wpAny_staticBase_exc atC ?_
    | refine wpAny_madeBy_exc atC ?_
    | simp only [bne_self_eq_false, Bool.false_eq_true, if_false]
    | wp_step)
  exact goes
end
section
variable {prog : Program} {w : World} {A : Around} {E : Value → Shared → Prop} {R : Result → Shared → Prop} {h : Heap} {gn : Array GenState} {dw : Drawn} {t0 : Nat} {osx : OsState}
variable {cnm q : Str} {C N : Addr} {bses mroC mroB : List Value} {hasD : Bool} {sns : List Str} {sub : List Value} {abst : Bool} {coll : Option Bool} {dct : Option Addr} {o0 o1 o2 o3 o5 : Option Value} {B newN initN : String}
theorem new_run (F : ExcBaseFacts B newN initN mroB) (tails : ∀ X : String, mroC.contains (.type X) = mroB.contains (.type X)) {rest : List Value} {kw : List (Str × Value)}
    (atC : h.get? C = some (excClassObj cnm q C N bses mroC hasD sns sub abst coll dct o0 o1 o2 o3 o5 newN))
    (goes : R (.ok (.ret (.ref (h.objs.size + 1)))) ⟨(h.push (W.kdv_tup rest)).push (excO C h.objs.size), gn, dw, t0, osx⟩) (few : rest.length ≤ sizeLine) :
    codeAny (model prog w) A (.builtin newN ⟨.ref C :: rest, kw⟩) R ⟨h, gn, dw, t0, osx⟩ := by
  have e0 := F.ends
  have e1 : (Value.ref C :: mroC).contains (.type B) = true := by
    rw [List.contains_cons, tails, F.hasB, Bool.or_true]
  have e2 : (Value.ref C :: mroC).contains (.type "AttributeError") = false := by
    rw [List.contains_cons, tails, F.noAttr]
    rfl
  have e3 : (Value.ref C :: mroC).contains (.type "NameError") = false := by
    rw [List.contains_cons, tails, F.noName]
    rfl
  refine codeAny_builtinAt F.entry ?_
  (unfold Builtin.«BaseException.__new__»; refine wpAt_bind ?_; show wpAt _ _ _ (stack >>= _) _ _ _)
  refine wpAt_bind (wpAt_stack fun at_ under_ => wpAt_of_wpAny ?_)
  wp_walk
  refine wpAt_of_wpAny ?_
  rw [F.owner]
  repeat (first
    | with_reducible refine wpAny_madeHere_exc F.canon atC ?_
    | with_reducible refine wpAny_loadPart_at atC ?_
    | (with_reducible refine wpAny_isSubtype_exc atC ?_; first | rw [e1] | rw [e2] | rw [e3])
    | wp_step)
  show R _ _
  rw [Heap.size_push]
  exact goes
theorem tcall_run (F : ExcBaseFacts B newN initN mroB) (tails : ∀ X : String, mroC.contains (.type X) = mroB.contains (.type X)) {rest : List Value} {kw : List (Str × Value)} {fI : Addr} {Q : Fin → Shared → Prop}
    (atC : h.get? C = some (excClassObj cnm q C N bses mroC hasD sns sub abst coll dct o0 o1 o2 o3 o5 newN))
    (ini : W.Looks (model prog w) h (typeLookup (.ref C) "__init__") (some (.ref fI))) (bnd : ∀ self, W.Looks (model prog w) h (bindSpecial (.ref fI) self) (.ref fI, [self])) (few : rest.length ≤ sizeLine)
    (goes : codeAny (model prog w) A (.call (.ref fI) ⟨.ref (h.objs.size + 1) :: rest, kw⟩)
      (fun r s' => match r with
        | .ok (.ret v) => v = .none ∧ Q (.done (.ret (.ref (h.objs.size + 1)))) s' | .ok _ => False | .error e => E e s')
      ⟨(h.push (W.kdv_tup rest)).push (excO C h.objs.size), gn, dw, t0, osx⟩) :
    wpAny (model prog w) A (Builtin.«type.__call__» ⟨.ref C :: rest, kw⟩) Q E ⟨h, gn, dw, t0, osx⟩ := by
  repeat (first
    | with_reducible refine wpAny_loadPart_at atC ?_
    | with_reducible refine wpAny_madeBy_exc atC ?_
    | wp_step)
  refine codeAny_call_builtin_code (Code.quiet_builtin _ F.quiet) (new_check F tails atC ?_)
  refine new_run F tails atC ?_ few
  show wpAny _ _ _ _ _ _
  have kk : ∀ b o, h.get? b = some o → ((h.push (W.kdv_tup rest)).push (excO C h.objs.size)).get? b = some o := by
    intro b o e
    exact Heap.get?_push_of_some _ (Heap.get?_push_of_some _ e)
  have hC1 := kk _ _ atC
  have hnew : ((h.push (W.kdv_tup rest)).push (excO C h.objs.size)).get? (h.objs.size + 1) = some (excO C h.objs.size) := by
    heap_get
  have hself : (Value.ref C :: mroC).contains (.ref C) = true := by
    simp
  have j1 := ini.keeps kk
  have j2 := (bnd (.ref (h.objs.size + 1))).keeps kk
  unfold isInstance
  repeat (first | with_reducible refine wpAny_loadPart_at hnew ?_ | (with_reducible refine wpAny_isSubtype_exc hC1 ?_; rw [hself]) | wp_step)
  show wpAny _ _ (typeLookup (.ref C) _) _ _ _
  refine j1.at ?_
  refine wpAny_holding (wpAny_bind (j2.at ?_))
  refine wpAny_bind (wpAny_call (codeAny_mono goes fun r s' zz => ?_))
  rcases r with e | (v | _ | _ | _)
  all_goals first | exact zz | exact False.elim zz | skip
  obtain ⟨rfl, zz⟩ := zz
  first
    | exact wpAny_pure (wpAny_pure zz)
    | (wp_walk; exact zz)
theorem own_call (F : ExcBaseFacts B newN initN mroB) (tails : ∀ X : String, mroC.contains (.type X) = mroB.contains (.type X)) {rest : List Value} {kw : List (Str × Value)} {fI : Addr}
    (atC : h.get? C = some (excClassObj cnm q C N bses mroC hasD sns sub abst coll dct o0 o1 o2 o3 o5 newN))
    (ini : W.Looks (model prog w) h (typeLookup (.ref C) "__init__") (some (.ref fI))) (bnd : ∀ self, W.Looks (model prog w) h (bindSpecial (.ref fI) self) (.ref fI, [self])) (few : rest.length ≤ sizeLine)
    (goes : codeAny (model prog w) (A.under (.builtin "type.__call__" ⟨.ref C :: rest, kw⟩)) (.call (.ref fI) ⟨.ref (h.objs.size + 1) :: rest, kw⟩) (W.InitBack (h.objs.size + 1) R)
      ⟨(h.push (W.kdv_tup rest)).push (excO C h.objs.size), gn, dw, t0, osx⟩) :
    codeAny (model prog w) A (.call (.ref C) ⟨rest, kw⟩) R ⟨h, gn, dw, t0, osx⟩ := by
  have f1 := tc_lookup
  have f2 := tc_bind (.ref C)
  have isTy : (⟨h, gn, dw, t0, osx⟩ : Shared).TypeIs (.ref C) "type" := ⟨_, atC, rfl⟩
  refine codeAny_of_tree ?_
  show wpAny _ _ (callAny (.ref C) _) _ _ _
  repeat (any_goals (first | assumption | with_reducible refine wpAny_loadPart_at atC ?_ | wp_step))
  refine ⟨rfl, ?_⟩
  refine codeAny_call_builtin_at (Code.quiet_builtin _ (by decide +kernel)) entry_typeCall ?_
  refine wpAny_check_type_call_sub atC (tcall_run F tails atC ini bnd few ?_)
  refine codeAny_mono goes fun r s' zz => ?_
  rcases r with e | (v | _ | _ | _) <;> exact zz
end
end GE
end PySem
set_option maxRecDepth 100000
set_option maxHeartbeats 4000000
/-! Own exception classes whose __init__ keeps its parameters: what a call makes. -/
namespace PySem
namespace GE
open PySem.W PySem.Calls PyProof.Rows PySem.HandSPX
open Builtin Builtin.ObjectAttr

/-- what the library knows of a built-in class of errors -/
structure BF (B newId initId : String) (T : List Value) : Prop where
  F : ExcBaseFacts B newId initId T
  S : StoreFacts B T "object.__setattr__" "object"
theorem bfV : BF "ValueError" "ValueError.__new__" "ValueError.__init__" [.type "ValueError", .type "Exception", .type "BaseException", .type "object"] := ⟨F.excBase_ValueError, F.store_ValueError⟩
theorem bfL : BF "LookupError" "LookupError.__new__" "LookupError.__init__" [.type "LookupError", .type "Exception", .type "BaseException", .type "object"] := ⟨F.excBase_LookupError, F.store_LookupError⟩
theorem bfA : BF "ArithmeticError" "ArithmeticError.__new__" "ArithmeticError.__init__" [.type "ArithmeticError", .type "Exception", .type "BaseException", .type "object"] := ⟨F.excBase_ArithmeticError, F.store_ArithmeticError⟩

section
variable {prog : Program} {w : World} {A : Around} {E : Value → Shared → Prop} {R : Result → Shared → Prop} {hp : Heap} {gn : Array GenState} {dw : Drawn} {t0 : Nat} {osx : OsState}
variable {K : W.Frag} {B newId initId : String} {T : List Value} {name : Str} {tk0 : Tok} {v : Value} {x C : Addr} {flds : Array Value}
/-- the first field -/
theorem osa_first (b : BF B newId initId T) (X : K.In hp) (atX : hp.get? x = some { cls := .ref C, data := .fields flds }) (ov : excOver K C T = true) (hasD : hasDictIn K C = true) (ha : W.findIn K (.ref C) name = some none)
    (goes : ∀ hE tk1 dx, (∀ b o, b ≠ x → hp.get? b = some o → hE.get? b = some o) → hp.objs.size ≤ dx → dx ≠ x → hE.get? x = some { cls := .ref C, dict := some dx, data := .fields flds } →
      hE.Ns1 dx (fun y => if y = name then some v else none) → R (.ok (.ret .none)) ⟨hE, gn, dw, tk1, osx⟩) :
    codeAny (model prog w) A (.call (.builtin "object.__setattr__") ⟨[.ref x, .str name tk0, v], []⟩) R ⟨hp, gn, dw, t0, osx⟩ := by
  have tn : takerIn K C name = some none := by
    unfold takerIn
    rw [ha]
    rfl
  have xne : x ≠ hp.objs.size := Nat.ne_of_lt (Heap.lt_size atX)
  refine osa_openX (od := none) b.S X ⟨atX, rfl, rfl, trivial⟩ ov tn fun fl => ?_
  obtain ⟨cd, hcd, hcb⟩ := any_some hasD
  have lc : W.Looks (model prog w) hp (classData C) cd := W.looks_clsIn X hcd
  show wpAny _ _ (storeInOwnDict (.ref x) (.ref C) (.str name tk0) name v fl) _ _ _
  obtain ⟨nm, bs, mro, ns, qn, hdd, sn, sb, ab, col, del⟩ := cd
  dsimp only at hcb
  subst hcb
  unfold storeInOwnDict ownDictForStores
  repeat (first | with_reducible refine store_in_new ?_ ?_ | with_reducible refine wpAny_loadPart_at atX ?_ | with_reducible refine lc.at ?_ | wp_step)
  · exact ⟨_, #[], _, (Heap.get?_update_ne _ _ _ _ xne.symm).trans (Heap.get?_push_at rfl rfl), rfl, fun e he => absurd he (by simp), fun _ => rfl⟩
  · intro hE tk1 nsE but
    have hx1 : (hp.push { cls := .type "dict", data := .dict #[] }).get? x = some { cls := .ref C, data := .fields flds } := Heap.get?_push_of_some _ atX
    refine goes hE tk1 hp.objs.size ?_ (Nat.le_refl _) xne.symm ?_ nsE
    · intro c o hcd ho
      exact (but.2 c (Nat.ne_of_lt (Heap.lt_size ho))).trans ((Heap.get?_update_ne _ _ _ _ hcd).trans (Heap.get?_push_of_some _ ho))
    · exact (but.2 x xne).trans (Heap.get?_update_self _ hx1 rfl)
/-- a further field -/
theorem osa_more {dx : Addr} {m0 : Str → Option Value} {nl : List Str} (b : BF B newId initId T) (X : K.In hp) (atX : hp.get? x = some { cls := .ref C, dict := some dx, data := .fields flds }) (atD : hp.Ns1 dx m0) (wi : Within m0 nl) (few : nl.length ≤ 1000)
    (ov : excOver K C T = true) (hasD : hasDictIn K C = true) (ha : W.findIn K (.ref C) name = some none)
    (goes : ∀ hE tk1, (∀ b o, b ≠ dx → hp.get? b = some o → hE.get? b = some o) → hE.Ns1 dx (fun y => if y = name then some v else m0 y) → R (.ok (.ret .none)) ⟨hE, gn, dw, tk1, osx⟩) :
    codeAny (model prog w) A (.call (.builtin "object.__setattr__") ⟨[.ref x, .str name tk0, v], []⟩) R ⟨hp, gn, dw, t0, osx⟩ := by
  have tn : takerIn K C name = some none := by
    unfold takerIn
    rw [ha]
    rfl
  obtain ⟨oD, esD, epD, hoD, hdD, _⟩ := atD.count wi
  refine osa_openX (od := some oD) b.S X ⟨atX, rfl, rfl, hoD⟩ ov tn fun fl => ?_
  obtain ⟨cd, hcd, hcb⟩ := any_some hasD
  have lc : W.Looks (model prog w) hp (classData C) cd := W.looks_clsIn X hcd
  show wpAny _ _ (storeInOwnDict (.ref x) (.ref C) (.str name tk0) name v fl) _ _ _
  obtain ⟨nm, bs, mro, ns, qn, hdd, sn, sb, ab, col, del⟩ := cd
  dsimp only at hcb
  subst hcb
  unfold storeInOwnDict ownDictForStores
  repeat (first | with_reducible refine OEX.store_in_old atD wi few ?_ | with_reducible refine wpAny_loadPart_at atX ?_ | with_reducible refine lc.at ?_ | wp_step)
  intro hE tk1 nsE but
  exact goes hE tk1 (fun c o hcd ho => (but.2 c hcd).trans ho) nsE
end

/-! ### the text of __init__ -/
def jA (f : Str) (p1 p2 : Pos) : Arguments := { posonlyargs := [], args := [{ arg := "self", annotation := none, pos := p1 }, { arg := f, annotation := none, pos := p2 }], vararg := none, kwonlyargs := [], kw_defaults := [], kwarg := none, defaults := [] }
def jB (f : Str) (q1 q2 q3 q4 : Pos) : List Stmt := [.Assign [.Attribute (.Name "self" q1) f q2] (.Name f q3) q4]
def jS (f : Str) : Scope := { kind := .function, names := [("self", .local), (f, .local)], isGenerator := false, isCoroutine := false, more := [] }
/-- self, name, other -/
def kA (p1 p2 p3 : Pos) : Arguments := { posonlyargs := [], args := [{ arg := "self", annotation := none, pos := p1 }, { arg := "name", annotation := none, pos := p2 }, { arg := "other", annotation := none, pos := p3 }], vararg := none, kwonlyargs := [], kw_defaults := [], kwarg := none, defaults := [] }
def kB (q1 q2 q3 q4 r1 r2 r3 r4 : Pos) : List Stmt := [.Assign [.Attribute (.Name "self" q1) "name" q2] (.Name "name" q3) q4, .Assign [.Attribute (.Name "self" r1) "other" r2] (.Name "other" r3) r4]
def kS : Scope := { kind := .function, names := [("self", .local), ("name", .local), ("other", .local)], isGenerator := false, isCoroutine := false, more := [] }
/-- the six names of a single field -/
def six : List Str := ["value", "index", "line", "command", "name", "limit"]

/-- what a call leaves: a new error at e, its dict at d with the fields m -/
structure Made (h h' : Heap) (e C d : Addr) (m : Str → Option Value) : Prop where
  keep : ∀ b o, h.get? b = some o → h'.get? b = some o
  new : h.objs.size ≤ e
  obj : ∃ t1 : Addr, h'.get? e = some ({ cls := .ref C, dict := some d, data := .fields #[.ref t1, .none, .none, .none, .bool false, .none] } : Obj)
  dnew : h.objs.size ≤ d
  dne : d ≠ e
  ns : h'.Ns1 d m

/-- what the written part says of such a class, at C, and of its __init__, at fI -/
structure XTxt (K : Frag) (C fI : Addr) (B newId initId : String) (T : List Value) : Prop where
  b : BF B newId initId T
  q : excInitIn K C T newId = true
  ov : excOver K C T = true
  hd : hasDictIn K C = true
  sa : findIn K (.ref C) "__setattr__" = some (some (.builtin "object.__setattr__"))
  iC : findIn K (.ref C) "__init__" = some (some (.ref fI))
  fn : isFn K (.ref fI) = true

section
variable {prog : Program} {w : World} {A : Around} {E : Value → Shared → Prop} {R : Result → Shared → Prop} {s : Shared} {K : Frag} {C fI : Addr} {B newId initId : String} {T : List Value}
theorem ldN {M : Model} {name : Str} {scope : Scope} {L a : Addr} {cd : Value} {m : Str → Option Value} {x : Str} {pos : Pos} {v : Value} {Q : Value → Shared → Prop} (hn : s.heap.Ns L m) (hv : m x = some v) (h : Q v s)
    (hk : scope.kind = .function := by rfl) (hl : (envOfC name scope L a cd).kindOf x = some .local := by rfl) (hd : (x == ("__debug__" : Str)) = false := by decide) :
    wpAny M A (eval (.Name x pos) (envOfC name scope L a cd)) Q E s := wpAny_Name (wpAny_loadName_local hk hl hn hv h) hd

theorem init_one (Z : XTxt K C fI B newId initId T) {f : Str} (hf : f ∈ six) {oc kV doc pm cdv ct : Value} {od an : Option Addr} {osl : Array (Option Value)} {qual : Str} {p1 p2 q1 q2 q3 q4 : Pos}
    (lk : K.lookup fI = some ⟨oc, od, .func (fnOf "__init__" qual (jA f p1 p2) (jB f q1 q2 q3 q4) (jS f) .none kV doc pm an cdv ct), osl⟩) (hcd : codeIn K cdv qual = true) (no : findIn K (.ref C) f = some none)
    {x t0 : Addr} {v : Value} {args : Args} (ha : args = ⟨[.ref x, v], []⟩ ∨ args = ⟨[.ref x], [(f, v)]⟩) (X : K.In s.heap) (hlim : s.heap.NoLimit) (hx : s.heap.get? x = some (excO C t0)) (hroom : A.depth < recursionLimit)
    (hq : ∀ h' tk dx, (∀ b o, b ≠ x → s.heap.get? b = some o → h'.get? b = some o) → h'.get? x = some { cls := .ref C, dict := some dx, data := .fields #[.ref t0, .none, .none, .none, .bool false, .none] } → s.heap.objs.size ≤ dx → dx ≠ x →
      h'.Ns1 dx (fun y => if y = f then some v else none) → R (.ok (.ret .none)) { s with heap := h', toks := tk }) :
    codeAny (model prog w) A (.call (.ref fI) args) R s := by
  have go : ∀ (hb : BindsTo s (fnOf "__init__" qual (jA f p1 p2) (jB f q1 q2 q3 q4) (jS f) .none kV doc pm an cdv ct) args [("self", .ref x), (f, v)]), codeAny (model prog w) A (.call (.ref fI) args) R s := by
    intro hb
    refine Att.call_fn (binds := [("self", .ref x), (f, v)]) X hlim lk hcd hroom hb ?_ (fun s₁ IC => ?_) rfl rfl rfl
    · simp only [six, List.mem_cons, List.not_mem_nil, or_false] at hf
      rcases hf with rfl | rfl | rfl | rfl | rfl | rfl <;> first | rfl | kernel_rfl
    · obtain ⟨h₁, tk₁, rfl⟩ := IC.toInCall.same
      have k : ∀ b o, s.heap.get? b = some o → h₁.get? b = some o := IC.toInCall.keep
      have hn := IC.toInCall.ns
      have X₁ : K.In h₁ := X.keeps k
      have hx₁ := k _ _ hx
      show wpAny _ _ (execs (jB f q1 q2 q3 q4) _) _ _ _
      have key : ∀ (hvf : bindL (envOfC qual (jS f) s.heap.objs.size fI cdv).kindOf [("self", .ref x), (f, v)] (fun _ => none) f = some v)
          (hvs : bindL (envOfC qual (jS f) s.heap.objs.size fI cdv).kindOf [("self", .ref x), (f, v)] (fun _ => none) "self" = some (.ref x))
          (kf : (envOfC qual (jS f) s.heap.objs.size fI cdv).kindOf f = some .local) (ks : (envOfC qual (jS f) s.heap.objs.size fI cdv).kindOf "self" = some .local) (df : (f == ("__debug__" : Str)) = false),
          wpAny (model prog w) (A.deeper (envOfC qual (jS f) s.heap.objs.size fI cdv)) (execs (jB f q1 q2 q3 q4) (envOfC qual (jS f) s.heap.objs.size fI cdv))
            (fun fl sE => R (.ok (.ret (match fl with | .ret v => v | _ => .none))) sE)
            (fun e s' => wpAny (model prog w) (A.deeper (envOfC qual (jS f) s.heap.objs.size fI cdv)) (leaving (envOfC qual (jS f) s.heap.objs.size fI cdv) e) (fun _ s'' => R (.error e) s'') (fun e' s'' => R (.error e') s'') s') { s with heap := h₁, toks := tk₁ } := by
        intro hvf hvs kf ks df
        refine wpAny_execs_cons (plainObj_wpAny_Assign_Attribute ?_)
        refine ldN (v := v) hn hvf (ldN (v := .ref x) hn hvs ?_ rfl ks) rfl kf df
        refine set_plain X₁ (ox := excO C t0) (od := none) ⟨hx₁, rfl, rfl, trivial⟩ Z.sa ?_
        refine osa_first Z.b X₁ hx₁ Z.ov Z.hd no (fun h₃ tk₃ dx k₃ dn dne hx₃ hn₃ => ?_)
        have z : s.heap.objs.size < h₁.objs.size := hn.lt
        exact wpAny_execs_nil (hq h₃ tk₃ dx (fun b o hb e => k₃ b o hb (k b o e)) hx₃ (Nat.le_of_lt (Nat.lt_of_lt_of_le z dn)) dne hn₃)
      simp only [six, List.mem_cons, List.not_mem_nil, or_false] at hf
      rcases hf with rfl | rfl | rfl | rfl | rfl | rfl
      all_goals exact key (by first | rfl | kernel_rfl) (by first | rfl | kernel_rfl) (by first | rfl | kernel_rfl) (by first | rfl | kernel_rfl) (by decide)
  simp only [six, List.mem_cons, List.not_mem_nil, or_false] at hf
  rcases ha with rfl | rfl
  · refine go (BindsTo.of_eq ?_)
    rcases hf with rfl | rfl | rfl | rfl | rfl | rfl
    all_goals first | rfl | with_unfolding_all rfl
  · refine go (BindsTo.of_eq ?_)
    rcases hf with rfl | rfl | rfl | rfl | rfl | rfl
    all_goals first | rfl | with_unfolding_all rfl
end
end GE
end PySem
set_option maxRecDepth 100000
set_option maxHeartbeats 4000000
namespace PySem
namespace GE
open PySem.W PySem.Calls PyProof.Rows PySem.HandSPX
open Builtin Builtin.ObjectAttr
section
variable {prog : Program} {w : World} {A : Around} {E : Value → Shared → Prop} {R : Result → Shared → Prop} {s : Shared} {K : Frag} {C fI : Addr} {B newId initId : String} {T : List Value}
theorem within_one (f : Str) (v : Value) : Within (fun y => if y = f then some v else none) [f] := by
  intro y hy
  by_cases e : y = f
  · rw [e]; exact List.mem_cons_self ..
  · simp [e] at hy
theorem init_two (Z : XTxt K C fI B newId initId T) {oc kV doc pm cdv ct : Value} {od an : Option Addr} {osl : Array (Option Value)} {qual : Str} {p1 p2 p3 q1 q2 q3 q4 r1 r2 r3 r4 : Pos}
    (lk : K.lookup fI = some ⟨oc, od, .func (fnOf "__init__" qual (kA p1 p2 p3) (kB q1 q2 q3 q4 r1 r2 r3 r4) kS .none kV doc pm an cdv ct), osl⟩) (hcd : codeIn K cdv qual = true) (no1 : findIn K (.ref C) "name" = some none) (no2 : findIn K (.ref C) "other" = some none)
    {x t0 : Addr} {v u : Value} {args : Args} (ha : args = ⟨[.ref x, v, u], []⟩ ∨ args = ⟨[.ref x], [("other", u), ("name", v)]⟩) (X : K.In s.heap) (hlim : s.heap.NoLimit) (hx : s.heap.get? x = some (excO C t0)) (hnx : K.lookup x = none) (hroom : A.depth < recursionLimit)
    (hq : ∀ h' tk dx, (∀ b o, b ≠ x → s.heap.get? b = some o → h'.get? b = some o) → h'.get? x = some { cls := .ref C, dict := some dx, data := .fields #[.ref t0, .none, .none, .none, .bool false, .none] } → s.heap.objs.size ≤ dx → dx ≠ x →
      h'.Ns1 dx (fun y => if y = "other" then some u else if y = "name" then some v else none) → R (.ok (.ret .none)) { s with heap := h', toks := tk }) :
    codeAny (model prog w) A (.call (.ref fI) args) R s := by
  have go : ∀ (binds : List (Str × Value)) (hk : (binds.all fun y => kS.names.lookup y.1 == some .local || kS.names.lookup y.1 == some .cell) = true)
      (hvn : bindL (envOfC qual kS s.heap.objs.size fI cdv).kindOf binds (fun _ => none) "name" = some v) (hvo : bindL (envOfC qual kS s.heap.objs.size fI cdv).kindOf binds (fun _ => none) "other" = some u) (hvs : bindL (envOfC qual kS s.heap.objs.size fI cdv).kindOf binds (fun _ => none) "self" = some (.ref x))
      (hb : BindsTo s (fnOf "__init__" qual (kA p1 p2 p3) (kB q1 q2 q3 q4 r1 r2 r3 r4) kS .none kV doc pm an cdv ct) args binds), codeAny (model prog w) A (.call (.ref fI) args) R s := by
    intro binds hk hvn hvo hvs hb
    refine Att.call_fn (binds := binds) X hlim lk hcd hroom hb hk (fun s₁ IC => ?_) rfl rfl rfl
    obtain ⟨h₁, tk₁, rfl⟩ := IC.toInCall.same
    have k : ∀ b o, s.heap.get? b = some o → h₁.get? b = some o := IC.toInCall.keep
    have hn := IC.toInCall.ns
    have X₁ : K.In h₁ := X.keeps k
    have hx₁ := k _ _ hx
    show wpAny _ _ (execs (kB q1 q2 q3 q4 r1 r2 r3 r4) _) _ _ _
    refine wpAny_execs_cons (plainObj_wpAny_Assign_Attribute ?_)
    refine ldN (v := v) hn hvn (ldN (v := .ref x) hn hvs ?_)
    refine set_plain X₁ (ox := excO C t0) (od := none) ⟨hx₁, rfl, rfl, trivial⟩ Z.sa ?_
    refine osa_first Z.b X₁ hx₁ Z.ov Z.hd no1 (fun h₃ tk₃ dx k₃ dn dne hx₃ hn₃ => ?_)
    have z : s.heap.objs.size < h₁.objs.size := hn.lt
    have X₃ : K.In h₃ := fun b o e => k₃ b o (fun y => by rw [y, hnx] at e; cases e) (X₁ b o e)
    have hLx : s.heap.objs.size ≠ x := Nat.ne_of_gt (Heap.lt_size hx)
    have hn3 : h₃.Ns s.heap.objs.size (bindL (envOfC qual kS s.heap.objs.size fI cdv).kindOf binds fun _ => none) := by
      obtain ⟨o, es, ep, e, rr⟩ := hn
      exact ⟨o, es, ep, k₃ _ _ hLx e, rr⟩
    show wpAny _ _ (execs _ _) _ _ _
    refine wpAny_execs_cons (plainObj_wpAny_Assign_Attribute ?_)
    refine ldN (v := u) hn3 hvo (ldN (v := .ref x) hn3 hvs ?_)
    obtain ⟨oD, _, _, hoD, _, _⟩ := hn₃.count (within_one "name" v)
    refine set_plain X₃ (ox := { cls := .ref C, dict := some dx, data := .fields #[.ref t0, .none, .none, .none, .bool false, .none] }) (od := some oD) ⟨hx₃, rfl, rfl, hoD⟩ Z.sa ?_
    refine osa_more Z.b X₃ hx₃ hn₃ (within_one "name" v) (by decide) Z.ov Z.hd no2 (fun h₄ tk₄ k₄ hn₄ => ?_)
    show wpAny _ _ (execs _ _) _ _ _
    refine wpAny_execs_nil (hq h₄ tk₄ dx (fun b o hb e => k₄ b o (Nat.ne_of_lt (Nat.lt_of_lt_of_le (Heap.lt_size (k b o e)) dn)) (k₃ b o hb (k b o e))) (k₄ _ _ (Ne.symm dne) hx₃) (Nat.le_of_lt (Nat.lt_of_lt_of_le z dn)) dne ?_)
    exact hn₄
  rcases ha with rfl | rfl
  · exact go [("self", .ref x), ("name", v), ("other", u)] (by first | rfl | kernel_rfl) (by first | rfl | kernel_rfl) (by first | rfl | kernel_rfl) (by first | rfl | kernel_rfl) (BindsTo.of_eq (by first | rfl | with_unfolding_all rfl))
  · first
      | exact go [("self", .ref x), ("name", v), ("other", u)] (by first | rfl | kernel_rfl) (by first | rfl | kernel_rfl) (by first | rfl | kernel_rfl) (by first | rfl | kernel_rfl) (BindsTo.of_eq (by first | rfl | with_unfolding_all rfl))
      | exact go [("self", .ref x), ("other", u), ("name", v)] (by first | rfl | kernel_rfl) (by first | rfl | kernel_rfl) (by first | rfl | kernel_rfl) (by first | rfl | kernel_rfl) (BindsTo.of_eq (by first | rfl | with_unfolding_all rfl))

theorem one_line (n : Nat) (h : n ≤ 3) : n ≤ sizeLine := by
  rw [sizeLine_eq]
  omega
/-- the call of such a class, its __init__ by a lemma of the above -/
theorem made_of (Z : XTxt K C fI B newId initId T) {us : List Value} {kws : List (Str × Value)} {m : Str → Option Value} (hl : us.length ≤ 3) (X : K.In s.heap) (hlim : s.heap.NoLimit) (hroom : A.depth + 1 < recursionLimit)
    (init : ∀ {A' : Around} {R' : Result → Shared → Prop} {s' : Shared} {x t0 : Addr}, K.In s'.heap → s'.heap.NoLimit → s'.heap.get? x = some (excO C t0) → K.lookup x = none → A'.depth < recursionLimit →
      (∀ h' tk dx, (∀ b o, b ≠ x → s'.heap.get? b = some o → h'.get? b = some o) → h'.get? x = some { cls := .ref C, dict := some dx, data := .fields #[.ref t0, .none, .none, .none, .bool false, .none] } → s'.heap.objs.size ≤ dx → dx ≠ x →
        h'.Ns1 dx m → R' (.ok (.ret .none)) { s' with heap := h', toks := tk }) → codeAny (model prog w) A' (.call (.ref fI) ⟨.ref x :: us, kws⟩) R' s')
    (hq : ∀ h' tk e d, Made s.heap h' e C d m → R (.ok (.ret (.ref e))) { s with heap := h', toks := tk }) :
    codeAny (model prog w) A (.call (.ref C) ⟨us, kws⟩) R s := by
  obtain ⟨nm, N', qn, bs, bm, hdct, sn, sub, ab, col, dd, k0, k1, k2, k3, k5, hC, hT⟩ := excInit_of X Z.q
  obtain ⟨oI, hoI, hcI⟩ :
      ∃ oI, s.heap.get? fI = some oI ∧ oI.cls = .type "function" := by
    obtain ⟨o, ho, hc⟩ := Option.map_eq_some_iff.mp (show (K.lookup fI).map (·.cls) = some (.type "function") from beq_iff_eq.mp Z.fn)
    exact ⟨o, X _ _ ho, hc⟩
  obtain ⟨hp, g, dr, tk, os⟩ := s
  have k : ∀ b o, hp.get? b = some o → ((hp.push (kdv_tup us)).push (excO C hp.objs.size)).get? b = some o := by
    intro b o e
    exact Heap.get?_push_of_some _ (Heap.get?_push_of_some _ e)
  have hget : ((hp.push (kdv_tup us)).push (excO C hp.objs.size)).get? (hp.objs.size + 1) = some (excO C hp.objs.size) := by heap_get
  have hnx : K.lookup (hp.objs.size + 1) = none := by
    cases e : K.lookup (hp.objs.size + 1) with
    | none => rfl
    | some o => exact absurd (Nat.lt_of_succ_lt (Heap.lt_size (X _ _ e))) (Nat.lt_irrefl _)
  refine own_call Z.b.F hT hC (looks_findIn X Z.iC) (fun self => exc_bind hoI hcI self) (one_line _ hl) ?_
  refine init (s' := ⟨(hp.push (kdv_tup us)).push (excO C hp.objs.size), g, dr, tk, os⟩) (X.keeps k) (hlim.keeps k) hget hnx ?_ fun h' tk' dx k' hx dn dne hns => ?_
  · show (A.under (.builtin "type.__call__" ⟨.ref C :: us, kws⟩)).depth < recursionLimit
    rw [L2.make_depth]
    exact hroom
  · have z : hp.objs.size + 1 + 1 ≤ dx := by
      first
        | (simpa only [Heap.size_push] using dn)
        | exact dn
        | (have y := dn; rw [Heap.size_push, Heap.size_push] at y; exact y)
    exact ⟨rfl, hq h' tk' (hp.objs.size + 1) dx ⟨fun b o e => k' b o (Nat.ne_of_lt (Nat.lt_succ_of_lt (Heap.lt_size e))) (k b o e), Nat.le_succ _, ⟨_, hx⟩, Nat.le_trans (Nat.le_trans (Nat.le_succ _) (Nat.le_succ _)) z, dne, hns⟩⟩
end
end GE
end PySem
set_option maxRecDepth 100000
set_option maxHeartbeats 4000000
/-! Errors as values: made, asked for their class, read. -/
namespace PySem
namespace GE
open PySem.W PySem.Calls PyProof.Rows PySem.HandSPX
section
variable {prog : Program} {w : World} {A : Around} {E : Value → Shared → Prop} {s : Shared} {K : Frag} {x D : Addr} {ox : Obj} {od : Option Obj}
theorem findObj_bind {C : Addr} {name : Str} {a g : Value} (hc : (clsIn K C).isSome = true) (ha : findIn K (.ref C) name = some (some a)) (hg : specialIn K a "__get__" = some (some g)) (ht : takesIn K a = some true) :
    findObj K C od name = some (.bind g a) := by
  obtain ⟨cd, e⟩ := Option.isSome_iff_exists.mp hc
  unfold findObj
  rw [e, Option.bind_some, ha, Option.bind_some]
  simp only [hg, ht, Option.bind_some]
/-- what its class must say, that isinstance asks an error rightly -/
theorem askCls {Q : Option Value → Shared → Prop} (T : L2.ExcC K D) (X : K.In s.heap) (I : InstAt s.heap x ox D od) (fin : Q (some (.ref D)) { s with toks := s.toks + 1 }) :
    wpAny (model prog w) A (getAttr? (.ref x) "__class__") Q E s := by
  have hsome : (clsIn K D).isSome = true := by
    obtain ⟨cd, hc, _⟩ := any_some T.hd
    rw [hc]
    rfl
  have hf := findObj_bind (od := od) hsome T.ha T.hn T.ht
  obtain ⟨hp0, gn, dw, t0, osx⟩ := s
  have l0 := I.type (M := model prog w)
  have l1 := looks_findIn (M := model prog w) X T.hg
  have l2 := looks_findIn (M := model prog w) X T.hk
  have l3 := looks_find (M := model prog w) X I hf
  have sub : Looks (model prog w) hp0 (isInstance (.ref x) (.type "BaseException")) true := l0.andThen (looks_subIn X T.hs)
  have b0 : (Value.builtin "BaseException.__getattribute__" == Value.builtin "object.__getattribute__") = false := by
    decide +kernel
  have b1 : (onTheHeap (Value.ref D) && Value.builtin "BaseException.__getattribute__" == Value.builtin "object.__getattribute__") = false := by
    rw [b0]
    rfl
  have b2 : (false && onTheHeap (Value.builtin "BaseException.__getattribute__")) = false := by
    rfl
  unfold getAttr? getAttrBy? getAttrBy
  refine wpAny_bind (wpAny_mkText (wpAny_bind (wpAny_attempt (wpAny_holding ?_))))
  refine wpAny_bind (l0.at (wpAny_bind (l1.at ?_)))
  show wpAny _ _
    (if (onTheHeap (Value.ref D) && Value.builtin "BaseException.__getattribute__" == Value.builtin "object.__getattribute__") = true then _ else _) _ _ _
  rw [b1, if_neg Bool.false_ne_true]
  unfold getAttrByItsOwn hookBefore
  apply wpAny_bind
  rw [if_pos (show onTheHeap (Value.ref D) = true from rfl)]
  refine l2.at (wpAny_bind (wpAny_attempt (wpAny_holding ?_)))
  unfold callGetattribute
  rw [b2, if_neg Bool.false_ne_true]
  unfold boundAndCalled
  rw [PySem.F.excAttr_ValueError.ga.bind (.ref x)]
  apply wpAny_bind
  apply wpAny_pure
  show wpAny _ _ (call (.builtin "BaseException.__getattribute__") [.ref x, .str "__class__" t0]) _ _ _
  refine wpAny_call
    (codeAny_call_builtin PySem.F.excAttr_ValueError.ga.plain PySem.F.entry_bexc_ga ?_)
  refine @check_slot (model prog w) _ _ ⟨hp0, gn, dw, t0 + 1, osx⟩ "BaseException.__getattribute__" "BaseException" "__getattribute__" (.ref x) [.str "__class__" t0] [] _ (by decide +kernel) (by decide +kernel) sub ?_ ?_
  · exact PySem.F.args_bexc_ga (.ref x) (.str "__class__" t0)
  unfold Builtin.«object.__getattribute__»
  refine wpAny_bind (wpAny_of_eq (a := ((Value.ref x : Value), [Value.str "__class__" t0])) (by first | rfl | (simp only [slotArgs]; rfl)) ?_)
  refine wpAny_bind (wpAny_pure (wpAny_bind (l0.at ?_)))
  refine wpAny_bind (l3.at ?_)
  show wpAny _ _
    (holding [Value.builtin "object.__class__"] (call (.builtin "getset_descriptor.__get__") [.builtin "object.__class__", .ref x, .ref D]) >>= ret) _ _ _
  refine wpAny_bind (wpAny_holding (wpAny_call (class_get (s := ⟨hp0, gn, dw, t0 + 1, osx⟩) (ox := ox) (od := od) X I T.hm (wpAny_pure ?_))))
  show wpAny _ _ (handedOut (.ref D)) _ _ _
  rw [handedOut_of (v := .ref D) rfl]
  first
    | exact wpAny_pure (wpAny_pure fin)
    | exact wpAny_pure fin
    | exact wpAny_pure (wpAny_bind (wpAny_pure (wpAny_pure fin)))
theorem kitErr (T : L2.ExcC K D) : KitX K (.ref x) (.ref D) (fun h => ∃ (ox : Obj) (od : Option Obj), InstAt h x ox D od) := by
  obtain ⟨cdD, hcD, hdD⟩ := any_some T.hd
  have lk : ∃ c' d' cd' sl', K.lookup D = some ⟨c', d', .cls cd', sl'⟩ := by
    unfold clsIn at hcD
    split at hcD
    · rename_i c' d' cd' sl' ho
      exact ⟨c', d', cd', sl', ho⟩
    · cases hcD
  obtain ⟨c', d', cd', sl', ho⟩ := lk
  constructor
  · rintro _ _ _ ⟨_, _, I⟩
    exact I.type
  · intro M h X _ A' Q' E' s' k q
    unfold isType loadHead
    exact wpAny_bind (wpAny_loadPart (k _ _ (X _ _ ho)) (wpAny_pure q))
  · intro h tp dd its n sl X htp
    refine Bool.eq_false_iff.mpr fun q => ?_
    have e : D = tp := Value.ref.inj (beq_iff_eq.mp q)
    rw [e] at ho
    have z := (X _ _ ho).symm.trans htp
    cases z
  · rintro _ _ _ _ _ _ X ⟨_, _, I⟩ k
    exact askCls T X I k
end
end GE
end PySem

namespace GX
open PySem PySem.Spec PyProof.Rows L2
section
variable {X : Cx} {pins : List (Addr × Obj)} {σ : L2.St} {H : Hp} {s : Shared}

/-- an error of the class C at a: without a dict, or with the fields fs in its dict -/
def ErrAt (H : Hp) (a C : Addr) (fs : List (Str × V)) : Prop := (H a = some (exo a C none) ∧ fs = []) ∨ ∃ d, H a = some (exo a C (some d)) ∧ H d = some (exd d fs)
theorem ErrAt.same {H H' : Hp} {a C : Addr} {fs : List (Str × V)} (e : Same H H') (h : ErrAt H a C fs) : ErrAt H' a C fs := by
  rcases h with ⟨h, z⟩ | ⟨d, h, z⟩
  · exact .inl ⟨e _ _ h, z⟩
  · exact .inr ⟨d, e _ _ h, e _ _ z⟩
theorem ErrAt.inst {a C : Addr} {fs : List (Str × V)} (I : Inv X pins σ H s) (h : ErrAt H a C fs) : ∃ (ox : Obj) (od : Option Obj), PySem.W.InstAt s.heap a ox C od ∧ ∀ f v, fs.lookup f = some v → ∃ u dd, od = some dd ∧ PySem.W.lookIn f dd = some (some u) ∧ RelV v u := by
  rcases h with ⟨h, rfl⟩ | ⟨d, h, z⟩
  · obtain ⟨t1, ho⟩ := exo_at I.hok h
    exact ⟨_, none, ⟨ho, rfl, rfl, trivial⟩, fun _ _ z => nomatch z⟩
  · obtain ⟨t1, ho⟩ := exo_at I.hok h
    obtain ⟨mA, hns, hr⟩ := exd_at I.hok z
    obtain ⟨od, hod, hl⟩ := lookIn_ns hns
    refine ⟨_, some od, ⟨ho, rfl, rfl, hod⟩, fun f v e => ?_⟩
    obtain ⟨u, hu, ru⟩ := RelO.some_of (v := v) (o := mA f) (by rw [← e]; exact hr f)
    exact ⟨u, od, rfl, by rw [hl, hu], ru⟩
/-- isinstance(e, c) -/
def rIsX (K : PySem.W.Frag) : List V → Hp → VK → Prop := fun xs H Q => ∃ (a C : Addr) (fs : List (Str × V)) (c : V) (cv : Value) (b : Bool), xs = [.ref a, c] ∧ ErrAt H a C fs ∧ ExcC K C ∧ (∀ u, RelV c u → u = cv) ∧ PySem.W.kitOne K (.ref C) cv = some b ∧ Q (.bl b) H
theorem call_isX : CallR X (.builtin "isinstance") (rIsX X.K) := by
  intro pins s σ H xs us Q I r h
  obtain ⟨a, C, fs, c, cv, b, rfl, he, hC, hcv, e, q⟩ := h
  cases r with
  | cons rx rr =>
    cases rr with
    | cons rt rr =>
      cases rr
      cases rx
      have ec := hcv _ rt
      subst ec
      obtain ⟨ox, od, J, _⟩ := he.inst I
      exact PySem.W.kia_one (PySem.GE.kitErr hC) I.kIn ⟨ox, od, J⟩ e (fun z => nomatch z) fun tk => ⟨.bl b, H, I.kept (t' := tk) fun _ _ z => z, rfl, q⟩
/-- e.f -/
def tErrF (K : PySem.W.Frag) (n : Str) (te : TE) : TE := fun σ H Q => te σ H fun x H1 => ∃ (a C : Addr) (fs : List (Str × V)) (v : V), x = .ref a ∧ ErrAt H1 a C fs ∧ XfC K C ∧ PySem.W.findIn K (.ref C) n = some none ∧ fs.lookup n = some v ∧ Q v H1
theorem pe_errF {e : Expr} {te : TE} {pos : Pos} {n : Str} (he : PE X e te) (hb : attributeBase e n X.env (eval e X.env) = eval e X.env := by rfl) : PE X (.Attribute e n pos) (tErrF X.K n te) := by
  constructor
  intro pins s σ H Q I h
  refine attr_of hb (thn (he.run pins s σ H _ I h) ?_)
  rintro u s1 ⟨x, H1, I1, rx, a, C, fs, v, ex, ea, T, hno, l, q⟩
  subst ex
  obtain rfl : u = Value.ref a := rx
  obtain ⟨ox, od, J, hf⟩ := ea.inst I1
  obtain ⟨u, dd, rfl, hl, ru⟩ := hf n v l
  exact PySem.HandSPX.exc_get I1.kIn J T.ga T.gg T.exC (PySem.W.findObj_own T.hdC hno rfl hl) (handed_of ru) ⟨v, H1, I1.tok _, ru, q⟩
end
end GX
set_option maxRecDepth 100000
set_option maxHeartbeats 4000000
/-! Errors made by a call, as values, in rows. -/
namespace PySem
namespace GE
open PySem.W PySem.Calls PyProof.Rows PySem.HandSPX
/-- a call of the class at C with these arguments makes an error with these fields -/
def Makes (K : Frag) (C : Addr) (args : Args) (m : Str → Option Value) : Prop :=
  ∀ (prog : Program) (w : World) (A : Around) (R : Result → Shared → Prop) (s : Shared), K.In s.heap → s.heap.NoLimit → A.depth + 1 < recursionLimit →
    (∀ h' tk e d, Made s.heap h' e C d m → R (.ok (.ret (.ref e))) { s with heap := h', toks := tk }) → codeAny (model prog w) A (.call (.ref C) args) R s
section
variable {K : Frag} {C fI : Addr} {B newId initId : String} {T : List Value}
theorem makes_one (Z : XTxt K C fI B newId initId T) {f : Str} (hf : f ∈ six) {oc kV doc pm cdv ct : Value} {od an : Option Addr} {osl : Array (Option Value)} {qual : Str} {p1 p2 q1 q2 q3 q4 : Pos}
    (lk : K.lookup fI = some ⟨oc, od, .func (fnOf "__init__" qual (jA f p1 p2) (jB f q1 q2 q3 q4) (jS f) .none kV doc pm an cdv ct), osl⟩) (hcd : codeIn K cdv qual = true) (no : findIn K (.ref C) f = some none) (v : Value) :
    Makes K C ⟨[v], []⟩ (fun y => if y = f then some v else none) ∧ Makes K C ⟨[], [(f, v)]⟩ (fun y => if y = f then some v else none) := by
  constructor
  · intro prog w A R s X hlim hroom hq
    exact made_of Z (by simp) X hlim hroom (fun {A' R' s' x t0} X' hl' hx _ hr hq' => init_one Z hf lk hcd no (.inl rfl) X' hl' hx hr hq') hq
  · intro prog w A R s X hlim hroom hq
    exact made_of Z (by simp) X hlim hroom (fun {A' R' s' x t0} X' hl' hx _ hr hq' => init_one Z hf lk hcd no (.inr rfl) X' hl' hx hr hq') hq
theorem makes_two (Z : XTxt K C fI B newId initId T) {oc kV doc pm cdv ct : Value} {od an : Option Addr} {osl : Array (Option Value)} {qual : Str} {p1 p2 p3 q1 q2 q3 q4 r1 r2 r3 r4 : Pos}
    (lk : K.lookup fI = some ⟨oc, od, .func (fnOf "__init__" qual (kA p1 p2 p3) (kB q1 q2 q3 q4 r1 r2 r3 r4) kS .none kV doc pm an cdv ct), osl⟩) (hcd : codeIn K cdv qual = true) (no1 : findIn K (.ref C) "name" = some none) (no2 : findIn K (.ref C) "other" = some none) (v u : Value) :
    Makes K C ⟨[v, u], []⟩ (fun y => if y = "other" then some u else if y = "name" then some v else none) ∧ Makes K C ⟨[], [("other", u), ("name", v)]⟩ (fun y => if y = "other" then some u else if y = "name" then some v else none) := by
  constructor
  · intro prog w A R s X hlim hroom hq
    exact made_of Z (by simp) X hlim hroom (fun {A' R' s' x t0} X' hl' hx hnx hr hq' => init_two Z lk hcd no1 no2 (.inl rfl) X' hl' hx hnx hr hq') hq
  · intro prog w A R s X hlim hroom hq
    exact made_of Z (by simp) X hlim hroom (fun {A' R' s' x t0} X' hl' hx hnx hr hq' => init_two Z lk hcd no1 no2 (.inr rfl) X' hl' hx hnx hr hq') hq
end
end GE
end PySem
namespace GX
open PySem PySem.Spec PyProof.Rows L2
section
variable {X : Cx} {pins : List (Addr × Obj)} {σ : L2.St} {H : Hp} {s : Shared}
/-- another reading of the same expression -/
theorem PE.imp {e : Expr} {t t' : TE} (h : PE X e t) (z : ∀ σ H Q, t' σ H Q → t σ H Q) : PE X e t' := ⟨fun pins s σ H Q I q => h.run pins s σ H Q I (z _ _ _ q)⟩
theorem PS.imp {e : Stmt} {t t' : TS} (h : PS X e t) (z : ∀ D σ H, t' D σ H → t D σ H) : PS X e t' := ⟨fun pins s σ H D I q => h.run pins s σ H D I (z _ _ _ q)⟩
theorem PT.imp {e : Expr} {t t' : TT} (h : PT X e t) (z : ∀ σ H Q, t' σ H Q → t σ H Q) : PT X e t' := ⟨fun pins s σ H Q I q => h.run pins s σ H Q I (z _ _ _ q)⟩
theorem same_upd {H : Hp} {a : Addr} {o : HO} (h : H a = none) : Same H (upd H a o) := fun b u e => by
  rw [upd_ne (ne_of_none e h)]
  exact e
/-- behind the call -/
theorem mk_call {C : Addr} {us : List Value} {kws : List (Str × Value)} {m : Str → Option Value} {fs : List (Str × V)} {Q : VK} (M : PySem.GE.Makes X.K C ⟨us, kws⟩ m) (I : Inv X pins σ H s) (hr : X.A.depth + 1 < recursionLimit)
    (r : ∀ g, RelO (fs.lookup g) (m g)) (h : ∀ a H', Same H H' → ErrAt H' a C fs → Q (.ref a) H') : wpAny (model X.prog X.w) X.A (call (.ref C) us kws) (EP X pins σ Q) X.xe s := by
  apply wpAny_call
  refine M _ _ _ _ _ I.kIn I.nolimit hr fun h' tk a d z => ?_
  obtain ⟨t1, ho⟩ := z.obj
  have ha : H a = none := I.hok.fresh z.new
  have hd : H d = none := I.hok.fresh z.dnew
  have hda : upd H d (exd d fs) a = none := by
    rw [upd_ne (Ne.symm z.dne)]
    exact ha
  have s1 : Same H (upd H d (exd d fs)) := same_upd hd
  have s2 : Same H (upd (upd H d (exd d fs)) a (exo a C (some d))) := s1.trans (same_upd hda)
  have hk1 : HOk X.prog X.w (upd H d (exd d fs)) h' := I.hok.laid z.keep z.dnew (exd_ok z.ns r)
  have hk2 : HOk X.prog X.w (upd (upd H d (exd d fs)) a (exo a C (some d))) h' := hk1.laidN (fun _ _ e => e) hda (exo_ok ho)
  have nd : ∀ {b : Addr} {o : Obj}, s.heap.get? b = some o → b ≠ d := fun {b o} q => Nat.ne_of_lt (Nat.lt_of_lt_of_le (Heap.lt_size q) z.dnew)
  have na : ∀ {b : Addr} {o : Obj}, s.heap.get? b = some o → b ≠ a := fun {b o} q => Nat.ne_of_lt (Nat.lt_of_lt_of_le (Heap.lt_size q) z.new)
  have U : Un X.fs [] H (upd (upd H d (exd d fs)) a (exo a C (some d))) s.heap h' := {
    keep := fun b o q n _ _ => z.keep b o q
    slot := fun b o q n _ _ => ⟨o.slots, z.keep b o q⟩
    free := fun b o q n _ => by rw [upd_ne (na q), upd_ne (nd q)]; exact n
    there := fun b o q _ => ⟨o, z.keep b o q⟩
    tups := fun b xs q => s2 _ _ q
    frzs := fun b o u q => s2 _ _ q
    tbls := fun b ps q => ⟨#[], by rw [s2 _ _ q]; simp⟩ }
  refine ⟨.ref a, _, I.un (t' := tk) U hk2, rfl, h a _ s2 (.inr ⟨d, ?_, ?_⟩)⟩
  · exact upd_same
  · rw [upd_ne z.dne, upd_same]
theorem relO_one {f : Str} {v : V} {u : Value} (r : RelV v u) (g : Str) : RelO ([(f, v)].lookup g) (if g = f then some u else none) := by
  have := relO_put (f := f) (fs := []) (mA := fun _ => none) r (fun _ => True.intro) g
  exact this
theorem relO_two {v z : V} {u y : Value} (r : RelV v u) (q : RelV z y) (g : Str) : RelO ([(("other" : Str), z), ("name", v)].lookup g) (if g = "other" then some y else if g = "name" then some u else none) :=
  relO_put (f := "other") (fs := [("name", v)]) q (relO_one r) g
/-- C(e), C(f=e): a new error -/
def tErr (C : Addr) (f : Str) (te : TE) : TE := fun σ H Q => te σ H fun v H1 => ∀ a H', Same H1 H' → ErrAt H' a C [(f, v)] → Q (.ref a) H'
def tErr2 (C : Addr) (ta tb : TE) : TE := fun σ H Q => ta σ H fun v H1 => tb σ H1 fun z H2 => ∀ a H', Same H2 H' → ErrAt H' a C [("other", z), ("name", v)] → Q (.ref a) H'
def tErr2k (C : Addr) (ta tb : TE) : TE := fun σ H Q => tb σ H fun z H1 => ta σ H1 fun v H2 => ∀ a H', Same H2 H' → ErrAt H' a C [("other", z), ("name", v)] → Q (.ref a) H'
/-- what is known of such a class -/
structure XOne (K : PySem.W.Frag) (mg : Str → Option Value) (x : Str) (C : Addr) (f : Str) : Prop where
  g : mg x = some (.ref C)
  kp : PySem.W.keepIn K (.ref C) = true
  make : ∀ v, PySem.GE.Makes K C ⟨[v], []⟩ (fun y => if y = f then some v else none) ∧ PySem.GE.Makes K C ⟨[], [(f, v)]⟩ (fun y => if y = f then some v else none)
structure XTwo (K : PySem.W.Frag) (mg : Str → Option Value) (x : Str) (C : Addr) : Prop where
  g : mg x = some (.ref C)
  kp : PySem.W.keepIn K (.ref C) = true
  make : ∀ v u, PySem.GE.Makes K C ⟨[v, u], []⟩ (fun y => if y = "other" then some u else if y = "name" then some v else none) ∧ PySem.GE.Makes K C ⟨[], [("other", u), ("name", v)]⟩ (fun y => if y = "other" then some u else if y = "name" then some v else none)
variable {x f : Str} {C : Addr} {e b : Expr} {te tb : TE} {p pos kp kp2 : Pos}
theorem pe_err (T : XOne X.K X.mg x C f) (hr : Room 1 X.A) (hg : Gl X x) (he : PE X e te) (hdb : (x == ("__debug__" : Str)) = false := by decide) (hs : starEach [e] X.env = (false, eval e X.env) :: starEach [] X.env := by rfl) :
    PE X (.Call (.Name x p) [e] [] pos) (tErr C f te) := by
  constructor
  intro pins s σ H Q I h
  refine wpAny_Call_Name_kw (ld_glob I hg T.g ?_ hdb)
  refine PySem.W.callWith_K (h₀ := X.base) I.ok.mod.kin T.kp ?_ hs (by rfl)
  rw [hs]
  show wpAny _ _
    (spliced ((false, eval e X.env) :: backTo pos (starEach [] X.env))) _ _ s
  refine Calls.spliced_cons (thn (he.run pins s σ H _ I h) ?_)
  rintro u s1 ⟨v, H1, I1, r1, q1⟩
  refine Calls.spliced_nil ⟨I1.kIn, ?_⟩
  exact mk_call (T.make u).1 I1 (by have := hr.dp; omega) (relO_one r1) q1
theorem pe_errK (T : XOne X.K X.mg x C f) (hr : Room 1 X.A) (hg : Gl X x) (he : PE X e te) (hdb : (x == ("__debug__" : Str)) = false := by decide) :
    PE X (.Call (.Name x p) [] [⟨some f, e, kp⟩] pos) (tErr C f te) := by
  constructor
  intro pins s σ H Q I h
  refine wpAny_Call_Name_kw (ld_glob I hg T.g ?_ hdb)
  refine PySem.W.callWith_KW0 (h₀ := X.base) I.ok.mod.kin T.kp (by rfl) ?_ (by rfl)
  refine thn ((pk_cons (nm := some f) (kpos := kp) he pk_nil).run pos pins s σ H (fun zs H' => match zs with | [v] => ∀ a H'', Same H' H'' → ErrAt H'' a C [(f, v)] → Q (.ref a) H'' | _ => False) I h) ?_
  rintro us s1 ⟨zs, H1, I1, r1, q1⟩
  match zs, us, r1, q1 with
  | [v], [u], .cons ra .nil, q1 => exact ⟨I1.kIn, mk_call (T.make u).2 I1 (by have := hr.dp; omega) (relO_one ra) q1⟩
theorem pe_err2 (T : XTwo X.K X.mg x C) (hr : Room 1 X.A) (hg : Gl X x) (he : PE X e te) (hb : PE X b tb) (hdb : (x == ("__debug__" : Str)) = false := by decide) (hs : starEach [e, b] X.env = (false, eval e X.env) :: starEach [b] X.env := by rfl) (hs2 : starEach [b] X.env = (false, eval b X.env) :: starEach [] X.env := by rfl) :
    PE X (.Call (.Name x p) [e, b] [] pos) (tErr2 C te tb) := by
  constructor
  intro pins s σ H Q I h
  refine wpAny_Call_Name_kw (ld_glob I hg T.g ?_ hdb)
  refine PySem.W.callWith_K (h₀ := X.base) I.ok.mod.kin T.kp ?_ hs (by rw [hs2]; rfl)
  refine thn ((pa_cons he (pa_cons hb pa_nil hs2) hs).run pos pins s σ H (fun zs H' => match zs with | [v, z] => ∀ a H'', Same H' H'' → ErrAt H'' a C [("other", z), ("name", v)] → Q (.ref a) H'' | _ => False) I h) ?_
  rintro us s1 ⟨zs, H1, I1, r1, q1⟩
  match zs, us, r1, q1 with
  | [v, z], [u, y], .cons ra (.cons rb .nil), q1 => exact ⟨I1.kIn, mk_call (T.make u y).1 I1 (by have := hr.dp; omega) (relO_two ra rb) q1⟩
theorem pe_err2K (T : XTwo X.K X.mg x C) (hr : Room 1 X.A) (hg : Gl X x) (he : PE X e te) (hb : PE X b tb) (hdb : (x == ("__debug__" : Str)) = false := by decide) :
    PE X (.Call (.Name x p) [] [⟨some "other", b, kp⟩, ⟨some "name", e, kp2⟩] pos) (tErr2k C te tb) := by
  constructor
  intro pins s σ H Q I h
  refine wpAny_Call_Name_kw (ld_glob I hg T.g ?_ hdb)
  refine PySem.W.callWith_KW0 (h₀ := X.base) I.ok.mod.kin T.kp (by rfl) ?_ (by rfl)
  refine thn ((pk_cons (nm := some "other") (kpos := kp) hb (pk_cons (nm := some "name") (kpos := kp2) he pk_nil)).run pos pins s σ H (fun zs H' => match zs with | [z, v] => ∀ a H'', Same H' H'' → ErrAt H'' a C [("other", z), ("name", v)] → Q (.ref a) H'' | _ => False) I h) ?_
  rintro us s1 ⟨zs, H1, I1, r1, q1⟩
  match zs, us, r1, q1 with
  | [z, v], [y, u], .cons rb (.cons ra .nil), q1 => exact ⟨I1.kIn, mk_call (T.make u y).2 I1 (by have := hr.dp; omega) (relO_two ra rb) q1⟩
/-- C(), a class without an __init__ of its own -/
def tErr0 (C : Addr) : TE := fun σ H Q => ∀ a H', Same H H' → ErrAt H' a C [] → Q (.ref a) H'
theorem pe_err0 {bmB : List Value} {B newId initId : String} (F : ExcBaseFacts B newId initId bmB) (q : PySem.W.excIn X.K C bmB newId = true) (gC : X.mg x = some (.ref C)) (kC : PySem.W.keepIn X.K (.ref C) = true) (hg : Gl X x) (hdb : (x == ("__debug__" : Str)) = false := by decide) :
    PE X (.Call (.Name x p) [] [] pos) (tErr0 C) := by
  constructor
  intro pins s σ H Q I h
  refine wpAny_Call_Name_kw (ld_glob I hg gC ?_ hdb)
  refine PySem.W.callWith_K0 I.kIn kC ?_
  show wpAny _ _ (call (.ref C) []) _ _ _
  obtain ⟨bm, N, nm, qn, bs, hdct, sn, sub, ab, col, dd, k0, k1, k2, k3, k5, mN, hC, hN, hni, T⟩ := exc_obj I.kIn q
  refine wpAny_call_exc_subT F T hC hN hni (fun h' a hm => ?_) (by show 0 ≤ sizeLine; omega)
  have hn : H a = none := I.hok.gone hm.new
  obtain ⟨t, ht, _, _⟩ := hm.there
  exact ⟨.ref a, upd H a (exo a C none), I.laidN hm.keeps hm.new hn (exo_ok ht), rfl, h a _ (same_upd hn) (.inl ⟨upd_same, rfl⟩)⟩
end
end GX
set_option maxRecDepth 100000
set_option maxHeartbeats 0
/-! The head of the row: where the defs and classes stand. -/
namespace K2
open PySem PySem.Spec PyProof.Rows L2 GX
def top (i : Nat) : Stmt := PySem.Challenge.pw_missbounds_k02_errors_and_limits.main.body.getD i (.Pass ⟨0, 0, 0, 0⟩)
/-- the thirty-two classes: the name, the field's name -/
def tab : List (Str × Str) := [("InvalidLines", "value"), ("InvalidPolicy", "value"), ("InvalidDevice", "value"), ("InvalidDevices", "index"), ("InvalidName", "value"), ("InvalidHistory", "index"), ("InvalidSteps", "index"), ("InvalidSituation", "value"),
  ("InvalidStep", "value"), ("InvalidRatio", "value"), ("InvalidExcess", "value"), ("InvalidCount", "value"), ("InvalidTimes", "value"), ("InvalidProgram", "value"), ("InvalidPlace", "value"), ("InvalidLog", "index"), ("InvalidText", "line"), ("InvalidEdit", "index"),
  ("InvalidCommand", "command"), ("InvalidFunction", "value"), ("UnknownName", "name"), ("NameTaken", "name"), ("Limited", "name"), ("BrokenLimit", "name"), ("UnknownLimit", "name"), ("NothingToUndo", "name"), ("Busy", "name"),
  ("TooManySituations", "limit"), ("TooManyStates", "limit"), ("TooManyRequests", "limit"), ("TooManyDevices", "limit"), ("TooManyEdits", "limit")]
def nm (i : Nat) : Str := (tab.getD i ("", "")).1
def fl (i : Nat) : Str := (tab.getD i ("", "")).2
def tailOf (i : Nat) : List Value := if i < 20 then [.type "ValueError", .type "Exception", .type "BaseException", .type "object"] else if i < 27 then [.type "LookupError", .type "Exception", .type "BaseException", .type "object"] else [.type "ArithmeticError", .type "Exception", .type "BaseException", .type "object"]
def newOf (i : Nat) : String := if i < 20 then "ValueError.__new__" else if i < 27 then "LookupError.__new__" else "ArithmeticError.__new__"
def hasInit (i : Nat) : Bool := i != 25 && i != 26
abbrev ini (i : Nat) : Stmt := inClass (top (i + 4)) 0
def qual (i : Nat) : Str := nm i ++ (".__init__" : Str)
def dIni (i : Nat) : He.DefD := ⟨(nm i, some "__init__"), "__init__", qual i, defArgs (ini i), defBody (ini i), defScope (ini i), [], []⟩
def dTop (x : Str) (i : Nat) : He.DefD := ⟨(x, none), x, x, defArgs (top i), defBody (top i), defScope (top i), [], []⟩
def lawDefs : List (Str × Nat) := [("_law_cell", 48), ("_law_pool", 49), ("_law_draw", 50), ("_law_kind", 51), ("_law_thing", 52), ("_law_by_value", 53), ("_law_by_index", 54), ("_law_by_names", 55), ("_law_by_limit", 56), ("_law_right", 57), ("law", 58)]
def iniIx : List Nat := (List.range 32).filter hasInit
def fn : List He.DefD := lawDefs.map (fun p => dTop p.1 p.2) ++ iniIx.map dIni
def frees : List Str := ["len", "int", "abs", "divmod", "isinstance", "sum", "repr", "all", "range", "max", "min", "ValueError", "LookupError", "ArithmeticError"]
def lims : List (Str × Int) := [("MOST_LINES", 4), ("MOST_STATES", 64), ("MOST_REQUESTS", 2000), ("MOST_SITUATIONS", 600), ("MOST_PLACES", 30), ("MOST_NAMES", 12), ("MOST_TIMES", 10 ^ 30), ("MOST_KEPT", 200), ("MOST_MENDED", 8), ("MOST_DEVICES", 20), ("MOST_EDITS", 200)]
def fa : List He.Fa := lawDefs.map (fun p => .glo p.1) ++ tab.map (fun p => .glo p.1) ++ [.glo "InputError", .glo "StateError", .glo "SizeError"] ++ frees.map .free ++ lims.map (fun p => .int p.1 p.2)
/-- facts of a class -/
def clsB (K : PySem.W.Frag) (i : Nat) : Bool :=
  PySem.W.excOver K (He.ga K (nm i)) (tailOf i) && (PySem.W.hasDictIn K (He.ga K (nm i)) && (PySem.W.keepIn K (.ref (He.ga K (nm i))) &&
  (He.eqO (PySem.W.findIn K (.ref (He.ga K (nm i))) "__setattr__") (some (some (.builtin "object.__setattr__"))) &&
  (He.eqO (PySem.W.findIn K (.ref (He.ga K (nm i))) "__getattribute__") (some (some (.builtin "BaseException.__getattribute__"))) &&
  (He.eqO (PySem.W.findIn K (.ref (He.ga K (nm i))) "__getattr__") (some none) &&
  (decide (PySem.W.subIn K (.ref (He.ga K (nm i))) (.type "BaseException") = some true) &&
  (He.eqO (PySem.W.findIn K (.ref (He.ga K (nm i))) "__class__") (some (some (.builtin "object.__class__"))) &&
  (decide (PySem.W.mroIn K (He.ga K (nm i)) (.type "object") = some true) &&
  (He.eqO (PySem.W.findIn K (.ref (He.ga K (nm i))) (fl i)) (some none) && He.eqO (PySem.W.findIn K (.ref (He.ga K (nm i))) "other") (some none))))))))))
def iniB (K : PySem.W.Frag) (i : Nat) : Bool :=
  PySem.W.excInitIn K (He.ga K (nm i)) (tailOf i) (newOf i) && (He.eqO (PySem.W.findIn K (.ref (He.ga K (nm i))) "__init__") (some (some (.ref (He.ma K (He.ga K (nm i)) "__init__")))) && PySem.W.isFn K (.ref (He.ma K (He.ga K (nm i)) "__init__")))
def oneB (K : PySem.W.Frag) (i : Nat) (c : Value) (b : Bool) : Bool := decide (PySem.W.kitOne K (.ref (He.ga K (nm i))) c = some b)
def askB (K : PySem.W.Frag) (i : Nat) : Bool :=
  ((List.range 32).all fun j => oneB K i (.ref (He.ga K (nm j))) (j == i)) &&
  (oneB K i (.ref (He.ga K "InputError")) (decide (i < 20)) && (oneB K i (.ref (He.ga K "StateError")) (decide (19 < i) && decide (i < 27)) && (oneB K i (.ref (He.ga K "SizeError")) (decide (26 < i)) &&
  (oneB K i (.type "ValueError") (decide (i < 20)) && (oneB K i (.type "LookupError") (decide (19 < i) && decide (i < 27)) && oneB K i (.type "ArithmeticError") (decide (26 < i)))))))
def ex (K : PySem.W.Frag) : Bool :=
  ((List.range 32).all fun i => clsB K i) && (iniIx.all (fun i => iniB K i) && (((List.range 32).all fun i => askB K i) &&
  (PySem.W.excIn K (He.ga K "NothingToUndo") (tailOf 25) "LookupError.__new__" && (PySem.W.excIn K (He.ga K "Busy") (tailOf 26) "LookupError.__new__" &&
  (decide (PySem.W.specialIn K (.builtin "object.__class__") "__get__" = some (some (.builtin "getset_descriptor.__get__"))) && decide (PySem.W.takesIn K (.builtin "object.__class__") = some true))))))
abbrev R : PySem.W.OpenRow := PySem.W.OpenLaw.row PySem.Challenge.rw_missbounds_k02_errors_and_limits
abbrev AlE : Type := He.AlD × Bool
def obE (g : Addr → Option Obj) : AlE := (He.obsDG 5 fa fn g, ex (He.frG g (He.asD g 5)))
def Says (K : PySem.W.Frag) : Prop := He.SaysD fa fn K ∧ ex K = true
def hk : PySem.W.Hook where
  α := AlE
  obs := fun s => obE s.heap.get?
  val := fun _ => (He.valD fn, true)
  says := fun _ h => ∃ K : PySem.W.Frag, K.In h ∧ Says K
  of := fun _ _ e => ⟨_, He.frG_in, congrArg (fun z : AlE => z.1) e, congrArg (fun z : AlE => z.2) e⟩
  keeps := fun _ _ _ ⟨K, hK, c⟩ k => ⟨K, PySem.W.Frag.In.keeps hK k, c⟩
def ob (s : PySem.W.SharedT) : AlE := obE (HandSHeadRun.getT s)
theorem ob_eq (s : PySem.W.SharedT) : ob s = hk.obs s.abs := by
  have e : HandSHeadRun.getT s = s.abs.heap.get? := funext (HandSHeadRun.getT_eq s)
  show obE _ = obE _
  rw [e]
end K2
set_option maxRecDepth 100000
set_option maxHeartbeats 0
namespace K2
open PySem PySem.Spec PyProof.Rows L2 GX
def loose : List Str := ([("InputError" : Str), "StateError", "SizeError"] : List Str) ++ (tab.map (fun p => p.1) ++ (lims.map (fun p => p.1) ++ (lawDefs.map (fun p => p.1)).take 10))
theorem run (w : World) : HandSHeadRun.RunEq R (PySem.W.view R.prog [58]) hk ob 20000 loose w := by
  intro os
  kernel_rfl
end K2
set_option maxRecDepth 100000
set_option maxHeartbeats 4000000
/-! What the head tells of the classes. -/
namespace K2
open PySem PySem.Spec PyProof.Rows L2 GX
abbrev Ca (K : PySem.W.Frag) (i : Nat) : Addr := He.ga K (nm i)
def oneIx : List Nat := [0, 1, 2, 3, 4, 5, 6, 7, 8, 9, 10, 11, 12, 13, 14, 15, 16, 17, 18, 19, 20, 21, 27, 28, 29, 30, 31]
def twoIx : List Nat := [22, 23, 24]
/-- all that the walks lean on -/
structure Cls (K : PySem.W.Frag) (mg : Str → Option Value) : Prop where
  glo : ∀ i, i < 32 → mg (nm i) = some (.ref (Ca K i))
  ask : ∀ i, i < 32 → ∀ j, j < 32 → PySem.W.kitOne K (.ref (Ca K i)) (.ref (Ca K j)) = some (j == i)
  askI : ∀ i, i < 32 → PySem.W.kitOne K (.ref (Ca K i)) (.ref (He.ga K "InputError")) = some (decide (i < 20))
  askS : ∀ i, i < 32 → PySem.W.kitOne K (.ref (Ca K i)) (.ref (He.ga K "StateError")) = some (decide (19 < i) && decide (i < 27))
  askZ : ∀ i, i < 32 → PySem.W.kitOne K (.ref (Ca K i)) (.ref (He.ga K "SizeError")) = some (decide (26 < i))
  askV : ∀ i, i < 32 → PySem.W.kitOne K (.ref (Ca K i)) (.type "ValueError") = some (decide (i < 20))
  askL : ∀ i, i < 32 → PySem.W.kitOne K (.ref (Ca K i)) (.type "LookupError") = some (decide (19 < i) && decide (i < 27))
  askA : ∀ i, i < 32 → PySem.W.kitOne K (.ref (Ca K i)) (.type "ArithmeticError") = some (decide (26 < i))
  gI : mg "InputError" = some (.ref (He.ga K "InputError"))
  gS : mg "StateError" = some (.ref (He.ga K "StateError"))
  gZ : mg "SizeError" = some (.ref (He.ga K "SizeError"))
  exc : ∀ i, i < 32 → ExcC K (Ca K i)
  xf : ∀ i, i < 32 → XfC K (Ca K i)
  no : ∀ i, i < 32 → PySem.W.findIn K (.ref (Ca K i)) (fl i) = some none ∧ PySem.W.findIn K (.ref (Ca K i)) "other" = some none
  kp : ∀ i, i < 32 → PySem.W.keepIn K (.ref (Ca K i)) = true
  one : ∀ i ∈ oneIx, XOne K mg (nm i) (Ca K i) (fl i)
  two : ∀ i ∈ twoIx, XTwo K mg (nm i) (Ca K i)
  e25 : PySem.W.excIn K (Ca K 25) (tailOf 25) "LookupError.__new__" = true
  e26 : PySem.W.excIn K (Ca K 26) (tailOf 26) "LookupError.__new__" = true
  free : ∀ x ∈ frees, mg x = none
  lim : ∀ p ∈ lims, ∃ t, mg p.1 = some (.int p.2 t)
theorem txt1 : ∀ i ∈ oneIx, ∃ p1 p2 q1 q2 q3 q4 : Pos, defArgs (ini i) = PySem.GE.jA (fl i) p1 p2 ∧ defBody (ini i) = PySem.GE.jB (fl i) q1 q2 q3 q4 ∧ defScope (ini i) = PySem.GE.jS (fl i) := by
  intro i hi
  unfold oneIx at hi
  repeat (rcases List.mem_cons.mp hi with rfl | hi; exact ⟨_, _, _, _, _, _, rfl, rfl, rfl⟩)
  cases hi
theorem txt2 : ∀ i ∈ twoIx, ∃ p1 p2 p3 q1 q2 q3 q4 r1 r2 r3 r4 : Pos, defArgs (ini i) = PySem.GE.kA p1 p2 p3 ∧ defBody (ini i) = PySem.GE.kB q1 q2 q3 q4 r1 r2 r3 r4 ∧ defScope (ini i) = PySem.GE.kS := by
  intro i hi
  unfold twoIx at hi
  repeat (rcases List.mem_cons.mp hi with rfl | hi; exact ⟨_, _, _, _, _, _, _, _, _, _, _, rfl, rfl, rfl⟩)
  cases hi
theorem six1 : ∀ i ∈ oneIx, fl i ∈ PySem.GE.six := by decide +kernel
theorem sub1 : ∀ i ∈ oneIx, i < 32 ∧ i ∈ iniIx := by decide +kernel
theorem sub2 : ∀ i ∈ twoIx, i < 32 ∧ i ∈ iniIx ∧ fl i = "name" := by decide +kernel
theorem bf (i : Nat) : ∃ B initId, PySem.GE.BF B (newOf i) initId (tailOf i) := by
  unfold newOf tailOf
  by_cases h : i < 20
  · rw [if_pos h, if_pos h]; exact ⟨_, _, PySem.GE.bfV⟩
  · rw [if_neg h, if_neg h]
    by_cases h2 : i < 27
    · rw [if_pos h2, if_pos h2]; exact ⟨_, _, PySem.GE.bfL⟩
    · rw [if_neg h2, if_neg h2]; exact ⟨_, _, PySem.GE.bfA⟩
theorem nm_mem (i : Nat) (h : i < 32) : He.Fa.glo (nm i) ∈ fa := by
  have e : tab[i]? = some (tab.getD i ("", "")) := by
    have hl : tab.length = 32 := by decide +kernel
    rw [List.getD_eq_getElem?_getD, List.getElem?_eq_getElem (by omega)]
    rfl
  have m := List.mem_of_getElem? e
  unfold fa
  refine List.mem_append_left _ (List.mem_append_left _ (List.mem_append_left _ (List.mem_append_right _ ?_)))
  exact List.mem_map.mpr ⟨_, m, rfl⟩
theorem cls_of {K : PySem.W.Frag} {h : Heap} {mg : Str → Option Value} (X : K.In h) (G : h.Ns mainGlobals mg) (c : Says K) : Cls K mg := by
  obtain ⟨c1, c2⟩ := c
  unfold ex at c2
  simp only [Bool.and_eq_true] at c2
  obtain ⟨ca, cb, cc, cd, ce, cf, cg⟩ := c2
  have hcls := fun i (hi : i < 32) => List.all_eq_true.mp ca i (List.mem_range.mpr hi)
  have hini := fun i (hi : i ∈ iniIx) => List.all_eq_true.mp cb i hi
  have hask := fun i (hi : i < 32) => List.all_eq_true.mp cc i (List.mem_range.mpr hi)
  have hsp := of_decide_eq_true cf
  have htk := of_decide_eq_true cg
  have glo : ∀ i, i < 32 → mg (nm i) = some (.ref (Ca K i)) := fun i hi => He.glo_ok X G (He.SaysD.facts c1 (nm_mem i hi))
  have fd : ∀ d ∈ fn, ∃ fd, FunD K d.name d.qual d.params d.body d.scope (d.dvs K) (d.kws K) (He.fAd K d.at_) fd := fun d hd => He.SaysD.defs c1 hd
  have A : ∀ i, i < 32 → _ := fun i hi => by
    have z := hcls i hi
    unfold clsB at z
    simp only [Bool.and_eq_true] at z
    exact z
  have B : ∀ i, i ∈ iniIx → _ := fun i hi => by
    have z := hini i hi
    unfold iniB at z
    simp only [Bool.and_eq_true] at z
    exact z
  have Q : ∀ i, i < 32 → _ := fun i hi => by
    have z := hask i hi
    unfold askB oneB at z
    simp only [Bool.and_eq_true] at z
    exact z
  have txt : ∀ i, i < 32 → i ∈ iniIx → ∃ B' initId, PySem.GE.XTxt K (Ca K i) (He.ma K (Ca K i) "__init__") B' (newOf i) initId (tailOf i) := fun i hi hn => by
    obtain ⟨B', initId, b⟩ := bf i
    obtain ⟨a1, a2, a3, a4, _⟩ := A i hi
    obtain ⟨b1, b2, b3⟩ := B i hn
    exact ⟨B', initId, b, b1, a1, a2, He.eqO_ok a4, He.eqO_ok b2, b3⟩
  have fni : ∀ i, i ∈ iniIx → dIni i ∈ fn := fun i hi => List.mem_append_right _ (List.mem_map.mpr ⟨i, hi, rfl⟩)
  constructor
  · exact glo
  · intro i hi j hj
    exact of_decide_eq_true (List.all_eq_true.mp (Q i hi).1 j (List.mem_range.mpr hj))
  · intro i hi; exact of_decide_eq_true (Q i hi).2.1
  · intro i hi; exact of_decide_eq_true (Q i hi).2.2.1
  · intro i hi; exact of_decide_eq_true (Q i hi).2.2.2.1
  · intro i hi; exact of_decide_eq_true (Q i hi).2.2.2.2.1
  · intro i hi; exact of_decide_eq_true (Q i hi).2.2.2.2.2.1
  · intro i hi; exact of_decide_eq_true (Q i hi).2.2.2.2.2.2
  · exact He.glo_ok X G (He.SaysD.facts c1 (by simp [fa]))
  · exact He.glo_ok X G (He.SaysD.facts c1 (by simp [fa]))
  · exact He.glo_ok X G (He.SaysD.facts c1 (by simp [fa]))
  · intro i hi
    obtain ⟨a1, a2, a3, a4, a5, a6, a7, a8, a9, _⟩ := A i hi
    exact ⟨He.eqO_ok a5, He.eqO_ok a6, of_decide_eq_true a7, a2, He.eqO_ok a8, hsp, htk, of_decide_eq_true a9⟩
  · intro i hi
    obtain ⟨a1, a2, a3, a4, a5, a6, a7, _⟩ := A i hi
    exact ⟨He.eqO_ok a5, He.eqO_ok a6, of_decide_eq_true a7, a2⟩
  · intro i hi
    obtain ⟨a1, a2, a3, a4, a5, a6, a7, a8, a9, a10, a11⟩ := A i hi
    exact ⟨He.eqO_ok a10, He.eqO_ok a11⟩
  · intro i hi; exact (A i hi).2.2.1
  · intro i hi
    obtain ⟨h32, hn⟩ := sub1 i hi
    obtain ⟨B', initId, Z⟩ := txt i h32 hn
    obtain ⟨a1, a2, a3, a4, a5, a6, a7, a8, a9, a10, a11⟩ := A i h32
    obtain ⟨f, F⟩ := fd (dIni i) (fni i hn)
    obtain ⟨oc, od, dV, kV, doc, pm, an, cdv, ct, osl, rfl, lk, hcd, hD, _⟩ := F.ex
    have hdV : dV = .none := by
      rcases hD with ⟨_, z⟩ | ⟨z, _⟩
      · exact z
      · exact absurd rfl z
    subst hdV
    obtain ⟨p1, p2, q1, q2, q3, q4, e1, e2, e3⟩ := txt1 i hi
    have lk' : K.lookup (He.fAd K (dIni i).at_) = some ⟨oc, od, .func (PySem.W.fnOf "__init__" (qual i) (PySem.GE.jA (fl i) p1 p2) (PySem.GE.jB (fl i) q1 q2 q3 q4) (PySem.GE.jS (fl i)) .none kV doc pm an cdv ct), osl⟩ := by
      rw [← e1, ← e2, ← e3]; exact lk
    exact ⟨glo i h32, a3, fun v => PySem.GE.makes_one Z (six1 i hi) lk' hcd (He.eqO_ok a10) v⟩
  · intro i hi
    obtain ⟨h32, hn, hname⟩ := sub2 i hi
    obtain ⟨B', initId, Z⟩ := txt i h32 hn
    obtain ⟨a1, a2, a3, a4, a5, a6, a7, a8, a9, a10, a11⟩ := A i h32
    obtain ⟨f, F⟩ := fd (dIni i) (fni i hn)
    obtain ⟨oc, od, dV, kV, doc, pm, an, cdv, ct, osl, rfl, lk, hcd, hD, _⟩ := F.ex
    have hdV : dV = .none := by
      rcases hD with ⟨_, z⟩ | ⟨z, _⟩
      · exact z
      · exact absurd rfl z
    subst hdV
    obtain ⟨p1, p2, p3, q1, q2, q3, q4, r1, r2, r3, r4, e1, e2, e3⟩ := txt2 i hi
    have lk' : K.lookup (He.fAd K (dIni i).at_) = some ⟨oc, od, .func (PySem.W.fnOf "__init__" (qual i) (PySem.GE.kA p1 p2 p3) (PySem.GE.kB q1 q2 q3 q4 r1 r2 r3 r4) PySem.GE.kS .none kV doc pm an cdv ct), osl⟩ := by
      rw [← e1, ← e2, ← e3]; exact lk
    exact ⟨glo i h32, a3, fun v u => PySem.GE.makes_two Z lk' hcd (by rw [← hname]; exact He.eqO_ok a10) (He.eqO_ok a11) v u⟩
  · exact cd
  · exact ce
  · intro x hx
    exact He.free_ok X G (He.SaysD.facts c1 (List.mem_append_left _ (List.mem_append_right _ (List.mem_map.mpr ⟨x, hx, rfl⟩))))
  · intro p hp
    exact He.int_ok X G (He.SaysD.facts c1 (List.mem_append_right _ (List.mem_map.mpr ⟨p, hp, rfl⟩)))
end K2
set_option maxRecDepth 100000
set_option maxHeartbeats 4000000
/-! The number of an error's class. -/
namespace K2
open PySem PySem.Spec PyProof.Rows L2 GX
abbrev NK : List Str := ["_law_e", "_law_rows", "_law_kind_here", "_law_bases", "_law_row"]
theorem scK : FnScope NK ["_law_e"] (defScope (top 51)) := ⟨rfl, rfl, rfl, by decide +kernel, rfl, by decide +kernel, by decide +kernel⟩
/-- called with an error of the i-th class it returns i -/
def spKind (K : PySem.W.Frag) : Sp := fun vs H Q _ => ∃ (a : Addr) (i : Nat) (fs : List (Str × V)), vs = [.ref a] ∧ i < 32 ∧ ErrAt H a (Ca K i) fs ∧ ∀ H', Same H H' → Q (.int (i : Nat)) H'
/-- the error in the first slot -/
def Here (K : PySem.W.Frag) (σ : L2.St) (H : Hp) (i : Nat) : Prop := ∃ (a : Addr) (fs : List (Str × V)), σ[0]? = some (some (.ref a)) ∧ i < 32 ∧ ErrAt H a (Ca K i) fs
theorem Here.same {K : PySem.W.Frag} {σ σ' : L2.St} {H H' : Hp} {i : Nat} (h : Here K σ H i) (e : Same H H') (es : σ'[0]? = σ[0]?) : Here K σ' H' i := by
  obtain ⟨a, fs, h1, h2, h3⟩ := h
  exact ⟨a, fs, es.trans h1, h2, h3.same e⟩
section
variable {X : Cx} {p1 p2 p3 p4 p5 p6 : Pos} {x : Str}
/-- isinstance(e, c), c a class by its name -/
def tIsC (K : PySem.W.Frag) (c : Value) : TE := fun σ H Q => ∃ (i : Nat) (b : Bool), Here K σ H i ∧ PySem.W.kitOne K (.ref (Ca K i)) c = some b ∧ Q (.bl b) H
theorem pe_isC {c : Value} {cv : V} {e ec : Expr} (T : Cls X.K X.mg) (he : PE X e (tVar 0)) (hc : PE X ec (tC cv)) (hr : ∀ u, RelV cv u → u = c) (hg : Gl X "isinstance")
    (hs : starEach [e, ec] X.env = (false, eval e X.env) :: starEach [ec] X.env := by rfl) (hs2 : starEach [ec] X.env = (false, eval ec X.env) :: starEach [] X.env := by rfl) :
    PE X (.Call (.Name "isinstance" p1) [e, ec] [] p3) (tIsC X.K c) := by
  refine PE.imp (pe_callB call_isX hg (T.free "isinstance" (by decide)) (by decide +kernel) (pa_cons he (pa_cons hc pa_nil hs2) hs) (he := hs) (hpl := by rw [hs2]; rfl)) ?_
  rintro σ H Q ⟨i, b, ⟨a, fs, h0, hi, hE⟩, hk, q⟩
  exact ⟨_, h0, a, Ca X.K i, fs, cv, c, b, rfl, hE, T.exc i hi, hr, hk, q⟩
/-- the j-th class -/
def tIs (K : PySem.W.Frag) (j : Nat) : TE := fun σ H Q => ∃ i, Here K σ H i ∧ Q (.bl (j == i)) H
theorem pe_is {e : Expr} (j : Nat) (T : Cls X.K X.mg) (he : PE X e (tVar 0)) (hj : j < 32) (hx : nm j = x) (hg : Gl X "isinstance") (hgx : Gl X x) (hdx : (x == ("__debug__" : Str)) = false := by decide)
    (hs : starEach [e, .Name x p2] X.env = (false, eval e X.env) :: starEach [.Name x p2] X.env := by rfl) :
    PE X (.Call (.Name "isinstance" p1) [e, .Name x p2] [] p3) (tIs X.K j) := by
  refine PE.imp (pe_isC (c := .ref (Ca X.K j)) T he (pe_glob (v := .ref (Ca X.K j)) hgx (by rw [← hx]; exact T.glo j hj) rfl (hd := hdx)) (fun u r => r) hg hs) ?_
  rintro σ H Q ⟨i, hh, q⟩
  obtain ⟨a, fs, h0, hi, hE⟩ := id hh
  exact ⟨i, _, hh, T.ask i hi j hj, q⟩
/-- a display of three, of two -/
def tThree (K : PySem.W.Frag) (j1 j2 j3 : Nat) : TE := fun σ H Q => ∃ i, Here K σ H i ∧ ∀ p, H p = none → Q (.ref p) (upd H p (.lst [.bl (j1 == i), .bl (j2 == i), .bl (j3 == i)]))
def tTwo (K : PySem.W.Frag) (j1 j2 : Nat) : TE := fun σ H Q => ∃ i, Here K σ H i ∧ ∀ p, H p = none → Q (.ref p) (upd H p (.lst [.bl (j1 == i), .bl (j2 == i)]))
theorem three {j1 j2 j3 : Nat} {K : PySem.W.Frag} : ∀ σ H Q, tThree K j1 j2 j3 σ H Q → tLst (tCons (tIs K j1) (tCons (tIs K j2) (tCons (tIs K j3) tNil))) σ H Q := by
  rintro σ H Q ⟨i, h, q⟩
  exact ⟨i, h, i, h, i, h, (by show 3 ≤ sizeLine; decide), q⟩
theorem two {j1 j2 : Nat} {K : PySem.W.Frag} : ∀ σ H Q, tTwo K j1 j2 σ H Q → tLst (tCons (tIs K j1) (tCons (tIs K j2) tNil)) σ H Q := by
  rintro σ H Q ⟨i, h, q⟩
  exact ⟨i, h, i, h, (by show 2 ≤ sizeLine; decide), q⟩
/-- rows + [..] -/
def tMore (K : PySem.W.Frag) (js : List Nat) : TE := fun σ H Q => ∃ (i : Nat) (l : Addr) (bs : List Bool), Here K σ H i ∧ σ[1]? = some (some (.ref l)) ∧ H l = some (.lst (bs.map V.bl)) ∧ bs.length ≤ 40 ∧
  ∀ p H', Same H H' → H' p = some (.lst ((bs ++ js.map fun j => j == i).map V.bl)) → Q (.ref p) H'
theorem more3 {j1 j2 j3 : Nat} {K : PySem.W.Frag} : ∀ σ H Q, tMore K [j1, j2, j3] σ H Q → tOp rCat (tVar 1) (tThree K j1 j2 j3) σ H Q := by
  rintro σ H Q ⟨i, l, bs, h, h1, hl, hz, q⟩
  refine ⟨_, h1, i, h, fun p hp => ⟨l, p, bs.map V.bl, [.bl (j1 == i), .bl (j2 == i), .bl (j3 == i)], rfl, rfl, ?_, upd_same, ?_, fun p2 hp2 => ?_⟩⟩
  · rw [upd_ne (ne_of_none hl hp)]; exact hl
  · show (bs.map V.bl).length + 3 ≤ sizeLine
    rw [List.length_map, sizeLine_eq]; omega
  · refine q p2 _ ((same_upd hp).trans (same_upd hp2)) ?_
    rw [upd_same, List.map_append]
    rfl
theorem more2 {j1 j2 : Nat} {K : PySem.W.Frag} : ∀ σ H Q, tMore K [j1, j2] σ H Q → tOp rCat (tVar 1) (tTwo K j1 j2) σ H Q := by
  rintro σ H Q ⟨i, l, bs, h, h1, hl, hz, q⟩
  refine ⟨_, h1, i, h, fun p hp => ⟨l, p, bs.map V.bl, [.bl (j1 == i), .bl (j2 == i)], rfl, rfl, ?_, upd_same, ?_, fun p2 hp2 => ?_⟩⟩
  · rw [upd_ne (ne_of_none hl hp)]; exact hl
  · show (bs.map V.bl).length + 2 ≤ sizeLine
    rw [List.length_map, sizeLine_eq]; omega
  · refine q p2 _ ((same_upd hp).trans (same_upd hp2)) ?_
    rw [upd_same, List.map_append]
    rfl
end
/-! ### the ints of truths -/
def one01 (b : Bool) : Int := if b = true then 1 else 0
def rI1 : List V → Hp → VK → Prop := fun xs H Q => (∃ i, xs = [.int i] ∧ Q (.int i) H) ∨ ∃ k, xs = [.bl k] ∧ Q (.int (if k then 1 else 0)) H
theorem call_i1 {X : Cx} : CallR X (.type "int") rI1 := call_int1
theorem sum_rows : ∀ i, i < 32 → (((List.range 32).map fun j => j == i).map one01).sum = 1 := by decide +kernel
/-- [int(r) for r in rows] -/
def tInts : TE := fun σ H Q => ∃ (l : Addr) (bs : List Bool), σ.length = 5 ∧ σ[1]? = some (some (.ref l)) ∧ H l = some (.lst (bs.map V.bl)) ∧ bs.length ≤ 40 ∧ ∀ p H', Same H H' → H' p = some (.lst ((bs.map one01).map V.int)) → Q (.ref p) H'
theorem toInts {K : PySem.W.Frag} : ∀ σ H Q, tInts σ H Q → tLc (iList K (tVar 1)) (gName 4) tYes (tCB rI1 (tCons (tVar 4) tNil)) [4] σ H Q := by
  rintro σ H Q ⟨l, bs, h5, h1, hl, hz, q⟩
  refine ⟨_, h1, l, rfl, ⟨_, SqL.of hl⟩, fun D hD => ?_⟩
  refine lc_list (K := K) (a := l) (xs := bs.map V.bl) (fun i H' => Same H H' ∧ H' D = some (.lst (((bs.take i).map one01).map V.int))) ?_ ?_ ?_ ?_
  · exact ⟨same_upd hD, upd_same⟩
  · rintro i H' _ ⟨hs, _⟩
    exact SqL.of (hs _ _ hl)
  · rintro i x H' hx ⟨hs, hd⟩
    rw [List.getElem?_map] at hx
    obtain ⟨b, hb, rfl⟩ := Option.map_eq_some_iff.mp hx
    have hlt : i < bs.length := (List.getElem?_eq_some_iff.mp hb).1
    refine ⟨by simp [wipe], ?_⟩
    dsimp only [tYes]
    rw [if_pos rfl]
    refine ⟨.bl b, by simp [wipe, h5], .inr ⟨b, rfl, ?_⟩⟩
    refine ⟨_, hd, ?_, fun c o e => ?_, ?_⟩
    · rw [List.length_map, List.length_map, List.length_take, sizeLine_eq]; omega
    · by_cases hc : c = D
      · rw [hc, hD] at e; cases e
      · rw [upd_ne hc]; exact hs _ _ e
    · rw [upd_same, List.take_add_one, hb]
      simp [one01]
  · rintro H' ⟨hs, hd⟩
    refine q D H' hs ?_
    rw [hd, List.length_map, List.take_length]
/-- sum(..) of it -/
def tSum : TE := fun σ H Q => ∃ (l : Addr) (i : Nat), i < 32 ∧ σ.length = 5 ∧ σ[1]? = some (some (.ref l)) ∧ H l = some (.lst (((List.range 32).map fun j => j == i).map V.bl)) ∧ ∀ H', Same H H' → Q (.int 1) H'
theorem toSum {K : PySem.W.Frag} : ∀ σ H Q, tSum σ H Q → tCB (rSum K) (tCons tInts tNil) σ H Q := by
  rintro σ H Q ⟨l, i, hi, h5, h1, hl, q⟩
  refine ⟨l, _, h5, h1, hl, by simp, fun p H' hs hp => ?_⟩
  refine ⟨p, _, rfl, SqL.of hp, ?_⟩
  rw [sum_rows i hi]
  exact q H' hs
/-- the test -/
def tTestSum : TT := fun σ H Q => ∃ (l : Addr) (i : Nat), i < 32 ∧ σ.length = 5 ∧ σ[1]? = some (some (.ref l)) ∧ H l = some (.lst (((List.range 32).map fun j => j == i).map V.bl)) ∧ ∀ H', Same H H' → Q false H'
theorem toTestSum : ∀ σ H Q, tTestSum σ H Q → tTest (tOp rNe tSum (tC (.int 1))) σ H Q := by
  rintro σ H Q ⟨l, i, hi, h5, h1, hl, q⟩
  exact ⟨l, i, hi, h5, h1, hl, fun H' hs => ⟨rfl, _, rfl, q H' hs⟩⟩
/-- rows.index(True) -/
def tIdx : TE := fun σ H Q => ∃ (l : Addr) (i : Nat), i < 32 ∧ σ[1]? = some (some (.ref l)) ∧ H l = some (.lst (((List.range 32).map fun j => j == i).map V.bl)) ∧ Q (.int (i : Nat)) H
theorem toIdx {K : PySem.W.Frag} : ∀ σ H Q, tIdx σ H Q → tBM K "list" (rIndex K) (tVar 1) (tCons (tC (.bl true)) tNil) σ H Q := by
  rintro σ H Q ⟨l, i, hi, h1, hl, q⟩
  refine ⟨_, h1, .inl ⟨rfl, _, SqL.of hl⟩, ?_⟩
  refine ⟨l, ((List.range 32).map fun j => j == i).map V.bl, .bl true, i, .bl true, rfl, rfl, SqL.of hl, rfl, ?_, ?_, rfl, ?_, q⟩
  · rw [List.all_map]
    exact List.all_eq_true.mpr fun _ _ => rfl
  · rw [List.getElem?_map, List.getElem?_map, List.getElem?_range hi]
    simp
  · intro m z' hm hz
    rw [List.getElem?_map, List.getElem?_map, List.getElem?_range (by omega)] at hz
    have e : (m == i) = false := by
      rw [beq_eq_false_iff_ne]; omega
    simp only [Option.map_some, e, Option.some.injEq] at hz
    subst hz
    rfl
/-- one of the own bases, and one of Python's -/
def tBoth (K : PySem.W.Frag) (c1 c2 : Value) : TE := fun σ H Q => ∃ (i : Nat) (b : Bool), Here K σ H i ∧ PySem.W.kitOne K (.ref (Ca K i)) c1 = some b ∧ PySem.W.kitOne K (.ref (Ca K i)) c2 = some b ∧ Q (.bl b) H
theorem toBoth {K : PySem.W.Frag} {c1 c2 : Value} : ∀ σ H Q, tBoth K c1 c2 σ H Q → tAndV (tIsC K c1) (tIsC K c2) σ H Q := by
  rintro σ H Q ⟨i, b, h, k1, k2, q⟩
  refine ⟨i, b, h, k1, b, rfl, ?_⟩
  cases b with
  | true => rw [if_pos rfl]; exact ⟨i, true, h, k2, q⟩
  | false => rw [if_neg Bool.false_ne_true]; exact q
def tBase1 (K : PySem.W.Frag) (c1 c2 : Value) : TE := fun σ H Q => ∃ (i : Nat) (b : Bool), Here K σ H i ∧ PySem.W.kitOne K (.ref (Ca K i)) c1 = some b ∧ PySem.W.kitOne K (.ref (Ca K i)) c2 = some b ∧ ∀ p, H p = none → Q (.ref p) (upd H p (.lst [.bl b]))
theorem toBase1 {K : PySem.W.Frag} {c1 c2 : Value} : ∀ σ H Q, tBase1 K c1 c2 σ H Q → tLst (tCons (tBoth K c1 c2) tNil) σ H Q := by
  rintro σ H Q ⟨i, b, h, k1, k2, q⟩
  exact ⟨i, b, h, k1, k2, (by show 1 ≤ sizeLine; decide), q⟩
def tBaseM (K : PySem.W.Frag) (c1 c2 : Value) : TE := fun σ H Q => ∃ (i : Nat) (b : Bool) (l : Addr) (bs : List Bool), Here K σ H i ∧ PySem.W.kitOne K (.ref (Ca K i)) c1 = some b ∧ PySem.W.kitOne K (.ref (Ca K i)) c2 = some b ∧ σ[3]? = some (some (.ref l)) ∧ H l = some (.lst (bs.map V.bl)) ∧ bs.length ≤ 40 ∧
  ∀ p H', Same H H' → H' p = some (.lst ((bs ++ [b]).map V.bl)) → Q (.ref p) H'
theorem toBaseM {K : PySem.W.Frag} {c1 c2 : Value} : ∀ σ H Q, tBaseM K c1 c2 σ H Q → tOp rCat (tVar 3) (tBase1 K c1 c2) σ H Q := by
  rintro σ H Q ⟨i, b, l, bs, h, k1, k2, h3, hl, hz, q⟩
  refine ⟨_, h3, i, b, h, k1, k2, fun p hp => ⟨l, p, bs.map V.bl, [.bl b], rfl, rfl, ?_, upd_same, ?_, fun p2 hp2 => ?_⟩⟩
  · rw [upd_ne (ne_of_none hl hp)]; exact hl
  · show (bs.map V.bl).length + 1 ≤ sizeLine
    rw [List.length_map, sizeLine_eq]; omega
  · refine q p2 _ ((same_upd hp).trans (same_upd hp2)) ?_
    rw [upd_same, List.map_append]
    rfl
/-- the test of the bases -/
abbrev rLt : R2 := rI0 fun i j => .bl (decide (i < j))
abbrev rGt : R2 := rI0 fun i j => .bl (decide (j < i))
def tBases : TT := fun σ H Q => ∃ (i : Nat) (l : Addr), i < 32 ∧ σ[2]? = some (some (.int (i : Nat))) ∧ σ[3]? = some (some (.ref l)) ∧ H l = some (.lst ([decide (i < 20), decide (19 < i) && decide (i < 27), decide (26 < i)].map V.bl)) ∧ ∀ H', Same H H' → Q true H'
theorem dp_bools {K : PySem.W.Frag} {H : Hp} : ∀ bs : List Bool, DpAll K H (bs.map V.bl) (bs.map PyData.bool)
  | [] => .nil
  | b :: bs => .cons (.bl b) (dp_bools bs)
theorem toBases {K : PySem.W.Frag} : ∀ σ H Q, tBases σ H Q → tTest (tOp (rEqD K) (tVar 3) (tLst (tCons (tOp rLt (tVar 2) (tC (.int 20))) (tCons (tChain rLt rLt (tC (.int 19)) (tVar 2) (tC (.int 27))) (tCons (tOp rGt (tVar 2) (tC (.int 26))) tNil))))) σ H Q := by
  rintro σ H Q ⟨i, l, hi, h2, h3, hl, q⟩
  refine ⟨_, h3, _, h2, i, 20, rfl, rfl, ?_⟩
  refine ⟨_, h2, 19, i, rfl, rfl, _, rfl, ?_⟩
  have e1 : decide (((i : Nat) : Int) < 20) = decide (i < 20) := by rw [decide_eq_decide]; omega
  have e2 : decide ((19 : Int) < ((i : Nat) : Int)) = decide (19 < i) := by rw [decide_eq_decide]; omega
  have e3 : decide (((i : Nat) : Int) < 27) = decide (i < 27) := by rw [decide_eq_decide]; omega
  have e4 : decide ((26 : Int) < ((i : Nat) : Int)) = decide (26 < i) := by rw [decide_eq_decide]; omega
  have last : ∀ b : Bool, b = (decide (19 < i) && decide (i < 27)) → ∀ p, H p = none → (rEqD K (.ref l) (.ref p) (upd H p (.lst [V.bl (decide (((i : Nat) : Int) < 20)), V.bl b, V.bl (decide ((26 : Int) < ((i : Nat) : Int)))])) fun z H3 => ∃ k, z = .bl k ∧ Q k H3) := by
    intro b hb p hp
    subst hb
    rw [e1, e4]
    refine ⟨.list ([decide (i < 20), decide (19 < i) && decide (i < 27), decide (26 < i)].map PyData.bool), .list ([decide (i < 20), decide (19 < i) && decide (i < 27), decide (26 < i)].map PyData.bool), .lst (SqL.of ?_) (dp_bools _), .lst (SqL.of upd_same) (dp_bools [decide (i < 20), decide (19 < i) && decide (i < 27), decide (26 < i)]), rfl, rfl, true, ?_, q _ (same_upd hp)⟩
    · rw [upd_ne (ne_of_none hl hp)]; exact hl
    · generalize decide (i < 20) = x
      generalize (decide (19 < i) && decide (i < 27)) = y
      generalize decide (26 < i) = z
      cases x <;> cases y <;> cases z <;> rfl
  rw [e2]
  by_cases h19 : 19 < i
  · rw [decide_eq_true h19, if_pos rfl]
    refine ⟨i, 27, rfl, rfl, ?_⟩
    refine ⟨_, h2, i, 26, rfl, rfl, (by show 3 ≤ sizeLine; decide), fun p hp => last _ ?_ p hp⟩
    rw [e3, decide_eq_true h19, Bool.true_and]
  · rw [decide_eq_false h19, if_neg Bool.false_ne_true]
    refine ⟨_, h2, i, 26, rfl, rfl, (by show 3 ≤ sizeLine; decide), fun p hp => last _ ?_ p hp⟩
    rw [decide_eq_false h19, Bool.false_and]
end K2
set_option maxRecDepth 100000
set_option maxHeartbeats 8000000
namespace K2
open PySem PySem.Spec PyProof.Rows L2 GX
def t_kind (K : PySem.W.Frag) : TS :=
  (tSeq (tAsg (tThree K 0 1 2) (gName 1))
  (tSeq (tAsg (tMore K [3, 4, 5]) (gName 1))
  (tSeq (tAsg (tMore K [6, 7, 8]) (gName 1))
  (tSeq (tAsg (tMore K [9, 10, 11]) (gName 1))
  (tSeq (tAsg (tMore K [12, 13, 14]) (gName 1))
  (tSeq (tAsg (tMore K [15, 16, 17]) (gName 1))
  (tSeq (tAsg (tMore K [18, 19, 20]) (gName 1))
  (tSeq (tAsg (tMore K [21, 22, 23]) (gName 1))
  (tSeq (tAsg (tMore K [24, 25, 26]) (gName 1))
  (tSeq (tAsg (tMore K [27, 28, 29]) (gName 1))
  (tSeq (tAsg (tMore K [30, 31]) (gName 1))
  (tSeq (tIfS tTestSum (tRet (tOp (rI0 fun i j => .int (i - j)) (tC (.int 0)) (tC (.int 1)))) tNext)
  (tSeq (tAsg tIdx (gName 2))
  (tSeq (tAsg (tBase1 K (.ref (He.ga K "InputError")) (.type "ValueError")) (gName 3))
  (tSeq (tAsg (tBaseM K (.ref (He.ga K "StateError")) (.type "LookupError")) (gName 3))
  (tSeq (tAsg (tBaseM K (.ref (He.ga K "SizeError")) (.type "ArithmeticError")) (gName 3))
  (tRet (tIf tBases (tVar 2) (tOp (rI0 fun i j => .int (i - j)) (tC (.int 0)) (tC (.int 1)))))))))))))))))))))
def gNameSt (σ : L2.St) (p : Addr) : L2.St := σ.set 1 (some (.ref p))
theorem set_get {σ : L2.St} {i j : Nat} {v : Option V} (h : i ≠ j) : (σ.set i v)[j]? = σ[j]? := List.getElem?_set_ne h
theorem step_more {K : PySem.W.Frag} {js : List Nat} {rest : TS} {D : Ends} {σ : L2.St} {H : Hp} {i : Nat} {l : Addr} {bs : List Bool} (h : Here K σ H i) (h1 : σ[1]? = some (some (.ref l))) (h5 : σ.length = 5) (hl : H l = some (.lst (bs.map V.bl))) (hz : bs.length ≤ 40)
    (k : ∀ (σ' : L2.St) (H' : Hp) (l' : Addr), Here K σ' H' i → σ'[1]? = some (some (.ref l')) → σ'.length = 5 → Same H H' → H' l' = some (.lst ((bs ++ js.map fun j => j == i).map V.bl)) → rest D σ' H') : tSeq (tAsg (tMore K js) (gName 1)) rest D σ H := by
  refine ⟨i, l, bs, h, h1, hl, hz, fun p H' s hp => ?_⟩
  exact k _ H' p (h.same s (set_get (by decide))) (List.getElem?_set_self (by omega)) (by rw [List.length_set]; exact h5) s hp
theorem step_base {K : PySem.W.Frag} {c1 c2 : Value} {rest : TS} {D : Ends} {σ : L2.St} {H : Hp} {i : Nat} {b : Bool} {l : Addr} {bs : List Bool} (h : Here K σ H i) (h2 : σ[2]? = some (some (.int (i : Nat)))) (h5 : σ.length = 5) (k1 : PySem.W.kitOne K (.ref (Ca K i)) c1 = some b) (k2 : PySem.W.kitOne K (.ref (Ca K i)) c2 = some b)
    (h3 : σ[3]? = some (some (.ref l))) (hl : H l = some (.lst (bs.map V.bl))) (hz : bs.length ≤ 40)
    (k : ∀ (σ' : L2.St) (H' : Hp) (l' : Addr), Here K σ' H' i → σ'[2]? = some (some (.int (i : Nat))) → σ'[3]? = some (some (.ref l')) → σ'.length = 5 → Same H H' → H' l' = some (.lst ((bs ++ [b]).map V.bl)) → rest D σ' H') : tSeq (tAsg (tBaseM K c1 c2) (gName 3)) rest D σ H := by
  refine ⟨i, b, l, bs, h, k1, k2, h3, hl, hz, fun p H' s hp => ?_⟩
  exact k _ H' p (h.same s (set_get (by decide))) ((set_get (by decide)).trans h2) (List.getElem?_set_self (by omega)) (by rw [List.length_set]; exact h5) s hp
theorem pure_kind {K : PySem.W.Frag} {mg : Str → Option Value} (T : Cls K mg) (vs : List V) (H : Hp) (Q : VK) (E : XK) (h : spKind K vs H Q E) : t_kind K { nx := fun _ H' => Q .non H', rt := Q } (start NK vs) H := by
  obtain ⟨a, i, fs, rfl, hi, hE, q⟩ := h
  have h0 : Here K (start NK [.ref a]) H i := ⟨a, fs, rfl, hi, hE⟩
  refine ⟨i, h0, fun p hp => ?_⟩
  have s0 := same_upd (o := .lst [.bl (0 == i), .bl (1 == i), .bl (2 == i)]) hp
  have hl : upd H p (.lst [.bl (0 == i), .bl (1 == i), .bl (2 == i)]) p = some (.lst (([0, 1, 2].map fun j => j == i).map V.bl)) := upd_same
  have h1 : (gNameSt (start NK [.ref a]) p)[1]? = some (some (.ref p)) := rfl
  have h5 : (gNameSt (start NK [.ref a]) p).length = 5 := rfl
  have h0 : Here K (gNameSt (start NK [.ref a]) p) (upd H p (.lst [.bl (0 == i), .bl (1 == i), .bl (2 == i)])) i := h0.same s0 rfl
  show tSeq _ _ _ (gNameSt (start NK [.ref a]) p) (upd H p (.lst [.bl (0 == i), .bl (1 == i), .bl (2 == i)]))
  generalize gNameSt (start NK [.ref a]) p = σ at h0 h1 h5 ⊢
  generalize upd H p (.lst [.bl (0 == i), .bl (1 == i), .bl (2 == i)]) = H at s0 hl h0 ⊢
  refine step_more h0 h1 h5 hl (by simp) fun σ H l h0 h1 h5 s hl => ?_
  have s0 := s0.trans s
  refine step_more h0 h1 h5 hl (by simp) fun σ H l h0 h1 h5 s hl => ?_
  have s0 := s0.trans s
  refine step_more h0 h1 h5 hl (by simp) fun σ H l h0 h1 h5 s hl => ?_
  have s0 := s0.trans s
  refine step_more h0 h1 h5 hl (by simp) fun σ H l h0 h1 h5 s hl => ?_
  have s0 := s0.trans s
  refine step_more h0 h1 h5 hl (by simp) fun σ H l h0 h1 h5 s hl => ?_
  have s0 := s0.trans s
  refine step_more h0 h1 h5 hl (by simp) fun σ H l h0 h1 h5 s hl => ?_
  have s0 := s0.trans s
  refine step_more h0 h1 h5 hl (by simp) fun σ H l h0 h1 h5 s hl => ?_
  have s0 := s0.trans s
  refine step_more h0 h1 h5 hl (by simp) fun σ H l h0 h1 h5 s hl => ?_
  have s0 := s0.trans s
  refine step_more h0 h1 h5 hl (by simp) fun σ H l h0 h1 h5 s hl => ?_
  have s0 := s0.trans s
  refine step_more h0 h1 h5 hl (by simp) fun σ H l h0 h1 h5 s hl => ?_
  have s0 := s0.trans s
  have hl : H l = some (.lst (((List.range 32).map fun j => j == i).map V.bl)) := hl
  refine ⟨l, i, hi, h5, h1, hl, fun K1 s1 => ?_⟩
  dsimp only [tIfS]
  rw [if_neg Bool.false_ne_true]
  have hl := s1 _ _ hl
  have s0 := s0.trans s1
  have h0 := h0.same (σ' := σ.set 2 (some (.int (i : Nat)))) s1 (set_get (by decide))
  refine ⟨l, i, hi, h1, hl, ?_⟩
  have h2 : (σ.set 2 (some (.int (i : Nat))))[2]? = some (some (.int (i : Nat))) := List.getElem?_set_self (by omega)
  have h5 : (σ.set 2 (some (.int (i : Nat)))).length = 5 := by rw [List.length_set]; exact h5
  show tSeq _ _ _ (σ.set 2 (some (.int (i : Nat)))) K1
  generalize σ.set 2 (some (.int (i : Nat))) = σ at h0 h2 h5 ⊢
  refine ⟨i, _, h0, T.askI i hi, T.askV i hi, fun b0 hb0 => ?_⟩
  have s2 := s0.trans (same_upd (o := .lst [.bl (decide (i < 20))]) hb0)
  have h0 := h0.same (σ' := σ.set 3 (some (.ref b0))) (same_upd (o := .lst [.bl (decide (i < 20))]) hb0) (set_get (by decide))
  have h3 : (σ.set 3 (some (.ref b0)))[3]? = some (some (.ref b0)) := List.getElem?_set_self (by omega)
  have h2 : (σ.set 3 (some (.ref b0)))[2]? = some (some (.int (i : Nat))) := (set_get (by decide)).trans h2
  have h5 : (σ.set 3 (some (.ref b0))).length = 5 := by rw [List.length_set]; exact h5
  have hl : upd K1 b0 (.lst [.bl (decide (i < 20))]) b0 = some (.lst (([decide (i < 20)]).map V.bl)) := upd_same
  show tSeq _ _ _ (σ.set 3 (some (.ref b0))) (upd K1 b0 (.lst [.bl (decide (i < 20))]))
  generalize σ.set 3 (some (.ref b0)) = σ at h0 h2 h3 h5 ⊢
  generalize upd K1 b0 (.lst [.bl (decide (i < 20))]) = H at s2 hl h0 ⊢
  refine step_base h0 h2 h5 (T.askS i hi) (T.askL i hi) h3 hl (by simp) fun σ H l h0 h2 h3 h5 s hl => ?_
  have s2 := s2.trans s
  refine step_base h0 h2 h5 (T.askZ i hi) (T.askA i hi) h3 hl (by simp) fun σ H l h0 h2 h3 h5 s hl => ?_
  have s2 := s2.trans s
  refine ⟨i, l, hi, h2, h3, hl, fun K3 s6 => ?_⟩
  refine iteT ⟨_, h2, ?_⟩
  exact q _ (s2.trans s6)
section
variable {P : Program} {w : World} {K : PySem.W.Frag} {mg : Str → Option Value} {base : Heap} {f : Addr} {fd : FuncData}
theorem ok_kind (F : FunD K "_law_kind" "_law_kind" (defArgs (top 51)) (defBody (top 51)) (defScope (top 51)) [] [] f fd) (T : Cls K mg) : FnG P w K mg base 1 f fd ["_law_e"] (spKind K) := by
  refine okG F scK (fun vs H Q E h => ?_) (fun cdv A outer s H vs Q E hG hR h => ⟨t_kind K, ?_, pure_kind T vs H Q E h⟩)
  · obtain ⟨a, i, fs, rfl, _⟩ := h
    rfl
  · exact (pss_cons (ps_set (i := 1) scK.nd rfl (Or.inl rfl) (PE.imp (pe_lst (pa_cons (pe_is 0 T (pv 0) (by decide) rfl rfl rfl) (pa_cons (pe_is 1 T (pv 0) (by decide) rfl rfl rfl) (pa_cons (pe_is 2 T (pv 0) (by decide) rfl rfl rfl) pa_nil)))) three))
    (pss_cons (ps_set (i := 1) scK.nd rfl (Or.inl rfl) (PE.imp (pe_op op_cat (pv 1) (PE.imp (pe_lst (pa_cons (pe_is 3 T (pv 0) (by decide) rfl rfl rfl) (pa_cons (pe_is 4 T (pv 0) (by decide) rfl rfl rfl) (pa_cons (pe_is 5 T (pv 0) (by decide) rfl rfl rfl) pa_nil)))) three)) more3))
    (pss_cons (ps_set (i := 1) scK.nd rfl (Or.inl rfl) (PE.imp (pe_op op_cat (pv 1) (PE.imp (pe_lst (pa_cons (pe_is 6 T (pv 0) (by decide) rfl rfl rfl) (pa_cons (pe_is 7 T (pv 0) (by decide) rfl rfl rfl) (pa_cons (pe_is 8 T (pv 0) (by decide) rfl rfl rfl) pa_nil)))) three)) more3))
    (pss_cons (ps_set (i := 1) scK.nd rfl (Or.inl rfl) (PE.imp (pe_op op_cat (pv 1) (PE.imp (pe_lst (pa_cons (pe_is 9 T (pv 0) (by decide) rfl rfl rfl) (pa_cons (pe_is 10 T (pv 0) (by decide) rfl rfl rfl) (pa_cons (pe_is 11 T (pv 0) (by decide) rfl rfl rfl) pa_nil)))) three)) more3))
    (pss_cons (ps_set (i := 1) scK.nd rfl (Or.inl rfl) (PE.imp (pe_op op_cat (pv 1) (PE.imp (pe_lst (pa_cons (pe_is 12 T (pv 0) (by decide) rfl rfl rfl) (pa_cons (pe_is 13 T (pv 0) (by decide) rfl rfl rfl) (pa_cons (pe_is 14 T (pv 0) (by decide) rfl rfl rfl) pa_nil)))) three)) more3))
    (pss_cons (ps_set (i := 1) scK.nd rfl (Or.inl rfl) (PE.imp (pe_op op_cat (pv 1) (PE.imp (pe_lst (pa_cons (pe_is 15 T (pv 0) (by decide) rfl rfl rfl) (pa_cons (pe_is 16 T (pv 0) (by decide) rfl rfl rfl) (pa_cons (pe_is 17 T (pv 0) (by decide) rfl rfl rfl) pa_nil)))) three)) more3))
    (pss_cons (ps_set (i := 1) scK.nd rfl (Or.inl rfl) (PE.imp (pe_op op_cat (pv 1) (PE.imp (pe_lst (pa_cons (pe_is 18 T (pv 0) (by decide) rfl rfl rfl) (pa_cons (pe_is 19 T (pv 0) (by decide) rfl rfl rfl) (pa_cons (pe_is 20 T (pv 0) (by decide) rfl rfl rfl) pa_nil)))) three)) more3))
    (pss_cons (ps_set (i := 1) scK.nd rfl (Or.inl rfl) (PE.imp (pe_op op_cat (pv 1) (PE.imp (pe_lst (pa_cons (pe_is 21 T (pv 0) (by decide) rfl rfl rfl) (pa_cons (pe_is 22 T (pv 0) (by decide) rfl rfl rfl) (pa_cons (pe_is 23 T (pv 0) (by decide) rfl rfl rfl) pa_nil)))) three)) more3))
    (pss_cons (ps_set (i := 1) scK.nd rfl (Or.inl rfl) (PE.imp (pe_op op_cat (pv 1) (PE.imp (pe_lst (pa_cons (pe_is 24 T (pv 0) (by decide) rfl rfl rfl) (pa_cons (pe_is 25 T (pv 0) (by decide) rfl rfl rfl) (pa_cons (pe_is 26 T (pv 0) (by decide) rfl rfl rfl) pa_nil)))) three)) more3))
    (pss_cons (ps_set (i := 1) scK.nd rfl (Or.inl rfl) (PE.imp (pe_op op_cat (pv 1) (PE.imp (pe_lst (pa_cons (pe_is 27 T (pv 0) (by decide) rfl rfl rfl) (pa_cons (pe_is 28 T (pv 0) (by decide) rfl rfl rfl) (pa_cons (pe_is 29 T (pv 0) (by decide) rfl rfl rfl) pa_nil)))) three)) more3))
    (pss_cons (ps_set (i := 1) scK.nd rfl (Or.inl rfl) (PE.imp (pe_op op_cat (pv 1) (PE.imp (pe_lst (pa_cons (pe_is 30 T (pv 0) (by decide) rfl rfl rfl) (pa_cons (pe_is 31 T (pv 0) (by decide) rfl rfl rfl) pa_nil))) two)) more2))
    (pss_cons (ps_if (PT.imp (pt_cmpR op_ne (PE.imp (pe_callB (cr_sum rfl) rfl (T.free "sum" (by decide)) (by decide +kernel) (pa_cons (PE.imp (pe_lc (own := [("_law_row", 4)]) (g := gName 4) (tt := tYes) rfl scK.nd (pi_list (pv 1)) (blkOk_by (N := NK) (sc := defScope (top 51)) (by decide +kernel))
      (fun _ _ _ _ _ => pg_name (i := 4) scK.nd rfl (Or.inl rfl)) (fun _ _ _ _ _ => pts_nil) (fun _ _ _ _ _ => pe_callTy call_i1 rfl (T.free "int" (by decide)) (by decide +kernel) (pa_cons (pv 4) pa_nil))) toInts) pa_nil)) toSum) pe_int (nomark _)) toTestSum) (pss_one (ps_ret (pe_op op_sub pe_int pe_int))) pss_nil)
    (pss_cons (ps_set (i := 2) scK.nd rfl (Or.inl rfl) (PE.imp (pe_bm PySem.F.plainAttrs_list PySem.F.slot_list_index PySem.F.type_list_index mt_index (pv 1) (pa_cons pe_bl pa_nil)) toIdx))
    (pss_cons (ps_set (i := 3) scK.nd rfl (Or.inl rfl) (PE.imp (pe_lst (pa_cons (PE.imp (pe_and (pe_isC (c := .ref (He.ga K "InputError")) T (pv 0) (pe_glob (v := .ref (He.ga K "InputError")) rfl T.gI rfl) (fun u r => r) rfl) (pe_one (pe_isC (c := .type "ValueError") T (pv 0) (pe_bltn (v := .ty "ValueError") rfl (T.free "ValueError" (by decide)) (by decide +kernel) rfl) (fun u r => r) rfl))) toBoth) pa_nil)) toBase1))
    (pss_cons (ps_set (i := 3) scK.nd rfl (Or.inl rfl) (PE.imp (pe_op op_cat (pv 3) (PE.imp (pe_lst (pa_cons (PE.imp (pe_and (pe_isC (c := .ref (He.ga K "StateError")) T (pv 0) (pe_glob (v := .ref (He.ga K "StateError")) rfl T.gS rfl) (fun u r => r) rfl) (pe_one (pe_isC (c := .type "LookupError") T (pv 0) (pe_bltn (v := .ty "LookupError") rfl (T.free "LookupError" (by decide)) (by decide +kernel) rfl) (fun u r => r) rfl))) toBoth) pa_nil)) toBase1)) toBaseM))
    (pss_cons (ps_set (i := 3) scK.nd rfl (Or.inl rfl) (PE.imp (pe_op op_cat (pv 3) (PE.imp (pe_lst (pa_cons (PE.imp (pe_and (pe_isC (c := .ref (He.ga K "SizeError")) T (pv 0) (pe_glob (v := .ref (He.ga K "SizeError")) rfl T.gZ rfl) (fun u r => r) rfl) (pe_one (pe_isC (c := .type "ArithmeticError") T (pv 0) (pe_bltn (v := .ty "ArithmeticError") rfl (T.free "ArithmeticError" (by decide)) (by decide +kernel) rfl) (fun u r => r) rfl))) toBoth) pa_nil)) toBase1)) toBaseM))
    (pss_one (ps_ret (pe_ifExp (PT.imp (pt_cmpR (op_eqD hR.units) (pv 3) (pe_lst (pa_cons (pe_cmpR op_lt (pv 2) pe_int (nomark _)) (pa_cons (pe_chain op_lt op_lt pe_int (pv 2) pe_int) (pa_cons (pe_cmpR op_gt (pv 2) pe_int (nomark _)) pa_nil)))) (nomark _)) toBases) (pv 2) (pe_op op_sub pe_int pe_int))))))))))))))))))))
end
end K2
set_option maxRecDepth 100000
set_option maxHeartbeats 4000000
/-! The law's draws. -/
namespace K2
open PySem PySem.Spec PyProof.Rows L2 GX
/-- all but p is as it was -/
def SameX (p : Addr) (H H' : Hp) : Prop := ∀ b o, b ≠ p → H b = some o → H' b = some o
theorem SameX.of {p : Addr} {H H' : Hp} (h : Same H H') : SameX p H H' := fun b o _ e => h b o e
theorem SameX.trans {p : Addr} {H H1 H2 : Hp} (a : SameX p H H1) (b : SameX p H1 H2) : SameX p H H2 := fun c o n e => b c o n (a c o n e)
theorem SameX.upd {p : Addr} {H H' : Hp} {o : HO} (a : SameX p H H') : SameX p H (upd H' p o) := fun c u n e => by rw [upd_ne n]; exact a c u n e
theorem SameX.new {p : Addr} {H H1 H2 : Hp} (n : H p = none) (a : Same H H1) (b : SameX p H1 H2) : Same H H2 := fun c o e => b c o (fun z => by rw [z, n] at e; cases e) (a c o e)
def PoolAt (H : Hp) (p : Addr) : Prop := ∃ st dg n : Int, H p = some (.lst [.int st, .int dg, .int n]) ∧ 0 ≤ st ∧ st < 2147483249 ∧ 0 ≤ dg
abbrev ND : List Str := ["_law_pool_here", "_law_most", "_law_state", "_law_digit"]
theorem scD : FnScope ND ["_law_pool_here", "_law_most"] (defScope (top 50)) := ⟨rfl, rfl, rfl, by decide +kernel, rfl, by decide +kernel, by decide +kernel⟩
def spDraw : Sp := fun vs H Q _ => ∃ (p : Addr) (m : Int), vs = [.ref p, .int m] ∧ PoolAt H p ∧ 0 < m ∧ m < 1000000 ∧ ∀ r H', 0 ≤ r → r < m → SameX p H H' → PoolAt H' p → Q (.int r) H'
abbrev rPlus : R2 := rI0 fun i j => .int (i + j)
abbrev rMod : R2 := rI (fun _ j => 0 < j) fun i j => .int (i % j)
abbrev rMulI : R2 := rI CMul fun i j => .int (i * j)
abbrev rDivI : R2 := rI CDiv fun i j => .int (i / j)
def rDm : List V → Hp → VK → Prop := fun xs H Q => ∃ i j, xs = [.int i, .int j] ∧ CDiv i j ∧ ∀ p, H p = none → Q (.ref p) (upd H p (.tup [.int (i / j), .int (i % j)]))
theorem call_dm {X : Cx} : CallR X (.builtin "divmod") rDm := call_divmod
def rI2 : List V → Hp → VK → Prop := fun xs H Q => (∃ i, xs = [.int i] ∧ Q (.int i) H) ∨ ∃ k, xs = [.bl k] ∧ Q (.int (if k then 1 else 0)) H
theorem call_i2 {X : Cx} : CallR X (.type "int") rI2 := call_int1
/-- pool[k] -/
def tAt (K : PySem.W.Frag) (k : Int) : TE := tOp (rIxL K) (tVar 0) (tC (.int k))
theorem at_of {K : PySem.W.Frag} {k : Nat} {p : Addr} {xs : List V} {v : V} {σ : L2.St} {H : Hp} {Q : VK} (h0 : σ[0]? = some (some (.ref p))) (h : H p = some (.lst xs)) (hk : xs[k]? = some v) (q : Q v H) : tAt K (k : Int) σ H Q :=
  ⟨_, h0, p, xs, (k : Int), v, rfl, rfl, SqL.of h, atI_nat hk, q⟩
/-- pool[k] = e -/
def tPut (te : TE) (k : Int) : TS := tAsg te (gSub (tVar 0) (tC (.int k)) rSetL)
theorem put_of {k : Nat} {p : Addr} {xs : List V} {y : V} {te : TE} {σ : L2.St} {H H1 : Hp} {D : Ends} (hk : k < xs.length) (h0 : σ[0]? = some (some (.ref p)))
    (e : (∀ Q : VK, Q y H1 → te σ H Q)) (h : H1 p = some (.lst xs)) (q : D.nx σ (upd H1 p (.lst (xs.set k y)))) : tPut te (k : Int) D σ H := by
  refine e _ ⟨_, h0, p, xs, (k : Int), k, rfl, rfl, h, ?_, q⟩
  unfold ixN
  rw [if_pos (by omega), if_pos (by omega)]
  simp
def tStep (K : PySem.W.Frag) : TE := tOp rMod (tOp rPlus (tOp rMulI (tVar 2) (tOp rPlus (tOp rMod (tVar 2) (tC (.int 50021))) (tC (.int 30011)))) (tOp rMulI (tC (.int 80021)) (tAt K 2))) (tC (.int 2147483249))
def tDm (K : PySem.W.Frag) : TS := tAsg (tCB rDm (tCons (tAt K 1) (tCons (tVar 1) tNil))) (gTup K 2 (gCons (gSub (tVar 0) (tC (.int 1)) rSetL) (gCons (gName 3) gNil)))
def t_draw (K : PySem.W.Frag) : TS :=
  tSeq (tPut (tOp rPlus (tAt K 2) (tC (.int 1))) 2)
  (tSeq (tAsg (tCB rI2 (tCons (tAt K 0) tNil)) (gName 2))
  (tSeq (tPut (tStep K) 0)
  (tSeq (tIfS (tTest (tOp rGt (tAt K 1) (tC (.int 0)))) (tSeq (tDm K) (tRet (tVar 3))) tNext)
  (tRet (tOp rMod (tOp rDivI (tAt K 0) (tC (.int 64))) (tVar 1))))))
theorem pure_draw {K : PySem.W.Frag} (vs : List V) (H : Hp) (Q : VK) (E : XK) (h : spDraw vs H Q E) : t_draw K { nx := fun _ H' => Q .non H', rt := Q } (start ND vs) H := by
  obtain ⟨p, m, rfl, ⟨st, dg, n, hp, h1, h2, h3⟩, hm, hm2, q⟩ := h
  refine put_of (k := 2) (xs := [.int st, .int dg, .int n]) (y := .int (n + 1)) (by simp) rfl (fun Q' q' => at_of (k := 2) rfl hp rfl ⟨_, _, rfl, rfl, q'⟩) hp ?_
  have hp1 : upd H p (.lst [.int st, .int dg, .int (n + 1)]) p = some (.lst [.int st, .int dg, .int (n + 1)]) := upd_same
  have x1 : SameX p H (upd H p (.lst [.int st, .int dg, .int (n + 1)])) := SameX.upd (fun _ _ _ e => e)
  show (tSeq _ _) _ _ (upd H p (.lst [.int st, .int dg, .int (n + 1)]))
  generalize upd H p (.lst [.int st, .int dg, .int (n + 1)]) = H1 at hp1 x1 ⊢
  refine at_of (k := 0) rfl hp1 rfl (.inl ⟨st, rfl, ?_⟩)
  show tSeq (tPut (tStep K) 0) _ _ ((start ND [.ref p, .int m]).set 2 (some (.int st))) H1
  refine put_of (k := 0) (xs := [.int st, .int dg, .int (n + 1)]) (y := .int ((st * (st % 50021 + 30011) + 80021 * (n + 1)) % 2147483249)) (by simp) rfl (fun Q' q' => ?_) hp1 ?_
  · refine ⟨_, rfl, _, rfl, st, 50021, rfl, rfl, by omega, _, _, rfl, rfl, _, _, rfl, rfl, .inl ⟨by omega, by omega⟩, ?_⟩
    refine at_of (k := 2) rfl hp1 rfl ⟨80021, n + 1, rfl, rfl, .inl ⟨by omega, by omega⟩, ?_⟩
    exact ⟨_, _, rfl, rfl, _, 2147483249, rfl, rfl, by omega, q'⟩
  have b1 : 0 ≤ (st * (st % 50021 + 30011) + 80021 * (n + 1)) % 2147483249 := Int.emod_nonneg _ (by omega)
  have b2 : (st * (st % 50021 + 30011) + 80021 * (n + 1)) % 2147483249 < 2147483249 := Int.emod_lt_of_pos _ (by omega)
  generalize (st * (st % 50021 + 30011) + 80021 * (n + 1)) % 2147483249 = z at b1 b2 ⊢
  have hp2 : upd H1 p (.lst [.int z, .int dg, .int (n + 1)]) p = some (.lst [.int z, .int dg, .int (n + 1)]) := upd_same
  have x2 : SameX p H (upd H1 p (.lst [.int z, .int dg, .int (n + 1)])) := x1.upd
  show (tSeq _ _) _ _ (upd H1 p (.lst [.int z, .int dg, .int (n + 1)]))
  generalize upd H1 p (.lst [.int z, .int dg, .int (n + 1)]) = H2 at hp2 x2 ⊢
  refine at_of (k := 1) rfl hp2 rfl ⟨dg, 0, rfl, rfl, _, rfl, ?_⟩
  by_cases hdg : 0 < dg
  · rw [decide_eq_true hdg]
    dsimp only
    rw [if_pos rfl]
    refine at_of (k := 1) rfl hp2 rfl ⟨_, rfl, ?_⟩
    refine ⟨dg, m, rfl, ⟨hm, by omega⟩, fun t ht => ?_⟩
    have npt : p ≠ t := fun z => by rw [z, ht] at hp2; cases hp2
    have hp3 : upd H2 t (.tup [.int (dg / m), .int (dg % m)]) p = some (.lst [.int z, .int dg, .int (n + 1)]) := by rw [upd_ne npt]; exact hp2
    have x3 : SameX p H (upd H2 t (.tup [.int (dg / m), .int (dg % m)])) := x2.trans (SameX.of (same_upd ht))
    refine ⟨t, _, rfl, .inl (.inl upd_same), rfl, ?_⟩
    refine ⟨_, _, rfl, ?_⟩
    refine ⟨_, rfl, p, _, 1, 1, rfl, rfl, hp3, rfl, ?_⟩
    refine ⟨_, _, rfl, rfl, _, rfl, ?_⟩
    refine q (dg % m) _ (Int.emod_nonneg _ (by omega)) (Int.emod_lt_of_pos _ hm) x3.upd ?_
    exact ⟨z, dg / m, n + 1, upd_same, b1, b2, Int.ediv_nonneg h3 (by omega)⟩
  · rw [decide_eq_false hdg]
    dsimp only
    rw [if_neg Bool.false_ne_true]
    refine at_of (k := 0) rfl hp2 rfl ⟨z, 64, rfl, rfl, ⟨by omega, by omega⟩, ?_⟩
    refine ⟨_, rfl, z / 64, m, rfl, rfl, hm, ?_⟩
    exact q _ H2 (Int.emod_nonneg _ (by omega)) (Int.emod_lt_of_pos _ hm) x2 ⟨z, dg, n + 1, hp2, b1, b2, h3⟩
section
variable {P : Program} {w : World} {K : PySem.W.Frag} {mg : Str → Option Value} {base : Heap} {f : Addr} {fd : FuncData}
theorem ok_draw (F : FunD K "_law_draw" "_law_draw" (defArgs (top 50)) (defBody (top 50)) (defScope (top 50)) [] [] f fd) (T : Cls K mg) : FnG P w K mg base 1 f fd ["_law_pool_here", "_law_most"] spDraw := by
  refine okG F scD (fun vs H Q E h => ?_) (fun cdv A outer s H vs Q E hG hR h => ⟨t_draw K, ?_, pure_draw vs H Q E h⟩)
  · obtain ⟨p, m, rfl, _⟩ := h
    rfl
  · exact pss_cons (ps_asg (pe_op op_add (pe_ix ix_list (pv 0) pe_int (fun _ _ => rfl)) pe_int) (pg_sub (pv 0) pe_int set_list))
      (pss_cons (ps_set (i := 2) scD.nd rfl (Or.inl rfl) (pe_callTy call_i2 rfl (T.free "int" (by decide)) (by decide +kernel) (pa_cons (pe_ix ix_list (pv 0) pe_int (fun _ _ => rfl)) pa_nil)))
      (pss_cons (ps_asg (pe_op op_mod (pe_op op_add (pe_op op_mul (pv 2) (pe_op op_add (pe_op op_mod (pv 2) pe_int) pe_int)) (pe_op op_mul pe_int (pe_ix ix_list (pv 0) pe_int (fun _ _ => rfl)))) pe_int) (pg_sub (pv 0) pe_int set_list))
      (pss_cons (ps_if (pt_cmpR op_gt (pe_ix ix_list (pv 0) pe_int (fun _ _ => rfl)) pe_int (nomark _))
        (pss_cons (ps_asg (pe_callB call_dm rfl (T.free "divmod" (by decide)) (by decide +kernel) (pa_cons (pe_ix ix_list (pv 0) pe_int (fun _ _ => rfl)) (pa_cons (pv 1) pa_nil)))
          (pg_tup rfl (pgs_cons (pg_sub (pv 0) pe_int set_list) (pgs_cons (pg_name (i := 3) scD.nd rfl (Or.inl rfl)) pgs_nil)))) (pss_one (ps_ret (pv 3)))) pss_nil)
      (pss_one (ps_ret (pe_op op_mod (pe_op op_fdiv (pe_ix ix_list (pv 0) pe_int (fun _ _ => rfl)) pe_int) (pv 1)))))))
end
end K2
set_option maxRecDepth 100000
set_option maxHeartbeats 4000000
/-! A pool from a figure; a cell of the script. -/
namespace K2
open PySem PySem.Spec PyProof.Rows L2 GX
abbrev NP : List Str := ["_law_figure", "_law_digits"]
theorem scP : FnScope NP ["_law_figure"] (defScope (top 49)) := ⟨rfl, rfl, rfl, by decide +kernel, rfl, by decide +kernel, by decide +kernel⟩
def spPool : Sp := fun vs H Q _ => ∃ n : Int, vs = [.int n] ∧ ∀ p H', Same H H' → H p = none → PoolAt H' p → Q (.ref p) H'
def rAbs : List V → Hp → VK → Prop := fun xs H Q => ∃ i, xs = [.int i] ∧ Q (.int (if i < 0 then -i else i)) H
theorem call_ab {X : Cx} : CallR X (.builtin "abs") rAbs := call_abs
abbrev rGe : R2 := rI0 fun i j => .bl (decide (j ≤ i))
abbrev rLt2 : R2 := rI0 fun i j => .bl (decide (i < j))
abbrev rPow : R2 := rI CPow fun i j => .int (i ^ j.toNat)
/-- the digits -/
def tDig : TE := tIf (tOr (tTest (tOp rLt2 (tVar 0) (tC (.int 0)))) (tTest (tOp rGe (tVar 0) (tOp rPow (tC (.int 10)) (tC (.int 18)))))) (tCB rAbs (tCons (tVar 0) tNil)) (tC (.int 0))
theorem dig {n : Int} {σ : L2.St} {H : Hp} {Q : VK} (h0 : σ[0]? = some (some (.int n))) (q : ∀ d : Int, 0 ≤ d → Q (.int d) H) : tDig σ H Q := by
  have ab : tCB rAbs (tCons (tVar 0) tNil) σ H Q := by
    refine ⟨_, h0, n, rfl, q _ ?_⟩
    by_cases h : n < 0
    · rw [if_pos h]; omega
    · rw [if_neg h]; omega
  refine ⟨_, h0, n, 0, rfl, rfl, _, rfl, ?_⟩
  by_cases h : n < 0
  · rw [decide_eq_true h]
    dsimp only
    rw [if_pos rfl, if_pos rfl]
    exact ab
  · rw [decide_eq_false h]
    dsimp only
    rw [if_neg Bool.false_ne_true]
    refine ⟨_, h0, 10, 18, rfl, rfl, ⟨by omega, by omega, by decide⟩, n, _, rfl, rfl, _, rfl, ?_⟩
    by_cases h2 : (10 : Int) ^ (18 : Int).toNat ≤ n
    · rw [decide_eq_true h2]
      dsimp only
      rw [if_pos rfl]
      exact ab
    · rw [decide_eq_false h2]
      dsimp only
      rw [if_neg Bool.false_ne_true]
      exact q 0 (by omega)
section
variable {P : Program} {w : World} {K : PySem.W.Frag} {mg : Str → Option Value} {base : Heap} {f : Addr} {fd : FuncData}
theorem ok_pool (F : FunD K "_law_pool" "_law_pool" (defArgs (top 49)) (defBody (top 49)) (defScope (top 49)) [] [] f fd) (T : Cls K mg) : FnG P w K mg base 1 f fd ["_law_figure"] spPool := by
  refine okG F scP (fun vs H Q E h => ?_) (fun cdv A outer s H vs Q E hG hR h => ⟨tSeq (tAsg tDig (gName 1)) (tRet (tLst (tCons (tOp rMod (tCB rI2 (tCons (tVar 0) tNil)) (tC (.int 2147483249))) (tCons (tVar 1) (tCons (tC (.int 0)) tNil))))), ?_, ?_⟩)
  · obtain ⟨n, rfl, _⟩ := h
    rfl
  · exact pss_cons (ps_set (i := 1) scP.nd rfl (Or.inl rfl) (pe_ifExp (PW.pt (pw_or (pt_cmpR op_lt (pv 0) pe_int (nomark _)) (pw_or1 (pt_cmpR op_ge (pv 0) (pe_op op_pow pe_int pe_int) (nomark _)))))
        (pe_callB call_ab rfl (T.free "abs" (by decide)) (by decide +kernel) (pa_cons (pv 0) pa_nil)) pe_int))
      (pss_one (ps_ret (pe_lst (pa_cons (pe_op op_mod (pe_callTy call_i2 rfl (T.free "int" (by decide)) (by decide +kernel) (pa_cons (pv 0) pa_nil)) pe_int) (pa_cons (pv 1) (pa_cons pe_int pa_nil))))))
  · obtain ⟨n, rfl, q⟩ := h
    refine dig (n := n) rfl fun d hd => ?_
    refine ⟨_, rfl, .inl ⟨n, rfl, n, 2147483249, rfl, rfl, by omega, _, rfl, (by show 3 ≤ sizeLine; decide), fun p hp => ?_⟩⟩
    exact q p _ (same_upd hp) hp ⟨_, _, _, upd_same, Int.emod_nonneg _ (by omega), Int.emod_lt_of_pos _ (by omega), hd⟩
end
/-! ### a cell of the script -/
abbrev NC : List Str := ["_law_script", "_law_k", "_law_state", "_law_figure"]
theorem scC : FnScope NC ["_law_script", "_law_k"] (defScope (top 48)) := ⟨rfl, rfl, rfl, by decide +kernel, rfl, by decide +kernel, by decide +kernel⟩
def spCell (K : PySem.W.Frag) : Sp := fun vs H Q _ => ∃ (l : Addr) (ns : List Int) (k : Nat), vs = [.ref l, .int (k : Int)] ∧ SqL K H l (ns.map V.int) ∧ k < 64 ∧ ∀ (n : Int) H', Same H H' → Q (.int n) H'
def rLen (K : PySem.W.Frag) : List V → Hp → VK → Prop := fun xs H Q => ∃ p ys, xs = [.ref p] ∧ (SqL K H p ys ∨ SqT K H p ys) ∧ Q (.int ys.length) H
theorem call_le {X : Cx} : CallR X (.builtin "len") (rLen X.K) := call_len_seq
def tMix : TE := tOp rMod (tOp rMulI (tC (.int 60013)) (tOp rPlus (tOp rPlus (tOp rMulI (tVar 1) (tVar 1)) (tOp rMulI (tC (.int 5)) (tVar 1))) (tC (.int 3)))) (tC (.int 2147483249))
def tTurn : TE := tOp rMod (tOp rPlus (tOp rMulI (tVar 2) (tC (.int 41221))) (tCB rI2 (tCons (tVar 3) tNil))) (tC (.int 2147483249))
def tCellA (K : PySem.W.Frag) : TE := tCB rI2 (tCons (tOp (rIxL K) (tVar 0) (tVar 1)) tNil)
def t_cell (K : PySem.W.Frag) : TS :=
  tSeq (tIfS (tTest (tOp rLt2 (tVar 1) (tCB (rLen K) (tCons (tVar 0) tNil)))) (tRet (tCellA K)) tNext)
  (tSeq (tAsg tMix (gName 2))
  (tSeq (tFor (iList K (tSl (rSlL K) (tVar 0) tNoPart (tPart (tC (.int 3))))) (gName 3) (tAsg tTurn (gName 2)))
  (tRet (tVar 2))))
theorem cut_ints (ns : List Int) (lo hi : Option Int) : ∃ ms : List Int, cutV (ns.map V.int) lo hi = ms.map V.int := by
  unfold cutV
  rw [← List.map_drop, ← List.map_take]
  exact ⟨_, rfl⟩
theorem pure_cell {K : PySem.W.Frag} (vs : List V) (H : Hp) (Q : VK) (E : XK) (h : spCell K vs H Q E) : t_cell K { nx := fun _ H' => Q .non H', rt := Q } (start NC vs) H := by
  obtain ⟨l, ns, k, rfl, hl, hk, q⟩ := h
  refine ⟨_, rfl, _, rfl, ⟨l, _, rfl, .inl hl, ?_⟩⟩
  refine ⟨k, _, rfl, rfl, _, rfl, ?_⟩
  by_cases hlt : ((k : Nat) : Int) < (((ns.map V.int).length : Nat) : Int)
  · rw [decide_eq_true hlt]
    dsimp only
    rw [if_pos rfl]
    have hk2 : k < ns.length := by rw [List.length_map] at hlt; omega
    refine ⟨_, rfl, _, rfl, l, _, k, .int ns[k], rfl, rfl, hl, ?_, .inl ⟨_, rfl, q _ H (Same.refl H)⟩⟩
    exact atI_nat (by rw [List.getElem?_map, List.getElem?_eq_getElem hk2]; rfl)
  · rw [decide_eq_false hlt]
    dsimp only
    rw [if_neg Bool.false_ne_true]
    have hkk : ((k : Nat) : Int) < 64 := by omega
    have hb : (0 : Int) ≤ ((k : Nat) : Int) := by omega
    refine ⟨_, rfl, _, rfl, k, k, rfl, rfl, .inl ⟨by omega, by omega⟩, _, rfl, 5, k, rfl, rfl, .inl ⟨by omega, by omega⟩, _, _, rfl, rfl, _, _, rfl, rfl, 60013, _, rfl, rfl, .inl ⟨by omega, by omega⟩, _, 2147483249, rfl, rfl, by omega, ?_⟩
    have b1 : 0 ≤ (60013 * (((k : Nat) : Int) * ((k : Nat) : Int) + 5 * ((k : Nat) : Int) + 3)) % 2147483249 := Int.emod_nonneg _ (by omega)
    have b2 : (60013 * (((k : Nat) : Int) * ((k : Nat) : Int) + 5 * ((k : Nat) : Int) + 3)) % 2147483249 < 2147483249 := Int.emod_lt_of_pos _ (by omega)
    show tSeq _ _ _ ((start NC [.ref l, .int k]).set 2 (some (.int ((60013 * (((k : Nat) : Int) * ((k : Nat) : Int) + 5 * ((k : Nat) : Int) + 3)) % 2147483249)))) H
    generalize (60013 * (((k : Nat) : Int) * ((k : Nat) : Int) + 5 * ((k : Nat) : Int) + 3)) % 2147483249 = z at b1 b2 ⊢
    refine ⟨_, rfl, 3, rfl, l, _, rfl, hl, fun p hp => ?_⟩
    obtain ⟨ms, hms⟩ := cut_ints ns none (some 3)
    rw [hms]
    refine ⟨p, rfl, ⟨_, .inl (.inl upd_same)⟩, ?_⟩
    refine for_list (K := K) (a := p) (xs := ms.map V.int) (fun i σ H' => ∃ (z : Int) (u : Option V), σ = [some (.ref l), some (.int k), some (.int z), u] ∧ 0 ≤ z ∧ z < 2147483249 ∧ Same (upd H p (.lst (ms.map V.int))) H') ⟨z, none, rfl, b1, b2, Same.refl _⟩ ?_ ?_ ?_
    · rintro i σ H' _ ⟨z, u, rfl, _, _, hs⟩
      exact SqL.of (hs _ _ upd_same)
    · rintro i x σ H' hx ⟨z, u, rfl, hz1, hz2, hs⟩
      rw [List.getElem?_map] at hx
      obtain ⟨m, hm, rfl⟩ := Option.map_eq_some_iff.mp hx
      refine ⟨_, rfl, z, 41221, rfl, rfl, .inl ⟨by omega, by omega⟩, _, rfl, .inl ⟨m, rfl, _, _, rfl, rfl, _, 2147483249, rfl, rfl, by omega, ?_⟩⟩
      exact ⟨_, _, rfl, Int.emod_nonneg _ (by omega), Int.emod_lt_of_pos _ (by omega), hs⟩
    · rintro σ H' ⟨z, u, rfl, _, _, hs⟩
      exact ⟨_, rfl, q z H' ((same_upd hp).trans hs)⟩
section
variable {P : Program} {w : World} {K : PySem.W.Frag} {mg : Str → Option Value} {base : Heap} {f : Addr} {fd : FuncData}
theorem ok_cell (F : FunD K "_law_cell" "_law_cell" (defArgs (top 48)) (defBody (top 48)) (defScope (top 48)) [] [] f fd) (T : Cls K mg) : FnG P w K mg base 1 f fd ["_law_script", "_law_k"] (spCell K) := by
  refine okG F scC (fun vs H Q E h => ?_) (fun cdv A outer s H vs Q E hG hR h => ⟨t_cell K, ?_, pure_cell vs H Q E h⟩)
  · obtain ⟨l, ns, k, rfl, _⟩ := h
    rfl
  · exact pss_cons (ps_if (pt_cmpR op_lt (pv 1) (pe_callB call_le rfl (T.free "len" (by decide)) (by decide +kernel) (pa_cons (pv 0) pa_nil)) (nomark _))
        (pss_one (ps_ret (pe_callTy call_i2 rfl (T.free "int" (by decide)) (by decide +kernel) (pa_cons (pe_ix ix_list (pv 0) (pv 1) (fun _ _ => rfl)) pa_nil)))) pss_nil)
      (pss_cons (ps_set (i := 2) scC.nd rfl (Or.inl rfl) (pe_op op_mod (pe_op op_mul pe_int (pe_op op_add (pe_op op_add (pe_op op_mul (pv 1) (pv 1)) (pe_op op_mul pe_int (pv 1))) pe_int)) pe_int))
      (pss_cons (ps_for PassesOwn.never rfl (pi_list (pe_slice sl_list (pv 0) po_none (po_some pe_int))) (pg_name (i := 3) scC.nd rfl (Or.inl rfl))
        (pss_one (ps_set (i := 2) scC.nd rfl (Or.inl rfl) (pe_op op_mod (pe_op op_add (pe_op op_mul (pv 2) pe_int) (pe_callTy call_i2 rfl (T.free "int" (by decide)) (by decide +kernel) (pa_cons (pv 3) pa_nil))) pe_int))))
      (pss_one (ps_ret (pv 2)))))
end
end K2
set_option maxRecDepth 100000
set_option maxHeartbeats 400000
/-! Any value. -/
namespace K2
open PySem PySem.Spec PyProof.Rows L2 GX
def things : List PyData := [.none, .int 0, .int (-7), .bool true, .str "", .str "a", .tuple [], .tuple [.str "x", .int 1], .list [.int 2], .dict [], .int (10 ^ 30)]
/-- one of the eleven values, at the value v -/
def ThingAt (K : PySem.W.Frag) (H : Hp) (v : V) (d : PyData) : Prop := d ∈ things ∧ Dd K H v d
theorem ThingAt.same {K : PySem.W.Frag} {H H' : Hp} {v : V} {d : PyData} (h : ThingAt K H v d) (e : Same H H') : ThingAt K H' v d := ⟨h.1, h.2.same e⟩
theorem DdA.get {K : PySem.W.Frag} {H : Hp} : ∀ {vs : List V} {ds : List PyData} {i : Nat}, DdA K H vs ds → i < ds.length → ∃ v d, vs[i]? = some v ∧ ds[i]? = some d ∧ Dd K H v d
  | _, _, _, .nil, h => absurd h (by simp)
  | _, _, 0, .cons h _, _ => ⟨_, _, rfl, rfl, h⟩
  | _, _, i + 1, .cons _ t, h => by
    obtain ⟨v, d, h1, h2, h3⟩ := DdA.get (i := i) t (by simpa using h)
    exact ⟨v, d, by simpa using h1, by simpa using h2, h3⟩
theorem DdA.len {K : PySem.W.Frag} {H : Hp} : ∀ {vs : List V} {ds : List PyData}, DdA K H vs ds → vs.length = ds.length
  | _, _, .nil => rfl
  | _, _, .cons _ t => congrArg Nat.succ (DdA.len t)
theorem delX {p : Addr} {H H' : Hp} (h : SameX p H H') : Same (del H p) (del H' p) := fun b o e => by
  by_cases hb : b = p
  · rw [hb, L2.del_same] at e; cases e
  · rw [del_ne hb] at e ⊢; exact h b o hb e
theorem del_sub {p : Addr} {H : Hp} : Same (del H p) H := fun b o e => by
  by_cases hb : b = p
  · rw [hb, L2.del_same] at e; cases e
  · rw [del_ne hb] at e; exact e
def spThing (K : PySem.W.Frag) : Sp := fun vs H Q _ => ∃ p : Addr, vs = [.ref p] ∧ PoolAt H p ∧ ∀ v d H', SameX p H H' → PoolAt H' p → ThingAt K (del H' p) v d → Q v H'
abbrev NT : List Str := ["_law_pool_here", "_law_some"]
theorem scT : FnScope NT ["_law_pool_here"] (defScope (top 52)) := ⟨rfl, rfl, rfl, by decide +kernel, rfl, by decide +kernel, by decide +kernel⟩
abbrev rSub : R2 := rI0 fun i j => .int (i - j)
theorem len_le (n : Nat) (h : n ≤ 1000) : n ≤ sizeLine := by
  rw [sizeLine_eq]; omega
theorem pow_ok : CPow 10 30 := ⟨by omega, by omega, by decide⟩
theorem seqA {te : TE} {g : TG} {u : TS} {D : Ends} {σ : L2.St} {H : Hp} (h : te σ H fun x H1 => g x σ H1 (u D)) : tSeq (tAsg te g) u D σ H := h
/-- the display -/
def tAll : TE := tLst (tCons (tC .non) (tCons (tC (.int 0)) (tCons (tOp rSub (tC (.int 0)) (tC (.int 7))) (tCons (tC (.bl true)) (tCons (tC (.str "")) (tCons (tC (.str "a")) (tCons (tTup tNil) (tCons (tTup (tCons (tC (.str "x")) (tCons (tC (.int 1)) tNil))) (tCons (tLstN (tCons (tC (.int 2)) tNil)) (tCons tDNewK (tCons (tOp rPow (tC (.int 10)) (tC (.int 30))) tNil)))))))))))
theorem all_things {K : PySem.W.Frag} {p : Addr} {σ : L2.St} {H : Hp} {Q : VK} (hp : H p ≠ none) (q : ∀ (l : Addr) (xs : List V) (H' : Hp), Same H H' → l ≠ p → H' l = some (.lst xs) → DdA K (del H' p) xs things → Q (.ref l) H') : tAll σ H Q := by
  refine ⟨0, 7, rfl, rfl, ?_⟩
  refine ⟨Nat.zero_le _, fun a ha => ?_⟩
  refine ⟨len_le 2 (by decide), fun b hb => ?_⟩
  refine ⟨len_le 1 (by decide), fun c hc hc1 => ?_⟩
  intro d hd
  refine ⟨10, 30, rfl, rfl, pow_ok, ?_⟩
  refine ⟨len_le 11 (by decide), fun l hl => ?_⟩
  have sa := same_upd (o := .tup []) ha
  have sb := same_upd (o := .tup [.str "x", .int 1]) hb
  have sc := same_upd (o := .lst [.int 2]) hc
  have sd := same_upd (o := .dK []) hd
  have na : a ≠ p := fun z => hp (z ▸ ha)
  have up : ∀ {H1 : Hp} {b : Addr}, Same H H1 → H1 b = none → b ≠ p := fun {H1 b} s n z => by
    rw [z] at n
    exact hp (Same.free s n)
  have nb := up sa hb
  have nc := up (sa.trans sb) hc
  have nd := up ((sa.trans sb).trans sc) hd
  have nl := up (((sa.trans sb).trans sc).trans sd) hl
  generalize hH5 : upd (upd (upd (upd (upd H a (.tup [])) b (.tup [.str "x", .int 1])) c (.lst [.int 2])) d (.dK [])) l _ = H5
  have sl : Same (upd (upd (upd (upd H a (.tup [])) b (.tup [.str "x", .int 1])) c (.lst [.int 2])) d (.dK [])) H5 := by rw [← hH5]; exact same_upd hl
  have s5 : Same H H5 := (((sa.trans sb).trans sc).trans sd).trans sl
  refine q l _ H5 s5 nl (by rw [← hH5]; exact upd_same) ?_
  have ea : H5 a = some (.tup []) := (((sb.trans sc).trans sd).trans sl) _ _ upd_same
  have eb : H5 b = some (.tup [.str "x", .int 1]) := ((sc.trans sd).trans sl) _ _ upd_same
  have ec : H5 c = some (.lst [.int 2]) := (sd.trans sl) _ _ upd_same
  have ed : H5 d = some (.dK []) := sl _ _ upd_same
  have da : del H5 p a = some (.tup []) := by rw [del_ne na]; exact ea
  have db : del H5 p b = some (.tup [.str "x", .int 1]) := by rw [del_ne nb]; exact eb
  have dc : del H5 p c = some (.lst [.int 2]) := by rw [del_ne nc]; exact ec
  have dd : del H5 p d = some (.dK []) := by rw [del_ne nd]; exact ed
  exact .cons .non (.cons (.int 0) (.cons (.int _) (.cons (.bl true) (.cons (.str _) (.cons (.str _) (.cons (.tup (.inl (.inl da)) .nil) (.cons (.tup (.inl (.inl db)) (.cons (.str _) (.cons (.int 1) .nil))) (.cons (.lst hc1 (SqL.of dc) (.cons (.int 2) .nil)) (.cons (.dic dd) (.cons (.int _) .nil))))))))))
def tPick (K : PySem.W.Frag) : TE := tOp (rIxL K) (tVar 1) (tCall spDraw [] E0 (tCons (tVar 0) (tCons (tCB (rLen K) (tCons (tVar 1) tNil)) tNil)))
theorem pure_thing {K : PySem.W.Frag} (vs : List V) (H : Hp) (Q : VK) (E : XK) (h : spThing K vs H Q E) : (tSeq (tAsg tAll (gName 1)) (tRet (tPick K))) { nx := fun _ H' => Q .non H', rt := Q } (start NT vs) H := by
  obtain ⟨p, rfl, hP, q⟩ := h
  obtain ⟨st, dg, n, hp, h1, h2, h3⟩ := id hP
  refine seqA ?_
  refine all_things (K := K) (p := p) (H := H) (by rw [hp]; simp) fun l xs H1 s1 nl hl hD => ?_
  have hlen : xs.length = 11 := DdA.len hD
  refine ⟨_, rfl, _, rfl, _, rfl, l, xs, rfl, .inl (SqL.of hl), p, _, rfl, ⟨st, dg, n, s1 _ _ hp, h1, h2, h3⟩, by omega, by omega, fun r H2 hr0 hr1 s2 hP2 => ?_⟩
  have hr : r.toNat < things.length := by
    show r.toNat < 11
    omega
  obtain ⟨v, d, e1, e2, hd⟩ := DdA.get hD hr
  have er : ((r.toNat : Nat) : Int) = r := Int.toNat_of_nonneg hr0
  refine ⟨l, xs, r, v, rfl, rfl, SqL.of (s2 _ _ nl hl), ?_, ?_⟩
  · rw [← er]; exact atI_nat e1
  · exact q v d H2 ((SameX.of s1).trans s2) hP2 ⟨List.mem_of_getElem? e2, hd.same (delX s2)⟩
section
variable {P : Program} {w : World} {K : PySem.W.Frag} {mg : Str → Option Value} {base : Heap} {f fD : Addr} {fd fdD : FuncData}
theorem ok_thing (F : FunD K "_law_thing" "_law_thing" (defArgs (top 52)) (defBody (top 52)) (defScope (top 52)) [] [] f fd) (T : Cls K mg)
    (GD : FnG P w K mg base 1 fD fdD ["_law_pool_here", "_law_most"] spDraw) (gD : mg "_law_draw" = some (.ref fD)) (kD : PySem.W.keepIn K (.ref fD) = true) (bD : Binds K fdD ["_law_pool_here", "_law_most"] []) :
    FnG P w K mg base 2 f fd ["_law_pool_here"] (spThing K) := by
  refine okG F scT (fun vs H Q E h => ?_) (fun cdv A outer s H vs Q E hG hR h => ⟨tSeq (tAsg tAll (gName 1)) (tRet (tPick K)), ?_, pure_thing vs H Q E h⟩)
  · obtain ⟨p, rfl, _⟩ := h
    rfl
  · exact pss_cons (ps_set (i := 1) scT.nd rfl (Or.inl rfl) (pe_lst (pa_cons pe_non (pa_cons pe_int (pa_cons (pe_op op_sub pe_int pe_int) (pa_cons pe_bl (pa_cons pe_str (pa_cons pe_str (pa_cons (pe_tup pa_nil) (pa_cons (pe_tup (pa_cons pe_str (pa_cons pe_int pa_nil))) (pa_cons (pe_lstN (pa_cons pe_int pa_nil)) (pa_cons pe_dnewK (pa_cons (pe_op op_pow pe_int pe_int) pa_nil)))))))))))))
      (pss_one (ps_ret (pe_ix ix_list (pv 1) (pe_callG GD hG hR rfl gD kD bD (pa_cons (pv 0) (pa_cons (pe_callB call_le rfl (T.free "len" (by decide)) (by decide +kernel) (pa_cons (pv 1) pa_nil)) pa_nil))) (fun _ _ => rfl))))
end
end K2
set_option maxRecDepth 100000
set_option maxHeartbeats 400000
/-! Rows of two errors and a number. -/
namespace K2
open PySem PySem.Spec PyProof.Rows L2 GX
theorem things2 : ∀ d ∈ things, PyData.showableAll [d, d] = true ∧ PyData.depthAll [d, d] ≤ 60 ∧ (listText (PyData.shownAll [d, d])).length ≤ sizeLine := by decide +kernel
theorem things4 : ∀ d ∈ things, ∀ e ∈ things, PyData.showableAll [d, e, d, e] = true ∧ PyData.depthAll [d, e, d, e] ≤ 60 ∧ (listText (PyData.shownAll [d, e, d, e])).length ≤ sizeLine := by decide +kernel
/-- an error pair with its number, as a list -/
def RowAt (K : PySem.W.Frag) (H : Hp) (v : V) (j : Nat) (fs : List (Str × V)) : Prop := ∃ p a b : Addr, v = .ref p ∧ H p = some (.lst [.ref a, .ref b, .int (j : Int)]) ∧ ErrAt H a (Ca K j) fs ∧ ErrAt H b (Ca K j) fs
theorem RowAt.same {K : PySem.W.Frag} {H H' : Hp} {v : V} {j : Nat} {fs : List (Str × V)} (h : RowAt K H v j fs) (e : Same H H') : RowAt K H' v j fs := by
  obtain ⟨p, a, b, h1, h2, h3, h4⟩ := h
  exact ⟨p, a, b, h1, e _ _ h2, h3.same e, h4.same e⟩
def RowsIn (K : PySem.W.Frag) (H : Hp) (f : Nat → List (Str × V)) : List V → List Nat → Prop := Paired fun v j => j < 32 ∧ RowAt K H v j (f j)
theorem RowsIn.same {K : PySem.W.Frag} {H H' : Hp} {f : Nat → List (Str × V)} (e : Same H H') : ∀ {vs : List V} {js : List Nat}, RowsIn K H f vs js → RowsIn K H' f vs js
  | _, _, .nil => .nil
  | _, _, .cons h t => .cons ⟨h.1, h.2.same e⟩ (RowsIn.same e t)
theorem RowsIn.append {K : PySem.W.Frag} {H : Hp} {f : Nat → List (Str × V)} : ∀ {vs ws : List V} {js ks : List Nat}, RowsIn K H f vs js → RowsIn K H f ws ks → RowsIn K H f (vs ++ ws) (js ++ ks)
  | _, _, _, _, .nil, s => s
  | _, _, _, _, .cons r t, s => .cons r (RowsIn.append t s)
theorem RowsIn.at {K : PySem.W.Frag} {H : Hp} {f : Nat → List (Str × V)} : ∀ {vs : List V} {js : List Nat} {i : Nat} {v : V}, RowsIn K H f vs js → vs[i]? = some v → ∃ j, j ∈ js ∧ j < 32 ∧ RowAt K H v j (f j)
  | _, _, _, _, .nil, e => by simp at e
  | _, _, 0, _, .cons r _, e => by
    simp at e
    subst e
    exact ⟨_, List.mem_cons_self .., r.1, r.2⟩
  | _, _, i + 1, v, .cons _ t, e => by
    obtain ⟨j, h1, h2, h3⟩ := RowsIn.at (i := i) t (by simpa using e)
    exact ⟨j, List.mem_cons_of_mem _ h1, h2, h3⟩
theorem RowsIn.refs {K : PySem.W.Frag} {H : Hp} {f : Nat → List (Str × V)} : ∀ {vs : List V} {js : List Nat}, RowsIn K H f vs js → ∀ x ∈ vs, ∃ a, x = .ref a
  | _, _, .nil, _, h => by cases h
  | _, _, .cons r t, x, h => by
    rcases List.mem_cons.mp h with rfl | h
    · obtain ⟨p, _, _, e, _⟩ := r.2
      exact ⟨p, e⟩
    · exact RowsIn.refs t x h
theorem exo_lst {e C : Addr} {d : Option Addr} {xs : List V} : exo e C d ≠ .lst xs := fun z => by
  have z' : HO.ext _ = HO.lst xs := z
  cases z'
theorem exd_lst {e : Addr} {fs : List (Str × V)} {xs : List V} : exd e fs ≠ .lst xs := fun z => by
  have z' : HO.ext _ = HO.lst xs := z
  cases z'
theorem ne_at {H : Hp} {a b : Addr} {o u : HO} (ha : H a = some o) (hb : H b = some u) (d : o ≠ u) : a ≠ b := by
  intro z
  rw [z, hb] at ha
  exact d (Option.some.inj ha).symm
theorem errX {l : Addr} {vs : List V} {H H' : Hp} {a C : Addr} {fs : List (Str × V)} (hl : H l = some (.lst vs)) (s : SameX l H H') (h : ErrAt H a C fs) : ErrAt H' a C fs := by
  rcases h with ⟨h, z⟩ | ⟨d, h, z⟩
  · exact .inl ⟨s _ _ (ne_at h hl exo_lst) h, z⟩
  · exact .inr ⟨d, s _ _ (ne_at h hl exo_lst) h, s _ _ (ne_at z hl exd_lst) z⟩
theorem RowAt.sameX {l : Addr} {vs : List V} {K : PySem.W.Frag} {H H' : Hp} {v : V} {j : Nat} {fs : List (Str × V)} (hl : H l = some (.lst vs)) (hv : ∀ x ∈ vs, ∃ a, x = .ref a) (s : SameX l H H') (h : RowAt K H v j fs) : RowAt K H' v j fs := by
  obtain ⟨p, a, b, h1, h2, h3, h4⟩ := h
  have np : p ≠ l := fun z => by
    rw [z, hl] at h2
    have e : vs = [.ref a, .ref b, .int (j : Int)] := by injection h2 with h2; injection h2
    obtain ⟨c, hc⟩ := hv (.int (j : Int)) (by rw [e]; simp)
    cases hc
  exact ⟨p, a, b, h1, s _ _ np h2, errX hl s h3, errX hl s h4⟩
theorem RowsIn.sameX {l : Addr} {ws : List V} {K : PySem.W.Frag} {H H' : Hp} {f : Nat → List (Str × V)} (hl : H l = some (.lst ws)) (hv : ∀ x ∈ ws, ∃ a, x = .ref a) (s : SameX l H H') : ∀ {vs : List V} {js : List Nat}, RowsIn K H f vs js → RowsIn K H' f vs js
  | _, _, .nil => .nil
  | _, _, .cons h t => .cons ⟨h.1, h.2.sameX hl hv s⟩ (RowsIn.sameX hl hv s t)
/-- the list of rows at l -/
def RowsAt (K : PySem.W.Frag) (H : Hp) (l : Addr) (f : Nat → List (Str × V)) (js : List Nat) : Prop := ∃ vs, H l = some (.lst vs) ∧ RowsIn K H f vs js ∧ vs.length ≤ 100
def f1 (v : V) : Nat → List (Str × V) := fun j => [(fl j, v)]
/-! ### what makes rows -/
def tRow1 (K : PySem.W.Frag) (s j : Nat) : TE := fun σ H Q => ∃ v, σ[s]? = some (some v) ∧ ∀ w H', Same H H' → RowAt K H' w j (f1 v j) → Q w H'
theorem toRow1 {K : PySem.W.Frag} {s j : Nat} : ∀ σ H Q, tRow1 K s j σ H Q → tLst (tCons (tErr (Ca K j) (fl j) (tVar s)) (tCons (tErr (Ca K j) (fl j) (tVar s)) (tCons (tC (.int (j : Int))) tNil))) σ H Q := by
  rintro σ H Q ⟨v, h0, q⟩
  refine ⟨v, h0, fun a H1 s1 e1 => ⟨v, h0, fun b H2 s2 e2 => ⟨len_le 3 (by decide), fun p hp => ?_⟩⟩⟩
  exact q _ _ ((s1.trans s2).trans (same_upd hp)) ⟨p, a, b, rfl, upd_same, (e1.same s2).same (same_upd hp), e2.same (same_upd hp)⟩
def tRows2 (K : PySem.W.Frag) (s j1 j2 : Nat) : TE := fun σ H Q => j1 < 32 ∧ j2 < 32 ∧ ∃ v, σ[s]? = some (some v) ∧ ∀ l H', H l = none → Same H H' → RowsAt K H' l (f1 v) [j1, j2] → Q (.ref l) H'
theorem toRows2 {K : PySem.W.Frag} {s j1 j2 : Nat} : ∀ σ H Q, tRows2 K s j1 j2 σ H Q → tLst (tCons (tRow1 K s j1) (tCons (tRow1 K s j2) tNil)) σ H Q := by
  rintro σ H Q ⟨b1, b2, v, h0, q⟩
  refine ⟨v, h0, fun w1 H1 s1 r1 => ⟨v, h0, fun w2 H2 s2 r2 => ⟨len_le 2 (by decide), fun p hp => ?_⟩⟩⟩
  have s3 := same_upd (o := .lst [w1, w2]) hp
  exact q p _ ((s1.trans s2).free hp) ((s1.trans s2).trans s3) ⟨_, upd_same, .cons ⟨b1, (r1.same s2).same s3⟩ (.cons ⟨b2, r2.same s3⟩ .nil), by simp⟩
def tRowsM (K : PySem.W.Frag) (s t j1 j2 : Nat) : TE := fun σ H Q => j1 < 32 ∧ j2 < 32 ∧ ∃ v l js, σ[s]? = some (some v) ∧ σ[t]? = some (some (.ref l)) ∧ RowsAt K H l (f1 v) js ∧ js.length ≤ 40 ∧ ∀ l' H', H l' = none → Same H H' → RowsAt K H' l' (f1 v) (js ++ [j1, j2]) → Q (.ref l') H'
theorem Rows_len {K : PySem.W.Frag} {H : Hp} {f : Nat → List (Str × V)} {vs : List V} {js : List Nat} (h : RowsIn K H f vs js) : vs.length = js.length := Paired.length h
theorem toRowsM {K : PySem.W.Frag} {s t j1 j2 : Nat} : ∀ σ H Q, tRowsM K s t j1 j2 σ H Q → tOp rCat (tVar t) (tRows2 K s j1 j2) σ H Q := by
  rintro σ H Q ⟨b1, b2, v, l, js, h0, h1, ⟨vs, hl, hr, hz⟩, hj, q⟩
  refine ⟨_, h1, b1, b2, v, h0, fun p H1 _ s1 ⟨ws, hp, hw, hz2⟩ => ?_⟩
  have e1 := Rows_len hr
  have e2 : ws.length = 2 := Rows_len hw
  refine ⟨l, p, vs, ws, rfl, rfl, s1 _ _ hl, hp, ?_, fun p2 hp2 => ?_⟩
  · rw [sizeLine_eq]; omega
  · have s2 := same_upd (o := .lst (vs ++ ws)) hp2
    refine q p2 _ (s1.free hp2) (s1.trans s2) ⟨_, upd_same, ((hr.same s1).same s2).append (hw.same s2), ?_⟩
    rw [List.length_append]; omega
end K2
set_option maxRecDepth 100000
set_option maxHeartbeats 1000000
/-! The tests of a row, the loop over rows. -/
namespace K2
open PySem PySem.Spec PyProof.Rows L2 GX
theorem testOp {r : R2} {ta tb : TE} {σ : L2.St} {H : Hp} {Q : Bool → Hp → Prop} (h : ta σ H fun x H1 => tb σ H1 fun y H2 => r x y H2 fun z H3 => ∃ k, z = .bl k ∧ Q k H3) : tTest (tOp r ta tb) σ H Q := h
theorem opOf {r : R2} {ta tb : TE} {σ : L2.St} {H : Hp} {Q : VK} (h : ta σ H fun x H1 => tb σ H1 fun y H2 => r x y H2 Q) : tOp r ta tb σ H Q := h
section
variable {K : PySem.W.Frag} {mg : Str → Option Value} {σ : L2.St} {H : Hp}
def tKinds (K : PySem.W.Frag) (r u : Nat) : TE := tLst (tCons (tCall (spKind K) [] E0 (tCons (tVar r) tNil)) (tCons (tCall (spKind K) [] E0 (tCons (tVar u) tNil)) tNil))
def tTwice (tx : TE) : TE := tOp rRep (tLst (tCons tx tNil)) (tC (.int 2))
theorem kinds_of {r u j : Nat} {a b : Addr} {fs gs : List (Str × V)} {Q : VK} (h1 : σ[r]? = some (some (.ref a))) (h2 : σ[u]? = some (some (.ref b))) (hj : j < 32) (e1 : ErrAt H a (Ca K j) fs) (e2 : ErrAt H b (Ca K j) gs)
    (q : ∀ p H', Same H H' → H' p = some (.lst [.int (j : Int), .int (j : Int)]) → Q (.ref p) H') : tKinds K r u σ H Q := by
  refine ⟨_, h1, a, j, fs, rfl, hj, e1, fun H1 s1 => ?_⟩
  refine ⟨_, h2, b, j, gs, rfl, hj, e2.same s1, fun H2 s2 => ?_⟩
  refine ⟨len_le 2 (by decide), fun p hp => ?_⟩
  exact q p _ ((s1.trans s2).trans (same_upd hp)) upd_same
theorem twice_of {tx : TE} {x : V} {Q : VK} (hx : ∀ (H : Hp) (Q : VK), Q x H → tx σ H Q) (q : ∀ p H', Same H H' → H' p = some (.lst [x, x]) → Q (.ref p) H') : tTwice tx σ H Q := by
  refine hx _ _ ⟨len_le 1 (by decide), fun p hp => ?_⟩
  refine ⟨p, 2, [x], rfl, rfl, upd_same, by omega, by omega, len_le 2 (by decide), fun p2 hp2 => ?_⟩
  exact q p2 _ ((same_upd hp).trans (same_upd hp2)) upd_same
theorem two_ints (j : Int) : SeqAt.shaped (.list [.int j, .int j]) = true ∧ PyData.eqv (.list [.int j, .int j]) (.list [.int j, .int j]) = true := by
  constructor
  · rfl
  · simp [PyData.eqv, PyData.eqvAll]
/-- [kind(red), kind(blue)] != [x] * 2 -/
def tNeK (K : PySem.W.Frag) (r u : Nat) (tx : TE) : TT := tTest (tOp (rNeD K) (tKinds K r u) (tTwice tx))
theorem neK_of {r u j : Nat} {a b : Addr} {fs gs : List (Str × V)} {tx : TE} {Q : Bool → Hp → Prop} (h1 : σ[r]? = some (some (.ref a))) (h2 : σ[u]? = some (some (.ref b))) (hj : j < 32) (e1 : ErrAt H a (Ca K j) fs) (e2 : ErrAt H b (Ca K j) gs)
    (hx : ∀ (H : Hp) (Q : VK), Q (.int (j : Int)) H → tx σ H Q) (q : ∀ H', Same H H' → Q false H') : tNeK K r u tx σ H Q := by
  refine testOp ?_
  refine kinds_of h1 h2 hj e1 e2 fun p H1 s1 hp => ?_
  refine twice_of hx fun p2 H2 s2 hp2 => ?_
  obtain ⟨z1, z2⟩ := two_ints (j : Int)
  refine ⟨.list [.int j, .int j], .list [.int j, .int j], .lst (SqL.of (s2 _ _ hp)) (.cons (.int _) (.cons (.int _) .nil)), .lst (SqL.of hp2) (.cons (.int _) (.cons (.int _) .nil)), z1, z1, ?_⟩
  rw [z2]
  exact ⟨_, rfl, q _ (s1.trans s2)⟩
def tEqK (K : PySem.W.Frag) (r u : Nat) (tx : TE) : TE := tOp (rEqD K) (tKinds K r u) (tTwice tx)
theorem eqK_of {r u j : Nat} {a b : Addr} {fs gs : List (Str × V)} {tx : TE} {Q : VK} (h1 : σ[r]? = some (some (.ref a))) (h2 : σ[u]? = some (some (.ref b))) (hj : j < 32) (e1 : ErrAt H a (Ca K j) fs) (e2 : ErrAt H b (Ca K j) gs)
    (hx : ∀ (H : Hp) (Q : VK), Q (.int (j : Int)) H → tx σ H Q) (q : ∀ H', Same H H' → Q (.bl true) H') : tEqK K r u tx σ H Q := by
  refine opOf ?_
  refine kinds_of h1 h2 hj e1 e2 fun p H1 s1 hp => ?_
  refine twice_of hx fun p2 H2 s2 hp2 => ?_
  obtain ⟨z1, z2⟩ := two_ints (j : Int)
  refine ⟨.list [.int j, .int j], .list [.int j, .int j], .lst (SqL.of (s2 _ _ hp)) (.cons (.int _) (.cons (.int _) .nil)), .lst (SqL.of hp2) (.cons (.int _) (.cons (.int _) .nil)), z1, z1, ?_⟩
  rw [z2]
  exact q _ (s1.trans s2)
/-- repr([red.f, blue.f]), repr([a] * 2) -/
def tReprF (K : PySem.W.Frag) (n : Str) (r u : Nat) : TE := tCB (rReprL K) (tCons (tLst (tCons (tErrF K n (tVar r)) (tCons (tErrF K n (tVar u)) tNil))) tNil)
def tReprA (K : PySem.W.Frag) (s : Nat) : TE := tCB (rReprL K) (tCons (tTwice (tVar s)) tNil)
def text2 (d : PyData) : Str := listText (PyData.shownAll [d, d])
theorem reprL_of {p : Addr} {v : V} {d : PyData} {Q : VK} (t : ThingAt K H v d) (hp : H p = some (.lst [v, v])) (q : Q (.str (text2 d)) H) : rReprL K [.ref p] H Q := by
  obtain ⟨t1, t2, t3⟩ := things2 d t.1
  exact ⟨p, [v, v], [d, d], rfl, by simp, SqL.of hp, .cons t.2 (.cons t.2 .nil), t1, t2, t3, q⟩
theorem reprF_of {n : Str} {r u j : Nat} {a b : Addr} {v : V} {d : PyData} {Q : VK} (T : Cls K mg) (h1 : σ[r]? = some (some (.ref a))) (h2 : σ[u]? = some (some (.ref b))) (hj : j < 32) (e1 : ErrAt H a (Ca K j) (f1 v j)) (e2 : ErrAt H b (Ca K j) (f1 v j)) (hn : fl j = n)
    (t : ThingAt K H v d) (q : ∀ H', Same H H' → Q (.str (text2 d)) H') : tReprF K n r u σ H Q := by
  have l : (f1 v j).lookup n = some v := by
    rw [← hn]
    simp [f1, List.lookup]
  have no : PySem.W.findIn K (.ref (Ca K j)) n = some none := by
    rw [← hn]
    exact (T.no j hj).1
  refine ⟨_, h1, a, Ca K j, _, v, rfl, e1, T.xf j hj, no, l, ?_⟩
  refine ⟨_, h2, b, Ca K j, _, v, rfl, e2, T.xf j hj, no, l, ?_⟩
  refine ⟨len_le 2 (by decide), fun p hp => ?_⟩
  exact reprL_of (t.same (same_upd hp)) upd_same (q _ (same_upd hp))
theorem reprA_of {s : Nat} {v : V} {d : PyData} {Q : VK} (h0 : σ[s]? = some (some v)) (t : ThingAt K H v d) (q : ∀ H', Same H H' → Q (.str (text2 d)) H') : tReprA K s σ H Q := by
  refine twice_of (x := v) (fun H Q h => ⟨v, h0, h⟩) fun p H1 s1 hp => ?_
  exact reprL_of (t.same s1) hp (q _ s1)
def tNeR (K : PySem.W.Frag) (n : Str) (r u s : Nat) : TT := tTest (tOp rNe (tReprF K n r u) (tReprA K s))
theorem neR_of {n : Str} {r u s j : Nat} {a b : Addr} {v : V} {d : PyData} {Q : Bool → Hp → Prop} (T : Cls K mg) (h1 : σ[r]? = some (some (.ref a))) (h2 : σ[u]? = some (some (.ref b))) (h0 : σ[s]? = some (some v)) (hj : j < 32) (e1 : ErrAt H a (Ca K j) (f1 v j)) (e2 : ErrAt H b (Ca K j) (f1 v j)) (hn : fl j = n)
    (t : ThingAt K H v d) (q : ∀ H', Same H H' → Q false H') : tNeR K n r u s σ H Q := by
  refine testOp ?_
  refine reprF_of T h1 h2 hj e1 e2 hn t fun H1 s1 => ?_
  refine reprA_of h0 (t.same s1) fun H2 s2 => ?_
  refine ⟨rfl, _, rfl, ?_⟩
  rw [decide_eq_true rfl]
  exact q _ (s1.trans s2)
def tEqR (K : PySem.W.Frag) (n : Str) (r u s : Nat) : TE := tOp rEq (tReprF K n r u) (tReprA K s)
theorem eqR_of {n : Str} {r u s j : Nat} {a b : Addr} {v : V} {d : PyData} {Q : VK} (T : Cls K mg) (h1 : σ[r]? = some (some (.ref a))) (h2 : σ[u]? = some (some (.ref b))) (h0 : σ[s]? = some (some v)) (hj : j < 32) (e1 : ErrAt H a (Ca K j) (f1 v j)) (e2 : ErrAt H b (Ca K j) (f1 v j)) (hn : fl j = n)
    (t : ThingAt K H v d) (q : ∀ H', Same H H' → Q (.bl true) H') : tEqR K n r u s σ H Q := by
  refine opOf ?_
  refine reprF_of T h1 h2 hj e1 e2 hn t fun H1 s1 => ?_
  refine reprA_of h0 (t.same s1) fun H2 s2 => ?_
  refine ⟨rfl, ?_⟩
  rw [decide_eq_true rfl]
  exact q _ (s1.trans s2)
/-- the turn's test -/
def tRowT (K : PySem.W.Frag) (n : Str) (r u c s : Nat) : TS := tIfS (tOr (tNeK K r u (tVar c)) (tNeR K n r u s)) (tRet (tC (.bl false))) tNext
theorem rowT_of {n : Str} {r u c s j : Nat} {a b : Addr} {v : V} {d : PyData} {D : Ends} (T : Cls K mg) (h1 : σ[r]? = some (some (.ref a))) (h2 : σ[u]? = some (some (.ref b))) (h3 : σ[c]? = some (some (.int (j : Int)))) (h0 : σ[s]? = some (some v)) (hj : j < 32) (e1 : ErrAt H a (Ca K j) (f1 v j)) (e2 : ErrAt H b (Ca K j) (f1 v j)) (hn : fl j = n)
    (t : ThingAt K H v d) (q : ∀ H', Same H H' → D.nx σ H') : tRowT K n r u c s D σ H := by
  refine neK_of h1 h2 hj e1 e2 (fun H Q h => ⟨_, h3, h⟩) fun H1 s1 => ?_
  refine neR_of T h1 h2 h0 hj (e1.same s1) (e2.same s1) hn (t.same s1) fun H2 s2 => ?_
  exact q _ (s1.trans s2)
/-- the loop -/
def tLoop (K : PySem.W.Frag) (n : Str) : TS := tFor (iList K (tVar 1)) (gUnl K 3 (gCons (gName 2) (gCons (gName 3) (gCons (gName 4) gNil)))) (tRowT K n 2 3 4 0)
theorem loop_of {n : Str} {v : V} {d : PyData} {l : Addr} {js : List Nat} {D : Ends} (T : Cls K mg) (h5 : σ.length = 5) (h0 : σ[0]? = some (some v)) (h1 : σ[1]? = some (some (.ref l))) (hr : RowsAt K H l (f1 v) js) (hn : ∀ j ∈ js, fl j = n) (t : ThingAt K H v d)
    (q : ∀ σ' H', σ'.length = 5 → σ'[0]? = some (some v) → Same H H' → D.nx σ' H') : tLoop K n D σ H := by
  obtain ⟨vs, hl, hrow, hz⟩ := hr
  refine ⟨_, h1, l, rfl, ⟨_, SqL.of hl⟩, ?_⟩
  refine for_list (K := K) (a := l) (xs := vs) (fun i σ' H' => σ'.length = 5 ∧ σ'[0]? = some (some v) ∧ Same H H') ⟨h5, h0, Same.refl _⟩ ?_ ?_ ?_
  · rintro i σ' H' _ ⟨_, _, s⟩
    exact SqL.of (s _ _ hl)
  · rintro i x σ' H' hx ⟨g5, g0, s⟩
    obtain ⟨j, hj, hj32, hrow1⟩ := RowsIn.at hrow hx
    obtain ⟨p, a, b, rfl, hp, e1, e2⟩ := hrow1.same s
    refine ⟨p, _, rfl, SqL.of hp, rfl, ?_⟩
    refine ⟨_, _, rfl, _, _, rfl, _, _, rfl, rfl, ?_⟩
    have k5 : (((σ'.set 2 (some (.ref a))).set 3 (some (.ref b))).set 4 (some (.int (j : Int)))).length = 5 := by simp [g5]
    have k0 : (((σ'.set 2 (some (.ref a))).set 3 (some (.ref b))).set 4 (some (.int (j : Int))))[0]? = some (some v) := by
      rw [List.getElem?_set_ne (by decide), List.getElem?_set_ne (by decide), List.getElem?_set_ne (by decide)]; exact g0
    have k2 : (((σ'.set 2 (some (.ref a))).set 3 (some (.ref b))).set 4 (some (.int (j : Int))))[2]? = some (some (.ref a)) := by
      rw [List.getElem?_set_ne (by decide), List.getElem?_set_ne (by decide), List.getElem?_set_self (by omega)]
    have k3 : (((σ'.set 2 (some (.ref a))).set 3 (some (.ref b))).set 4 (some (.int (j : Int))))[3]? = some (some (.ref b)) := by
      rw [List.getElem?_set_ne (by decide), List.getElem?_set_self (by simp [g5])]
    have k4 : (((σ'.set 2 (some (.ref a))).set 3 (some (.ref b))).set 4 (some (.int (j : Int))))[4]? = some (some (.int (j : Int))) := by
      rw [List.getElem?_set_self (by simp [g5])]
    exact rowT_of T k2 k3 k4 k0 hj32 e1 e2 (hn j hj) (t.same s) fun H2 s2 => ⟨k5, k0, s.trans s2⟩
  · rintro σ' H' ⟨g5, g0, s⟩
    exact q σ' H' g5 g0 s
/-- some.append(row), then what follows -/
def tApp (K : PySem.W.Frag) (s t j : Nat) : TS := tDrop (tBM K "list" rAppend (tVar t) (tCons (tRow1 K s j) tNil))
theorem app_of {s t j : Nat} {v : V} {l : Addr} {js : List Nat} {D : Ends} {H0 : Hp} (s0 : Same H0 H) (n0 : H0 l = none) (h0 : σ[s]? = some (some v)) (h1 : σ[t]? = some (some (.ref l))) (hj : j < 32) (hr : RowsAt K H l (f1 v) js) (hz : js.length ≤ 40)
    (q : ∀ H', Same H0 H' → RowsAt K H' l (f1 v) (js ++ [j]) → D.nx σ H') : tApp K s t j D σ H := by
  obtain ⟨vs, hl, hrow, _⟩ := hr
  have e := Rows_len hrow
  refine ⟨_, h1, .inl ⟨rfl, _, SqL.of hl⟩, v, h0, fun w H1 s1 hw => ?_⟩
  have hl1 := s1 _ _ hl
  have refs := hrow.refs
  refine ⟨l, vs, w, rfl, rfl, hl1, by rw [sizeLine_eq]; omega, ?_⟩
  have sx : SameX l H1 (upd H1 l (.lst (vs ++ [w]))) := SameX.upd fun _ _ _ z => z
  refine q _ (SameX.new n0 (s0.trans s1) sx) ⟨vs ++ [w], upd_same, ((hrow.same s1).sameX hl1 refs sx).append (.cons ⟨hj, hw.sameX hl1 refs sx⟩ .nil), ?_⟩
  rw [List.length_append, e]
  show js.length + 1 ≤ 100
  omega
end
end K2
set_option maxRecDepth 100000
set_option maxHeartbeats 2000000
/-! The classes with one field. -/
namespace K2
open PySem PySem.Spec PyProof.Rows L2 GX
abbrev NV : List Str := ["_law_a", "_law_some", "_law_red", "_law_blue", "_law_kind_here"]
/-- called with one of the eleven values it returns True -/
def spVal (K : PySem.W.Frag) : Sp := fun vs H Q _ => ∃ v d, vs = [v] ∧ ThingAt K H v d ∧ ∀ H', Same H H' → Q (.bl true) H'
section
variable {K : PySem.W.Frag} {mg : Str → Option Value} {σ : L2.St} {H H0 : Hp} {D : Ends} {rest : TS} {v : V}
theorem step_two {j1 j2 : Nat} (s : Same H0 H) (h5 : σ.length = 5) (h0 : σ[0]? = some (some v)) (b1 : j1 < 32) (b2 : j2 < 32)
    (k : ∀ (σ' : L2.St) (H' : Hp) (l : Addr), Same H0 H' → H0 l = none → σ'.length = 5 → σ'[0]? = some (some v) → σ'[1]? = some (some (.ref l)) → RowsAt K H' l (f1 v) [j1, j2] → rest D σ' H') : tSeq (tAsg (tRows2 K 0 j1 j2) (gName 1)) rest D σ H := by
  refine ⟨b1, b2, v, h0, fun l H' n s1 hr => ?_⟩
  exact k _ H' l (s.trans s1) (s.free n) (by rw [List.length_set]; exact h5) ((List.getElem?_set_ne (by decide)).trans h0) (List.getElem?_set_self (by omega)) hr
theorem step_more2 {j1 j2 : Nat} {l : Addr} {js : List Nat} (s : Same H0 H) (h5 : σ.length = 5) (h0 : σ[0]? = some (some v)) (h1 : σ[1]? = some (some (.ref l))) (b1 : j1 < 32) (b2 : j2 < 32) (hr : RowsAt K H l (f1 v) js) (hz : js.length ≤ 40)
    (k : ∀ (σ' : L2.St) (H' : Hp) (l' : Addr), Same H0 H' → H0 l' = none → σ'.length = 5 → σ'[0]? = some (some v) → σ'[1]? = some (some (.ref l')) → RowsAt K H' l' (f1 v) (js ++ [j1, j2]) → rest D σ' H') : tSeq (tAsg (tRowsM K 0 1 j1 j2) (gName 1)) rest D σ H := by
  refine ⟨b1, b2, v, l, js, h0, h1, hr, hz, fun l' H' n s1 hr' => ?_⟩
  exact k _ H' l' (s.trans s1) (s.free n) (by rw [List.length_set]; exact h5) ((List.getElem?_set_ne (by decide)).trans h0) (List.getElem?_set_self (by omega)) hr'
end
theorem sc_by_value : FnScope NV ["_law_a"] (defScope (top 53)) := ⟨rfl, rfl, rfl, by decide +kernel, rfl, by decide +kernel, by decide +kernel⟩
def t_by_value (K : PySem.W.Frag) : TS :=
  (tSeq (tAsg (tRows2 K 0 0 1) (gName 1))
  (tSeq (tAsg (tRowsM K 0 1 2 4) (gName 1))
  (tSeq (tAsg (tRowsM K 0 1 7 8) (gName 1))
  (tSeq (tAsg (tRowsM K 0 1 9 10) (gName 1))
  (tSeq (tAsg (tRowsM K 0 1 11 12) (gName 1))
  (tSeq (tAsg (tRowsM K 0 1 13 14) (gName 1))
  (tSeq (tApp K 0 1 19)
  (tSeq (tLoop K "value")
  (tRet (tC (.bl true)))))))))))
theorem pure_by_value {K : PySem.W.Frag} {mg : Str → Option Value} (T : Cls K mg) (vs : List V) (H : Hp) (Q : VK) (E : XK) (h : spVal K vs H Q E) : t_by_value K { nx := fun _ H' => Q .non H', rt := Q } (start NV vs) H := by
  obtain ⟨v, d, rfl, t, q⟩ := h
  refine step_two (H0 := H) (Same.refl _) rfl rfl (by decide) (by decide) fun σ H1 l s0 n0 h5 h0 h1 hr => ?_
  refine step_more2 s0 h5 h0 h1 (by decide) (by decide) hr (by simp) fun σ H1 l s0 n0 h5 h0 h1 hr => ?_
  refine step_more2 s0 h5 h0 h1 (by decide) (by decide) hr (by simp) fun σ H1 l s0 n0 h5 h0 h1 hr => ?_
  refine step_more2 s0 h5 h0 h1 (by decide) (by decide) hr (by simp) fun σ H1 l s0 n0 h5 h0 h1 hr => ?_
  refine step_more2 s0 h5 h0 h1 (by decide) (by decide) hr (by simp) fun σ H1 l s0 n0 h5 h0 h1 hr => ?_
  refine step_more2 s0 h5 h0 h1 (by decide) (by decide) hr (by simp) fun σ H1 l s0 n0 h5 h0 h1 hr => ?_
  refine app_of s0 n0 h0 h1 (by decide) hr (by simp) fun H1 s0 hr => ?_
  refine loop_of T h5 h0 h1 hr (by decide +kernel) (t.same s0) fun σ H2 h5 h0 s1 => ?_
  exact q _ (s0.trans s1)
section
variable {P : Program} {w : World} {K : PySem.W.Frag} {mg : Str → Option Value} {base : Heap} {f fK : Addr} {fd fdK : FuncData}
theorem ok_by_value (F : FunD K "_law_by_value" "_law_by_value" (defArgs (top 53)) (defBody (top 53)) (defScope (top 53)) [] [] f fd) (T : Cls K mg)
    (GK : FnG P w K mg base 1 fK fdK ["_law_e"] (spKind K)) (gK : mg "_law_kind" = some (.ref fK)) (kK : PySem.W.keepIn K (.ref fK) = true) (bK : Binds K fdK ["_law_e"] []) :
    FnG P w K mg base 2 f fd ["_law_a"] (spVal K) := by
  refine okG F sc_by_value (fun vs H Q E h => ?_) (fun cdv A outer s H vs Q E hG hR h => ⟨t_by_value K, ?_, pure_by_value T vs H Q E h⟩)
  · obtain ⟨v, d, rfl, _⟩ := h
    rfl
  · have hR1 := hR
    exact (pss_cons (ps_set (i := 1) sc_by_value.nd rfl (Or.inl rfl) (PE.imp (pe_lst (pa_cons (PE.imp (pe_lst (pa_cons (pe_err (T.one 0 (by decide)) hR1 rfl (pv 0)) (pa_cons (pe_errK (T.one 0 (by decide)) hR1 rfl (pv 0)) (pa_cons pe_int pa_nil)))) toRow1) (pa_cons (PE.imp (pe_lst (pa_cons (pe_err (T.one 1 (by decide)) hR1 rfl (pv 0)) (pa_cons (pe_errK (T.one 1 (by decide)) hR1 rfl (pv 0)) (pa_cons pe_int pa_nil)))) toRow1) pa_nil))) toRows2))
      (pss_cons (ps_set (i := 1) sc_by_value.nd rfl (Or.inl rfl) (PE.imp (pe_op op_cat (pv 1) (PE.imp (pe_lst (pa_cons (PE.imp (pe_lst (pa_cons (pe_err (T.one 2 (by decide)) hR1 rfl (pv 0)) (pa_cons (pe_errK (T.one 2 (by decide)) hR1 rfl (pv 0)) (pa_cons pe_int pa_nil)))) toRow1) (pa_cons (PE.imp (pe_lst (pa_cons (pe_err (T.one 4 (by decide)) hR1 rfl (pv 0)) (pa_cons (pe_errK (T.one 4 (by decide)) hR1 rfl (pv 0)) (pa_cons pe_int pa_nil)))) toRow1) pa_nil))) toRows2)) toRowsM))
      (pss_cons (ps_set (i := 1) sc_by_value.nd rfl (Or.inl rfl) (PE.imp (pe_op op_cat (pv 1) (PE.imp (pe_lst (pa_cons (PE.imp (pe_lst (pa_cons (pe_err (T.one 7 (by decide)) hR1 rfl (pv 0)) (pa_cons (pe_errK (T.one 7 (by decide)) hR1 rfl (pv 0)) (pa_cons pe_int pa_nil)))) toRow1) (pa_cons (PE.imp (pe_lst (pa_cons (pe_err (T.one 8 (by decide)) hR1 rfl (pv 0)) (pa_cons (pe_errK (T.one 8 (by decide)) hR1 rfl (pv 0)) (pa_cons pe_int pa_nil)))) toRow1) pa_nil))) toRows2)) toRowsM))
      (pss_cons (ps_set (i := 1) sc_by_value.nd rfl (Or.inl rfl) (PE.imp (pe_op op_cat (pv 1) (PE.imp (pe_lst (pa_cons (PE.imp (pe_lst (pa_cons (pe_err (T.one 9 (by decide)) hR1 rfl (pv 0)) (pa_cons (pe_errK (T.one 9 (by decide)) hR1 rfl (pv 0)) (pa_cons pe_int pa_nil)))) toRow1) (pa_cons (PE.imp (pe_lst (pa_cons (pe_err (T.one 10 (by decide)) hR1 rfl (pv 0)) (pa_cons (pe_errK (T.one 10 (by decide)) hR1 rfl (pv 0)) (pa_cons pe_int pa_nil)))) toRow1) pa_nil))) toRows2)) toRowsM))
      (pss_cons (ps_set (i := 1) sc_by_value.nd rfl (Or.inl rfl) (PE.imp (pe_op op_cat (pv 1) (PE.imp (pe_lst (pa_cons (PE.imp (pe_lst (pa_cons (pe_err (T.one 11 (by decide)) hR1 rfl (pv 0)) (pa_cons (pe_errK (T.one 11 (by decide)) hR1 rfl (pv 0)) (pa_cons pe_int pa_nil)))) toRow1) (pa_cons (PE.imp (pe_lst (pa_cons (pe_err (T.one 12 (by decide)) hR1 rfl (pv 0)) (pa_cons (pe_errK (T.one 12 (by decide)) hR1 rfl (pv 0)) (pa_cons pe_int pa_nil)))) toRow1) pa_nil))) toRows2)) toRowsM))
      (pss_cons (ps_set (i := 1) sc_by_value.nd rfl (Or.inl rfl) (PE.imp (pe_op op_cat (pv 1) (PE.imp (pe_lst (pa_cons (PE.imp (pe_lst (pa_cons (pe_err (T.one 13 (by decide)) hR1 rfl (pv 0)) (pa_cons (pe_errK (T.one 13 (by decide)) hR1 rfl (pv 0)) (pa_cons pe_int pa_nil)))) toRow1) (pa_cons (PE.imp (pe_lst (pa_cons (pe_err (T.one 14 (by decide)) hR1 rfl (pv 0)) (pa_cons (pe_errK (T.one 14 (by decide)) hR1 rfl (pv 0)) (pa_cons pe_int pa_nil)))) toRow1) pa_nil))) toRows2)) toRowsM))
      (pss_cons (ps_expr (pe_bm PySem.F.plainAttrs_list PySem.F.slot_list_append PySem.F.type_list_append mt_append (pv 1) (pa_cons (PE.imp (pe_lst (pa_cons (pe_err (T.one 19 (by decide)) hR1 rfl (pv 0)) (pa_cons (pe_errK (T.one 19 (by decide)) hR1 rfl (pv 0)) (pa_cons pe_int pa_nil)))) toRow1) pa_nil)))
      (pss_cons (ps_for PassesOwn.never rfl (pi_list (pv 1)) (pg_unl rfl (pgs_cons (pg_name (i := 2) sc_by_value.nd rfl (Or.inl rfl)) (pgs_cons (pg_name (i := 3) sc_by_value.nd rfl (Or.inl rfl)) (pgs_cons (pg_name (i := 4) sc_by_value.nd rfl (Or.inl rfl)) pgs_nil)))) (pss_one (ps_if (PW.pt (pw_or (pt_cmpR (op_neD hR.units) (pe_lst (pa_cons (pe_callG GK hG hR1 rfl gK kK bK (pa_cons (pv 2) pa_nil)) (pa_cons (pe_callG GK hG hR1 rfl gK kK bK (pa_cons (pv 3) pa_nil)) pa_nil))) (pe_op op_rep (pe_lst (pa_cons (pv 4) pa_nil)) pe_int) (nomark _)) (pw_or1 (pt_cmpR op_ne (pe_callB (call_reprL hG hR.units) rfl (T.free "repr" (by decide)) (by decide +kernel) (pa_cons (pe_lst (pa_cons (pe_errF (pv 2)) (pa_cons (pe_errF (pv 3)) pa_nil))) pa_nil)) (pe_callB (call_reprL hG hR.units) rfl (T.free "repr" (by decide)) (by decide +kernel) (pa_cons (pe_op op_rep (pe_lst (pa_cons (pv 0) pa_nil)) pe_int) pa_nil)) (nomark _))))) (pss_one (ps_ret pe_bl)) pss_nil)))
      (pss_one (ps_ret pe_bl))))))))))
end
theorem sc_by_limit : FnScope NV ["_law_a"] (defScope (top 56)) := ⟨rfl, rfl, rfl, by decide +kernel, rfl, by decide +kernel, by decide +kernel⟩
def t_by_limit (K : PySem.W.Frag) : TS :=
  (tSeq (tAsg (tRows2 K 0 27 28) (gName 1))
  (tSeq (tAsg (tRowsM K 0 1 29 30) (gName 1))
  (tSeq (tApp K 0 1 31)
  (tSeq (tLoop K "limit")
  (tRet (tC (.bl true)))))))
theorem pure_by_limit {K : PySem.W.Frag} {mg : Str → Option Value} (T : Cls K mg) (vs : List V) (H : Hp) (Q : VK) (E : XK) (h : spVal K vs H Q E) : t_by_limit K { nx := fun _ H' => Q .non H', rt := Q } (start NV vs) H := by
  obtain ⟨v, d, rfl, t, q⟩ := h
  refine step_two (H0 := H) (Same.refl _) rfl rfl (by decide) (by decide) fun σ H1 l s0 n0 h5 h0 h1 hr => ?_
  refine step_more2 s0 h5 h0 h1 (by decide) (by decide) hr (by simp) fun σ H1 l s0 n0 h5 h0 h1 hr => ?_
  refine app_of s0 n0 h0 h1 (by decide) hr (by simp) fun H1 s0 hr => ?_
  refine loop_of T h5 h0 h1 hr (by decide +kernel) (t.same s0) fun σ H2 h5 h0 s1 => ?_
  exact q _ (s0.trans s1)
section
variable {P : Program} {w : World} {K : PySem.W.Frag} {mg : Str → Option Value} {base : Heap} {f fK : Addr} {fd fdK : FuncData}
theorem ok_by_limit (F : FunD K "_law_by_limit" "_law_by_limit" (defArgs (top 56)) (defBody (top 56)) (defScope (top 56)) [] [] f fd) (T : Cls K mg)
    (GK : FnG P w K mg base 1 fK fdK ["_law_e"] (spKind K)) (gK : mg "_law_kind" = some (.ref fK)) (kK : PySem.W.keepIn K (.ref fK) = true) (bK : Binds K fdK ["_law_e"] []) :
    FnG P w K mg base 2 f fd ["_law_a"] (spVal K) := by
  refine okG F sc_by_limit (fun vs H Q E h => ?_) (fun cdv A outer s H vs Q E hG hR h => ⟨t_by_limit K, ?_, pure_by_limit T vs H Q E h⟩)
  · obtain ⟨v, d, rfl, _⟩ := h
    rfl
  · have hR1 := hR
    exact (pss_cons (ps_set (i := 1) sc_by_limit.nd rfl (Or.inl rfl) (PE.imp (pe_lst (pa_cons (PE.imp (pe_lst (pa_cons (pe_err (T.one 27 (by decide)) hR1 rfl (pv 0)) (pa_cons (pe_errK (T.one 27 (by decide)) hR1 rfl (pv 0)) (pa_cons pe_int pa_nil)))) toRow1) (pa_cons (PE.imp (pe_lst (pa_cons (pe_err (T.one 28 (by decide)) hR1 rfl (pv 0)) (pa_cons (pe_errK (T.one 28 (by decide)) hR1 rfl (pv 0)) (pa_cons pe_int pa_nil)))) toRow1) pa_nil))) toRows2))
      (pss_cons (ps_set (i := 1) sc_by_limit.nd rfl (Or.inl rfl) (PE.imp (pe_op op_cat (pv 1) (PE.imp (pe_lst (pa_cons (PE.imp (pe_lst (pa_cons (pe_err (T.one 29 (by decide)) hR1 rfl (pv 0)) (pa_cons (pe_errK (T.one 29 (by decide)) hR1 rfl (pv 0)) (pa_cons pe_int pa_nil)))) toRow1) (pa_cons (PE.imp (pe_lst (pa_cons (pe_err (T.one 30 (by decide)) hR1 rfl (pv 0)) (pa_cons (pe_errK (T.one 30 (by decide)) hR1 rfl (pv 0)) (pa_cons pe_int pa_nil)))) toRow1) pa_nil))) toRows2)) toRowsM))
      (pss_cons (ps_expr (pe_bm PySem.F.plainAttrs_list PySem.F.slot_list_append PySem.F.type_list_append mt_append (pv 1) (pa_cons (PE.imp (pe_lst (pa_cons (pe_err (T.one 31 (by decide)) hR1 rfl (pv 0)) (pa_cons (pe_errK (T.one 31 (by decide)) hR1 rfl (pv 0)) (pa_cons pe_int pa_nil)))) toRow1) pa_nil)))
      (pss_cons (ps_for PassesOwn.never rfl (pi_list (pv 1)) (pg_unl rfl (pgs_cons (pg_name (i := 2) sc_by_limit.nd rfl (Or.inl rfl)) (pgs_cons (pg_name (i := 3) sc_by_limit.nd rfl (Or.inl rfl)) (pgs_cons (pg_name (i := 4) sc_by_limit.nd rfl (Or.inl rfl)) pgs_nil)))) (pss_one (ps_if (PW.pt (pw_or (pt_cmpR (op_neD hR.units) (pe_lst (pa_cons (pe_callG GK hG hR1 rfl gK kK bK (pa_cons (pv 2) pa_nil)) (pa_cons (pe_callG GK hG hR1 rfl gK kK bK (pa_cons (pv 3) pa_nil)) pa_nil))) (pe_op op_rep (pe_lst (pa_cons (pv 4) pa_nil)) pe_int) (nomark _)) (pw_or1 (pt_cmpR op_ne (pe_callB (call_reprL hG hR.units) rfl (T.free "repr" (by decide)) (by decide +kernel) (pa_cons (pe_lst (pa_cons (pe_errF (pv 2)) (pa_cons (pe_errF (pv 3)) pa_nil))) pa_nil)) (pe_callB (call_reprL hG hR.units) rfl (T.free "repr" (by decide)) (by decide +kernel) (pa_cons (pe_op op_rep (pe_lst (pa_cons (pv 0) pa_nil)) pe_int) pa_nil)) (nomark _))))) (pss_one (ps_ret pe_bl)) pss_nil)))
      (pss_one (ps_ret pe_bl))))))
end
theorem sc_by_index : FnScope NV ["_law_a"] (defScope (top 54)) := ⟨rfl, rfl, rfl, by decide +kernel, rfl, by decide +kernel, by decide +kernel⟩
def t_by_index (K : PySem.W.Frag) : TS :=
  (tSeq (tAsg (tRows2 K 0 3 5) (gName 1))
  (tSeq (tAsg (tRowsM K 0 1 6 15) (gName 1))
  (tSeq (tApp K 0 1 17)
  (tSeq (tLoop K "index")
  (tSeq (tPar 2 3 (tCons (tErr (Ca K 16) (fl 16) (tVar 0)) (tCons (tErr (Ca K 16) (fl 16) (tVar 0)) tNil)))
  (tSeq (tIfS (tOr (tNeK K 2 3 (tC (.int ((16 : Nat) : Int)))) (tNeR K "line" 2 3 0)) (tRet (tC (.bl false))) tNext)
  (tSeq (tPar 2 3 (tCons (tErr (Ca K 18) (fl 18) (tVar 0)) (tCons (tErr (Ca K 18) (fl 18) (tVar 0)) tNil)))
  (tRet (tAndV (tEqK K 2 3 (tC (.int ((18 : Nat) : Int)))) (tEqR K "command" 2 3 0))))))))))
theorem pure_by_index {K : PySem.W.Frag} {mg : Str → Option Value} (T : Cls K mg) (vs : List V) (H : Hp) (Q : VK) (E : XK) (h : spVal K vs H Q E) : t_by_index K { nx := fun _ H' => Q .non H', rt := Q } (start NV vs) H := by
  obtain ⟨v, d, rfl, t, q⟩ := h
  refine step_two (H0 := H) (Same.refl _) rfl rfl (by decide) (by decide) fun σ H1 l s0 n0 h5 h0 h1 hr => ?_
  refine step_more2 s0 h5 h0 h1 (by decide) (by decide) hr (by simp) fun σ H1 l s0 n0 h5 h0 h1 hr => ?_
  refine app_of s0 n0 h0 h1 (by decide) hr (by simp) fun H1 s0 hr => ?_
  refine loop_of T h5 h0 h1 hr (by decide +kernel) (t.same s0) fun σ H2 h5 h0 s1 => ?_
  have t := t.same (s0.trans s1)
  refine ⟨v, h0, fun a K1 s2 e1 => ⟨v, h0, fun b K2 s3 e2 => ⟨_, _, rfl, ?_⟩⟩⟩
  have h2 : ((σ.set 2 (some (V.ref a))).set 3 (some (V.ref b)))[2]? = some (some (.ref a)) := by rw [List.getElem?_set_ne (by decide), List.getElem?_set_self (by omega)]
  have h3 : ((σ.set 2 (some (V.ref a))).set 3 (some (V.ref b)))[3]? = some (some (.ref b)) := by rw [List.getElem?_set_self (by simp [h5])]
  have h0' : ((σ.set 2 (some (V.ref a))).set 3 (some (V.ref b)))[0]? = some (some v) := by rw [List.getElem?_set_ne (by decide), List.getElem?_set_ne (by decide)]; exact h0
  have h5' : ((σ.set 2 (some (V.ref a))).set 3 (some (V.ref b))).length = 5 := by simp [h5]
  refine neK_of (j := 16) h2 h3 (by decide) (e1.same s3) e2 (fun H Q h => h) fun K3 s4 => ?_
  refine neR_of (j := 16) T h2 h3 h0' (by decide) ((e1.same s3).same s4) (e2.same s4) (by decide +kernel) (((t.same s2).same s3).same s4) fun K4 s5 => ?_
  have s6 := (((s0.trans s1).trans s2).trans s3).trans (s4.trans s5)
  have t := (((t.same s2).same s3).same s4).same s5
  rw [if_neg Bool.false_ne_true]
  show tSeq _ _ _ ((σ.set 2 (some (V.ref a))).set 3 (some (V.ref b))) K4
  clear e1 e2 h2 h3 h0 h5
  generalize (σ.set 2 (some (V.ref a))).set 3 (some (V.ref b)) = σ at h0' h5' ⊢
  refine ⟨v, h0', fun a K1 s2 e1 => ⟨v, h0', fun b K2 s3 e2 => ⟨_, _, rfl, ?_⟩⟩⟩
  have h2 : ((σ.set 2 (some (V.ref a))).set 3 (some (V.ref b)))[2]? = some (some (.ref a)) := by rw [List.getElem?_set_ne (by decide), List.getElem?_set_self (by omega)]
  have h3 : ((σ.set 2 (some (V.ref a))).set 3 (some (V.ref b)))[3]? = some (some (.ref b)) := by rw [List.getElem?_set_self (by simp [h5'])]
  have h0 : ((σ.set 2 (some (V.ref a))).set 3 (some (V.ref b)))[0]? = some (some v) := by rw [List.getElem?_set_ne (by decide), List.getElem?_set_ne (by decide)]; exact h0'
  refine eqK_of (j := 18) h2 h3 (by decide) (e1.same s3) e2 (fun H Q h => h) fun K3 s4 => ⟨true, rfl, iteT ?_⟩
  refine eqR_of (j := 18) T h2 h3 h0 (by decide) ((e1.same s3).same s4) (e2.same s4) (by decide +kernel) (((t.same s2).same s3).same s4) fun K4 s5 => ?_
  exact q _ ((s6.trans s2).trans (s3.trans (s4.trans s5)))
section
variable {P : Program} {w : World} {K : PySem.W.Frag} {mg : Str → Option Value} {base : Heap} {f fK : Addr} {fd fdK : FuncData}
theorem ok_by_index (F : FunD K "_law_by_index" "_law_by_index" (defArgs (top 54)) (defBody (top 54)) (defScope (top 54)) [] [] f fd) (T : Cls K mg)
    (GK : FnG P w K mg base 1 fK fdK ["_law_e"] (spKind K)) (gK : mg "_law_kind" = some (.ref fK)) (kK : PySem.W.keepIn K (.ref fK) = true) (bK : Binds K fdK ["_law_e"] []) :
    FnG P w K mg base 2 f fd ["_law_a"] (spVal K) := by
  refine okG F sc_by_index (fun vs H Q E h => ?_) (fun cdv A outer s H vs Q E hG hR h => ⟨t_by_index K, ?_, pure_by_index T vs H Q E h⟩)
  · obtain ⟨v, d, rfl, _⟩ := h
    rfl
  · have hR1 := hR
    exact (pss_cons (ps_set (i := 1) sc_by_index.nd rfl (Or.inl rfl) (PE.imp (pe_lst (pa_cons (PE.imp (pe_lst (pa_cons (pe_err (T.one 3 (by decide)) hR1 rfl (pv 0)) (pa_cons (pe_errK (T.one 3 (by decide)) hR1 rfl (pv 0)) (pa_cons pe_int pa_nil)))) toRow1) (pa_cons (PE.imp (pe_lst (pa_cons (pe_err (T.one 5 (by decide)) hR1 rfl (pv 0)) (pa_cons (pe_errK (T.one 5 (by decide)) hR1 rfl (pv 0)) (pa_cons pe_int pa_nil)))) toRow1) pa_nil))) toRows2))
      (pss_cons (ps_set (i := 1) sc_by_index.nd rfl (Or.inl rfl) (PE.imp (pe_op op_cat (pv 1) (PE.imp (pe_lst (pa_cons (PE.imp (pe_lst (pa_cons (pe_err (T.one 6 (by decide)) hR1 rfl (pv 0)) (pa_cons (pe_errK (T.one 6 (by decide)) hR1 rfl (pv 0)) (pa_cons pe_int pa_nil)))) toRow1) (pa_cons (PE.imp (pe_lst (pa_cons (pe_err (T.one 15 (by decide)) hR1 rfl (pv 0)) (pa_cons (pe_errK (T.one 15 (by decide)) hR1 rfl (pv 0)) (pa_cons pe_int pa_nil)))) toRow1) pa_nil))) toRows2)) toRowsM))
      (pss_cons (ps_expr (pe_bm PySem.F.plainAttrs_list PySem.F.slot_list_append PySem.F.type_list_append mt_append (pv 1) (pa_cons (PE.imp (pe_lst (pa_cons (pe_err (T.one 17 (by decide)) hR1 rfl (pv 0)) (pa_cons (pe_errK (T.one 17 (by decide)) hR1 rfl (pv 0)) (pa_cons pe_int pa_nil)))) toRow1) pa_nil)))
      (pss_cons (ps_for PassesOwn.never rfl (pi_list (pv 1)) (pg_unl rfl (pgs_cons (pg_name (i := 2) sc_by_index.nd rfl (Or.inl rfl)) (pgs_cons (pg_name (i := 3) sc_by_index.nd rfl (Or.inl rfl)) (pgs_cons (pg_name (i := 4) sc_by_index.nd rfl (Or.inl rfl)) pgs_nil)))) (pss_one (ps_if (PW.pt (pw_or (pt_cmpR (op_neD hR.units) (pe_lst (pa_cons (pe_callG GK hG hR1 rfl gK kK bK (pa_cons (pv 2) pa_nil)) (pa_cons (pe_callG GK hG hR1 rfl gK kK bK (pa_cons (pv 3) pa_nil)) pa_nil))) (pe_op op_rep (pe_lst (pa_cons (pv 4) pa_nil)) pe_int) (nomark _)) (pw_or1 (pt_cmpR op_ne (pe_callB (call_reprL hG hR.units) rfl (T.free "repr" (by decide)) (by decide +kernel) (pa_cons (pe_lst (pa_cons (pe_errF (pv 2)) (pa_cons (pe_errF (pv 3)) pa_nil))) pa_nil)) (pe_callB (call_reprL hG hR.units) rfl (T.free "repr" (by decide)) (by decide +kernel) (pa_cons (pe_op op_rep (pe_lst (pa_cons (pv 0) pa_nil)) pe_int) pa_nil)) (nomark _))))) (pss_one (ps_ret pe_bl)) pss_nil)))
      (pss_cons (ps_par (i := 2) (j := 3) rfl sc_by_index.nd rfl rfl (by decide) rfl rfl (pa_cons (pe_err (T.one 16 (by decide)) hR1 rfl (pv 0)) (pa_cons (pe_errK (T.one 16 (by decide)) hR1 rfl (pv 0)) pa_nil)) (by rfl))
      (pss_cons (ps_if (PW.pt (pw_or (pt_cmpR (op_neD hR.units) (pe_lst (pa_cons (pe_callG GK hG hR1 rfl gK kK bK (pa_cons (pv 2) pa_nil)) (pa_cons (pe_callG GK hG hR1 rfl gK kK bK (pa_cons (pv 3) pa_nil)) pa_nil))) (pe_op op_rep (pe_lst (pa_cons pe_int pa_nil)) pe_int) (nomark _)) (pw_or1 (pt_cmpR op_ne (pe_callB (call_reprL hG hR.units) rfl (T.free "repr" (by decide)) (by decide +kernel) (pa_cons (pe_lst (pa_cons (pe_errF (pv 2)) (pa_cons (pe_errF (pv 3)) pa_nil))) pa_nil)) (pe_callB (call_reprL hG hR.units) rfl (T.free "repr" (by decide)) (by decide +kernel) (pa_cons (pe_op op_rep (pe_lst (pa_cons (pv 0) pa_nil)) pe_int) pa_nil)) (nomark _))))) (pss_one (ps_ret pe_bl)) pss_nil)
      (pss_cons (ps_par (i := 2) (j := 3) rfl sc_by_index.nd rfl rfl (by decide) rfl rfl (pa_cons (pe_err (T.one 18 (by decide)) hR1 rfl (pv 0)) (pa_cons (pe_errK (T.one 18 (by decide)) hR1 rfl (pv 0)) pa_nil)) (by rfl))
      (pss_one (ps_ret (pe_and (pe_cmpR (op_eqD hR.units) (pe_lst (pa_cons (pe_callG GK hG hR1 rfl gK kK bK (pa_cons (pv 2) pa_nil)) (pa_cons (pe_callG GK hG hR1 rfl gK kK bK (pa_cons (pv 3) pa_nil)) pa_nil))) (pe_op op_rep (pe_lst (pa_cons pe_int pa_nil)) pe_int) (nomark _)) (pe_one (pe_cmpR op_eq (pe_callB (call_reprL hG hR.units) rfl (T.free "repr" (by decide)) (by decide +kernel) (pa_cons (pe_lst (pa_cons (pe_errF (pv 2)) (pa_cons (pe_errF (pv 3)) pa_nil))) pa_nil)) (pe_callB (call_reprL hG hR.units) rfl (T.free "repr" (by decide)) (by decide +kernel) (pa_cons (pe_op op_rep (pe_lst (pa_cons (pv 0) pa_nil)) pe_int) pa_nil)) (nomark _)))))))))))))
end
end K2
set_option maxRecDepth 100000
set_option maxHeartbeats 2000000
/-! The classes with two fields, and those with none. -/
namespace K2
open PySem PySem.Spec PyProof.Rows L2 GX
abbrev NN : List Str := ["_law_a", "_law_b", "_law_some", "_law_red", "_law_blue", "_law_kind_here", "_law_told"]
theorem sc_by_names : FnScope NN ["_law_a", "_law_b"] (defScope (top 55)) := ⟨rfl, rfl, rfl, by decide +kernel, rfl, by decide +kernel, by decide +kernel⟩
def spTwo (K : PySem.W.Frag) : Sp := fun vs H Q _ => ∃ v z d e, vs = [v, z] ∧ ThingAt K H v d ∧ ThingAt K H z e ∧ ∀ H', Same H H' → Q (.bl true) H'
/-- name and other -/
def f2 (v z : V) : Nat → List (Str × V) := fun _ => [("other", z), ("name", v)]
section
variable {K : PySem.W.Frag} {mg : Str → Option Value} {σ : L2.St} {H H0 : Hp} {D : Ends}
def tRowW (K : PySem.W.Frag) (j : Nat) : TE := fun σ H Q => ∃ v z, σ[0]? = some (some v) ∧ σ[1]? = some (some z) ∧ ∀ w H', Same H H' → RowAt K H' w j (f2 v z j) → Q w H'
theorem toRowW {j : Nat} : ∀ σ H Q, tRowW K j σ H Q → tLst (tCons (tErr2 (Ca K j) (tVar 0) (tVar 1)) (tCons (tErr2k (Ca K j) (tVar 0) (tVar 1)) (tCons (tC (.int (j : Int))) tNil))) σ H Q := by
  rintro σ H Q ⟨v, z, h0, h1, q⟩
  refine ⟨v, h0, z, h1, fun a H1 s1 e1 => ⟨z, h1, v, h0, fun b H2 s2 e2 => ⟨len_le 3 (by decide), fun p hp => ?_⟩⟩⟩
  exact q _ _ ((s1.trans s2).trans (same_upd hp)) ⟨p, a, b, rfl, upd_same, (e1.same s2).same (same_upd hp), e2.same (same_upd hp)⟩
def tRowsW2 (K : PySem.W.Frag) (j1 j2 : Nat) : TE := fun σ H Q => j1 < 32 ∧ j2 < 32 ∧ ∃ v z, σ[0]? = some (some v) ∧ σ[1]? = some (some z) ∧ ∀ l H', H l = none → Same H H' → RowsAt K H' l (f2 v z) [j1, j2] → Q (.ref l) H'
theorem toRowsW2 {j1 j2 : Nat} : ∀ σ H Q, tRowsW2 K j1 j2 σ H Q → tLst (tCons (tRowW K j1) (tCons (tRowW K j2) tNil)) σ H Q := by
  rintro σ H Q ⟨b1, b2, v, z, h0, h1, q⟩
  refine ⟨v, z, h0, h1, fun w1 H1 s1 r1 => ⟨v, z, h0, h1, fun w2 H2 s2 r2 => ⟨len_le 2 (by decide), fun p hp => ?_⟩⟩⟩
  have s3 := same_upd (o := .lst [w1, w2]) hp
  exact q p _ ((s1.trans s2).free hp) ((s1.trans s2).trans s3) ⟨_, upd_same, .cons ⟨b1, (r1.same s2).same s3⟩ (.cons ⟨b2, r2.same s3⟩ .nil), by simp⟩
def tAppW (K : PySem.W.Frag) (j : Nat) : TS := tDrop (tBM K "list" rAppend (tVar 2) (tCons (tRowW K j) tNil))
theorem appW_of {j : Nat} {v z : V} {l : Addr} {js : List Nat} (s0 : Same H0 H) (n0 : H0 l = none) (h0 : σ[0]? = some (some v)) (h1 : σ[1]? = some (some z)) (h2 : σ[2]? = some (some (.ref l))) (hj : j < 32) (hr : RowsAt K H l (f2 v z) js) (hz : js.length ≤ 40)
    (q : ∀ H', Same H0 H' → RowsAt K H' l (f2 v z) (js ++ [j]) → D.nx σ H') : tAppW K j D σ H := by
  obtain ⟨vs, hl, hrow, _⟩ := hr
  have e := Rows_len hrow
  refine ⟨_, h2, .inl ⟨rfl, _, SqL.of hl⟩, v, z, h0, h1, fun w H1 s1 hw => ?_⟩
  have hl1 := s1 _ _ hl
  have refs := hrow.refs
  refine ⟨l, vs, w, rfl, rfl, hl1, by rw [sizeLine_eq]; omega, ?_⟩
  have sx : SameX l H1 (upd H1 l (.lst (vs ++ [w]))) := SameX.upd fun _ _ _ z => z
  refine q _ (SameX.new n0 (s0.trans s1) sx) ⟨vs ++ [w], upd_same, ((hrow.same s1).sameX hl1 refs sx).append (.cons ⟨hj, hw.sameX hl1 refs sx⟩ .nil), ?_⟩
  rw [List.length_append, e]
  show js.length + 1 ≤ 100
  omega
/-- the slots behind a row's unpacking -/
theorem slots7 {a b : Addr} {j : Int} {v z : V} (g7 : σ.length = 7) (g0 : σ[0]? = some (some v)) (g1 : σ[1]? = some (some z)) :
    (((σ.set 3 (some (.ref a))).set 4 (some (.ref b))).set 5 (some (.int j))).length = 7 ∧ (((σ.set 3 (some (.ref a))).set 4 (some (.ref b))).set 5 (some (.int j)))[0]? = some (some v) ∧ (((σ.set 3 (some (.ref a))).set 4 (some (.ref b))).set 5 (some (.int j)))[1]? = some (some z) ∧
    (((σ.set 3 (some (.ref a))).set 4 (some (.ref b))).set 5 (some (.int j)))[3]? = some (some (.ref a)) ∧ (((σ.set 3 (some (.ref a))).set 4 (some (.ref b))).set 5 (some (.int j)))[4]? = some (some (.ref b)) ∧ (((σ.set 3 (some (.ref a))).set 4 (some (.ref b))).set 5 (some (.int j)))[5]? = some (some (.int j)) := by
  refine ⟨by simp [g7], ?_, ?_, ?_, ?_, ?_⟩
  · rw [List.getElem?_set_ne (by decide), List.getElem?_set_ne (by decide), List.getElem?_set_ne (by decide)]; exact g0
  · rw [List.getElem?_set_ne (by decide), List.getElem?_set_ne (by decide), List.getElem?_set_ne (by decide)]; exact g1
  · rw [List.getElem?_set_ne (by decide), List.getElem?_set_ne (by decide), List.getElem?_set_self (by omega)]
  · rw [List.getElem?_set_ne (by decide), List.getElem?_set_self (by simp [g7])]
  · rw [List.getElem?_set_self (by simp [g7])]
def gRow (K : PySem.W.Frag) : TG := gUnl K 3 (gCons (gName 3) (gCons (gName 4) (gCons (gName 5) gNil)))
def tLoopN (K : PySem.W.Frag) : TS := tFor (iList K (tVar 2)) (gRow K) (tRowT K "name" 3 4 5 0)
theorem loopN_of {v z : V} {d : PyData} {l : Addr} {js : List Nat} (T : Cls K mg) (h7 : σ.length = 7) (h0 : σ[0]? = some (some v)) (h1 : σ[1]? = some (some z)) (h2 : σ[2]? = some (some (.ref l))) (hr : RowsAt K H l (f1 v) js) (hn : ∀ j ∈ js, fl j = "name") (t : ThingAt K H v d)
    (q : ∀ σ' H', σ'.length = 7 → σ'[0]? = some (some v) → σ'[1]? = some (some z) → Same H H' → D.nx σ' H') : tLoopN K D σ H := by
  obtain ⟨vs, hl, hrow, hz⟩ := hr
  refine ⟨_, h2, l, rfl, ⟨_, SqL.of hl⟩, ?_⟩
  refine for_list (K := K) (a := l) (xs := vs) (fun i σ' H' => σ'.length = 7 ∧ σ'[0]? = some (some v) ∧ σ'[1]? = some (some z) ∧ Same H H') ⟨h7, h0, h1, Same.refl _⟩ ?_ ?_ ?_
  · rintro i σ' H' _ ⟨_, _, _, s⟩
    exact SqL.of (s _ _ hl)
  · rintro i x σ' H' hx ⟨g7, g0, g1, s⟩
    obtain ⟨j, hj, hj32, hrow1⟩ := RowsIn.at hrow hx
    obtain ⟨p, a, b, rfl, hp, e1, e2⟩ := hrow1.same s
    refine ⟨p, _, rfl, SqL.of hp, rfl, ?_⟩
    refine ⟨_, _, rfl, _, _, rfl, _, _, rfl, rfl, ?_⟩
    obtain ⟨k7, k0, k1, k3, k4, k5⟩ := slots7 (a := a) (b := b) (j := (j : Int)) g7 g0 g1
    exact rowT_of T k3 k4 k5 k0 hj32 e1 e2 (hn j hj) (t.same s) fun H2 s2 => ⟨k7, k0, k1, s.trans s2⟩
  · rintro σ' H' ⟨g7, g0, g1, s⟩
    exact q σ' H' g7 g0 g1 s
/-- the four fields -/
def tTold (K : PySem.W.Frag) : TE := tLst (tCons (tErrF K "name" (tVar 3)) (tCons (tErrF K "other" (tVar 3)) (tCons (tErrF K "name" (tVar 4)) (tCons (tErrF K "other" (tVar 4)) tNil))))
def tAbab : TE := tLst (tCons (tVar 0) (tCons (tVar 1) (tCons (tVar 0) (tCons (tVar 1) tNil))))
def text4 (d e : PyData) : Str := listText (PyData.shownAll [d, e, d, e])
theorem repr4_of {p : Addr} {v z : V} {d e : PyData} {Q : VK} (t : ThingAt K H v d) (u : ThingAt K H z e) (hp : H p = some (.lst [v, z, v, z])) (q : Q (.str (text4 d e)) H) : rReprL K [.ref p] H Q := by
  obtain ⟨t1, t2, t3⟩ := things4 d t.1 e u.1
  exact ⟨p, [v, z, v, z], [d, e, d, e], rfl, by simp, SqL.of hp, .cons t.2 (.cons u.2 (.cons t.2 (.cons u.2 .nil))), t1, t2, t3, q⟩
theorem told_of {j : Nat} {a b : Addr} {v z : V} {Q : VK} (T : Cls K mg) (h3 : σ[3]? = some (some (.ref a))) (h4 : σ[4]? = some (some (.ref b))) (hj : j < 32) (hn : fl j = "name") (e1 : ErrAt H a (Ca K j) (f2 v z j)) (e2 : ErrAt H b (Ca K j) (f2 v z j))
    (q : ∀ p H', Same H H' → H' p = some (.lst [v, z, v, z]) → Q (.ref p) H') : tTold K σ H Q := by
  have l1 : (f2 v z j).lookup ("name" : Str) = some v := by
    show List.lookup ("name" : Str) [(("other" : Str), z), ("name", v)] = some v
    rw [lookup_put, if_neg (by decide), lookup_put, if_pos rfl]
  have l2 : (f2 v z j).lookup ("other" : Str) = some z := by
    show List.lookup ("other" : Str) [(("other" : Str), z), ("name", v)] = some z
    rw [lookup_put, if_pos rfl]
  have n1 : PySem.W.findIn K (.ref (Ca K j)) "name" = some none := by
    rw [← hn]
    exact (T.no j hj).1
  have n2 := (T.no j hj).2
  refine ⟨_, h3, a, Ca K j, _, v, rfl, e1, T.xf j hj, n1, l1, ?_⟩
  refine ⟨_, h3, a, Ca K j, _, z, rfl, e1, T.xf j hj, n2, l2, ?_⟩
  refine ⟨_, h4, b, Ca K j, _, v, rfl, e2, T.xf j hj, n1, l1, ?_⟩
  refine ⟨_, h4, b, Ca K j, _, z, rfl, e2, T.xf j hj, n2, l2, ?_⟩
  exact ⟨len_le 4 (by decide), fun p hp => q p _ (same_upd hp) upd_same⟩
theorem cb1 {r : List V → Hp → VK → Prop} {te : TE} {Q : VK} (h : te σ H fun x H1 => r [x] H1 Q) : tCB r (tCons te tNil) σ H Q := h
def tNe4 (K : PySem.W.Frag) : TT := tTest (tOp rNe (tCB (rReprL K) (tCons (tVar 6) tNil)) (tCB (rReprL K) (tCons tAbab tNil)))
theorem ne4_of {p : Addr} {v z : V} {d e : PyData} {Q : Bool → Hp → Prop} (h0 : σ[0]? = some (some v)) (h1 : σ[1]? = some (some z)) (h6 : σ[6]? = some (some (.ref p))) (hp : H p = some (.lst [v, z, v, z])) (t : ThingAt K H v d) (u : ThingAt K H z e)
    (q : ∀ H', Same H H' → Q false H') : tNe4 K σ H Q := by
  refine testOp ?_
  refine cb1 ⟨_, h6, ?_⟩
  refine repr4_of t u hp ?_
  refine cb1 ⟨_, h0, _, h1, _, h0, _, h1, len_le 4 (by decide), fun p2 hp2 => ?_⟩
  have s := same_upd (o := .lst [v, z, v, z]) hp2
  refine repr4_of (t.same s) (u.same s) upd_same ⟨rfl, _, rfl, ?_⟩
  rw [decide_eq_true rfl]
  exact q _ s
def tTurnW (K : PySem.W.Frag) : TS := tSeq (tAsg (tTold K) (gName 6)) (tIfS (tOr (tNeK K 3 4 (tVar 5)) (tNe4 K)) (tRet (tC (.bl false))) tNext)
def tLoopW (K : PySem.W.Frag) : TS := tFor (iList K (tVar 2)) (gRow K) (tTurnW K)
theorem loopW_of {v z : V} {d e : PyData} {l : Addr} {js : List Nat} (T : Cls K mg) (h7 : σ.length = 7) (h0 : σ[0]? = some (some v)) (h1 : σ[1]? = some (some z)) (h2 : σ[2]? = some (some (.ref l))) (hr : RowsAt K H l (f2 v z) js) (hn : ∀ j ∈ js, fl j = "name") (t : ThingAt K H v d) (u : ThingAt K H z e)
    (q : ∀ σ' H', Same H H' → D.nx σ' H') : tLoopW K D σ H := by
  obtain ⟨vs, hl, hrow, hz⟩ := hr
  refine ⟨_, h2, l, rfl, ⟨_, SqL.of hl⟩, ?_⟩
  refine for_list (K := K) (a := l) (xs := vs) (fun i σ' H' => σ'.length = 7 ∧ σ'[0]? = some (some v) ∧ σ'[1]? = some (some z) ∧ Same H H') ⟨h7, h0, h1, Same.refl _⟩ ?_ ?_ ?_
  · rintro i σ' H' _ ⟨_, _, _, s⟩
    exact SqL.of (s _ _ hl)
  · rintro i x σ' H' hx ⟨g7, g0, g1, s⟩
    obtain ⟨j, hj, hj32, hrow1⟩ := RowsIn.at hrow hx
    obtain ⟨p, a, b, rfl, hp, e1, e2⟩ := hrow1.same s
    refine ⟨p, _, rfl, SqL.of hp, rfl, ?_⟩
    refine ⟨_, _, rfl, _, _, rfl, _, _, rfl, rfl, ?_⟩
    obtain ⟨k7, k0, k1, k3, k4, k5⟩ := slots7 (a := a) (b := b) (j := (j : Int)) g7 g0 g1
    show tTurnW K _ (((σ'.set 3 (some (.ref a))).set 4 (some (.ref b))).set 5 (some (.int (j : Int)))) H'
    generalize (((σ'.set 3 (some (.ref a))).set 4 (some (.ref b))).set 5 (some (.int (j : Int)))) = τ at k7 k0 k1 k3 k4 k5 ⊢
    refine seqA ?_
    refine told_of T k3 k4 hj32 (hn j hj) e1 e2 fun p2 H2 s2 hp2 => ?_
    have m7 : (τ.set 6 (some (V.ref p2))).length = 7 := by simp [k7]
    have m0 : (τ.set 6 (some (V.ref p2)))[0]? = some (some v) := (List.getElem?_set_ne (by decide)).trans k0
    have m1 : (τ.set 6 (some (V.ref p2)))[1]? = some (some z) := (List.getElem?_set_ne (by decide)).trans k1
    have m3 : (τ.set 6 (some (V.ref p2)))[3]? = some (some (.ref a)) := (List.getElem?_set_ne (by decide)).trans k3
    have m4 : (τ.set 6 (some (V.ref p2)))[4]? = some (some (.ref b)) := (List.getElem?_set_ne (by decide)).trans k4
    have m5 : (τ.set 6 (some (V.ref p2)))[5]? = some (some (.int (j : Int))) := (List.getElem?_set_ne (by decide)).trans k5
    have m6 : (τ.set 6 (some (V.ref p2)))[6]? = some (some (.ref p2)) := List.getElem?_set_self (by omega)
    refine neK_of m3 m4 hj32 (e1.same s2) (e2.same s2) (fun H Q h => ⟨_, m5, h⟩) fun H3 s3 => ?_
    refine ne4_of m0 m1 m6 (s3 _ _ hp2) (((t.same s).same s2).same s3) (((u.same s).same s2).same s3) fun H4 s4 => ?_
    exact ⟨m7, m0, m1, ((s.trans s2).trans s3).trans s4⟩
  · rintro σ' H' ⟨g7, g0, g1, s⟩
    exact q σ' H' s
/-- the classes without fields -/
def tNone (K : PySem.W.Frag) : TE := tOp (rEqD K) (tLst (tCons (tCall (spKind K) [] E0 (tCons (tErr0 (Ca K 25)) tNil)) (tCons (tCall (spKind K) [] E0 (tCons (tErr0 (Ca K 26)) tNil)) tNil))) (tLst (tCons (tC (.int 25)) (tCons (tC (.int 26)) tNil)))
theorem none_of {Q : VK} (q : ∀ H', Same H H' → Q (.bl true) H') : tNone K σ H Q := by
  refine opOf ?_
  refine fun a H1 s1 e1 => ⟨a, 25, [], rfl, by decide, e1, fun H2 s2 => ?_⟩
  refine fun b H3 s3 e3 => ⟨b, 26, [], rfl, by decide, e3, fun H4 s4 => ?_⟩
  refine ⟨len_le 2 (by decide), fun p hp => ⟨len_le 2 (by decide), fun p2 hp2 => ?_⟩⟩
  have s5 := same_upd (o := .lst [V.int ((25 : Nat) : Int), V.int ((26 : Nat) : Int)]) hp
  have s6 := same_upd (o := .lst [V.int 25, V.int 26]) hp2
  refine ⟨.list [.int 25, .int 26], .list [.int 25, .int 26], .lst (SqL.of (s6 _ _ upd_same)) (.cons (.int _) (.cons (.int _) .nil)), .lst (SqL.of upd_same) (.cons (.int _) (.cons (.int _) .nil)), rfl, rfl, ?_⟩
  exact q _ ((((s1.trans s2).trans s3).trans s4).trans (s5.trans s6))
end
def t_by_names (K : PySem.W.Frag) : TS :=
  (tSeq (tAsg (tRows2 K 0 20 21) (gName 2)) (tSeq (tLoopN K) (tSeq (tAsg (tRowsW2 K 22 23) (gName 2)) (tSeq (tAppW K 24) (tSeq (tLoopW K) (tRet (tNone K)))))))
theorem pure_by_names {K : PySem.W.Frag} {mg : Str → Option Value} (T : Cls K mg) (vs : List V) (H : Hp) (Q : VK) (E : XK) (h : spTwo K vs H Q E) : t_by_names K { nx := fun _ H' => Q .non H', rt := Q } (start NN vs) H := by
  obtain ⟨v, z, d, e, rfl, t, u, q⟩ := h
  refine ⟨by decide, by decide, v, rfl, fun l H1 n1 s1 hr => ?_⟩
  refine loopN_of T rfl rfl rfl rfl hr (by decide +kernel) (t.same s1) fun σ H2 h7 h0 h1 s2 => ?_
  refine ⟨by decide, by decide, v, z, h0, h1, fun l2 H3 n3 s3 hr3 => ?_⟩
  have s13 := (s1.trans s2).trans s3
  have k7 : (σ.set 2 (some (V.ref l2))).length = 7 := by simp [h7]
  have k0 : (σ.set 2 (some (V.ref l2)))[0]? = some (some v) := (List.getElem?_set_ne (by decide)).trans h0
  have k1 : (σ.set 2 (some (V.ref l2)))[1]? = some (some z) := (List.getElem?_set_ne (by decide)).trans h1
  have k2 : (σ.set 2 (some (V.ref l2)))[2]? = some (some (.ref l2)) := List.getElem?_set_self (by omega)
  refine appW_of s13 ((s1.trans s2).free n3) k0 k1 k2 (by decide) hr3 (by simp) fun H4 s4 hr4 => ?_
  refine loopW_of T k7 k0 k1 k2 hr4 (by decide +kernel) (t.same s4) (u.same s4) fun σ' H5 s5 => ?_
  exact none_of fun H6 s6 => q _ ((s4.trans s5).trans s6)
section
variable {P : Program} {w : World} {K : PySem.W.Frag} {mg : Str → Option Value} {base : Heap} {f fK : Addr} {fd fdK : FuncData}
theorem ok_by_names (F : FunD K "_law_by_names" "_law_by_names" (defArgs (top 55)) (defBody (top 55)) (defScope (top 55)) [] [] f fd) (T : Cls K mg)
    (GK : FnG P w K mg base 1 fK fdK ["_law_e"] (spKind K)) (gK : mg "_law_kind" = some (.ref fK)) (kK : PySem.W.keepIn K (.ref fK) = true) (bK : Binds K fdK ["_law_e"] []) :
    FnG P w K mg base 2 f fd ["_law_a", "_law_b"] (spTwo K) := by
  refine okG F sc_by_names (fun vs H Q E h => ?_) (fun cdv A outer s H vs Q E hG hR h => ⟨t_by_names K, ?_, pure_by_names T vs H Q E h⟩)
  · obtain ⟨v, z, d, e, rfl, _⟩ := h
    rfl
  · have hR1 := hR
    exact pss_cons (ps_set (i := 2) sc_by_names.nd rfl (Or.inl rfl) (PE.imp (pe_lst (pa_cons (PE.imp (pe_lst (pa_cons (pe_err (T.one 20 (by decide)) hR1 rfl (pv 0)) (pa_cons (pe_errK (T.one 20 (by decide)) hR1 rfl (pv 0)) (pa_cons pe_int pa_nil)))) toRow1) (pa_cons (PE.imp (pe_lst (pa_cons (pe_err (T.one 21 (by decide)) hR1 rfl (pv 0)) (pa_cons (pe_errK (T.one 21 (by decide)) hR1 rfl (pv 0)) (pa_cons pe_int pa_nil)))) toRow1) pa_nil))) toRows2))
      (pss_cons (ps_for PassesOwn.never rfl (pi_list (pv 2)) (pg_unl rfl (pgs_cons (pg_name (i := 3) sc_by_names.nd rfl (Or.inl rfl)) (pgs_cons (pg_name (i := 4) sc_by_names.nd rfl (Or.inl rfl)) (pgs_cons (pg_name (i := 5) sc_by_names.nd rfl (Or.inl rfl)) pgs_nil)))) (pss_one (ps_if (PW.pt (pw_or (pt_cmpR (op_neD hR.units) (pe_lst (pa_cons (pe_callG GK hG hR1 rfl gK kK bK (pa_cons (pv 3) pa_nil)) (pa_cons (pe_callG GK hG hR1 rfl gK kK bK (pa_cons (pv 4) pa_nil)) pa_nil))) (pe_op op_rep (pe_lst (pa_cons (pv 5) pa_nil)) pe_int) (nomark _)) (pw_or1 (pt_cmpR op_ne (pe_callB (call_reprL hG hR.units) rfl (T.free "repr" (by decide)) (by decide +kernel) (pa_cons (pe_lst (pa_cons (pe_errF (pv 3)) (pa_cons (pe_errF (pv 4)) pa_nil))) pa_nil)) (pe_callB (call_reprL hG hR.units) rfl (T.free "repr" (by decide)) (by decide +kernel) (pa_cons (pe_op op_rep (pe_lst (pa_cons (pv 0) pa_nil)) pe_int) pa_nil)) (nomark _))))) (pss_one (ps_ret pe_bl)) pss_nil)))
      (pss_cons (ps_set (i := 2) sc_by_names.nd rfl (Or.inl rfl) (PE.imp (pe_lst (pa_cons (PE.imp (pe_lst (pa_cons (pe_err2 (T.two 22 (by decide)) hR1 rfl (pv 0) (pv 1)) (pa_cons (pe_err2K (T.two 22 (by decide)) hR1 rfl (pv 0) (pv 1)) (pa_cons pe_int pa_nil)))) toRowW) (pa_cons (PE.imp (pe_lst (pa_cons (pe_err2 (T.two 23 (by decide)) hR1 rfl (pv 0) (pv 1)) (pa_cons (pe_err2K (T.two 23 (by decide)) hR1 rfl (pv 0) (pv 1)) (pa_cons pe_int pa_nil)))) toRowW) pa_nil))) toRowsW2))
      (pss_cons (ps_expr (pe_bm PySem.F.plainAttrs_list PySem.F.slot_list_append PySem.F.type_list_append mt_append (pv 2) (pa_cons (PE.imp (pe_lst (pa_cons (pe_err2 (T.two 24 (by decide)) hR1 rfl (pv 0) (pv 1)) (pa_cons (pe_err2K (T.two 24 (by decide)) hR1 rfl (pv 0) (pv 1)) (pa_cons pe_int pa_nil)))) toRowW) pa_nil)))
      (pss_cons (ps_for PassesOwn.never rfl (pi_list (pv 2)) (pg_unl rfl (pgs_cons (pg_name (i := 3) sc_by_names.nd rfl (Or.inl rfl)) (pgs_cons (pg_name (i := 4) sc_by_names.nd rfl (Or.inl rfl)) (pgs_cons (pg_name (i := 5) sc_by_names.nd rfl (Or.inl rfl)) pgs_nil)))) (pss_cons (ps_set (i := 6) sc_by_names.nd rfl (Or.inl rfl) (pe_lst (pa_cons (pe_errF (pv 3)) (pa_cons (pe_errF (pv 3)) (pa_cons (pe_errF (pv 4)) (pa_cons (pe_errF (pv 4)) pa_nil)))))) (pss_one (ps_if (PW.pt (pw_or (pt_cmpR (op_neD hR.units) (pe_lst (pa_cons (pe_callG GK hG hR1 rfl gK kK bK (pa_cons (pv 3) pa_nil)) (pa_cons (pe_callG GK hG hR1 rfl gK kK bK (pa_cons (pv 4) pa_nil)) pa_nil))) (pe_op op_rep (pe_lst (pa_cons (pv 5) pa_nil)) pe_int) (nomark _)) (pw_or1 (pt_cmpR op_ne (pe_callB (call_reprL hG hR.units) rfl (T.free "repr" (by decide)) (by decide +kernel) (pa_cons (pv 6) pa_nil)) (pe_callB (call_reprL hG hR.units) rfl (T.free "repr" (by decide)) (by decide +kernel) (pa_cons (pe_lst (pa_cons (pv 0) (pa_cons (pv 1) (pa_cons (pv 0) (pa_cons (pv 1) pa_nil))))) pa_nil)) (nomark _))))) (pss_one (ps_ret pe_bl)) pss_nil))))
      (pss_one (ps_ret (pe_cmpR (op_eqD hR.units) (pe_lst (pa_cons (pe_callG GK hG hR1 rfl gK kK bK (pa_cons (pe_err0 PySem.F.excBase_LookupError T.e25 (T.glo 25 (by decide)) (T.kp 25 (by decide)) rfl) pa_nil)) (pa_cons (pe_callG GK hG hR1 rfl gK kK bK (pa_cons (pe_err0 PySem.F.excBase_LookupError T.e26 (T.glo 26 (by decide)) (T.kp 26 (by decide)) rfl) pa_nil)) pa_nil))) (pe_lst (pa_cons pe_int (pa_cons pe_int pa_nil))) (nomark _))))))))
end
end K2
set_option maxRecDepth 100000
set_option maxHeartbeats 2000000
/-! One pool's look, and the law. -/
namespace K2
open PySem PySem.Spec PyProof.Rows L2 GX
abbrev NR : List Str := ["_law_pool_here", "_law_a", "_law_b"]
theorem scR : FnScope NR ["_law_pool_here"] (defScope (top 57)) := ⟨rfl, rfl, rfl, by decide +kernel, rfl, by decide +kernel, by decide +kernel⟩
def spRight : Sp := fun vs H Q _ => ∃ p : Addr, vs = [.ref p] ∧ PoolAt H p ∧ ∀ H', SameX p H H' → Q (.bl true) H'
def t_right (K : PySem.W.Frag) : TS :=
  tSeq (tPar 1 2 (tCons (tCall (spThing K) [] E0 (tCons (tVar 0) tNil)) (tCons (tCall (spThing K) [] E0 (tCons (tVar 0) tNil)) tNil)))
    (tRet (tAndV (tCall (spVal K) [] E0 (tCons (tVar 1) tNil)) (tAndV (tCall (spVal K) [] E0 (tCons (tVar 1) tNil)) (tAndV (tCall (spTwo K) [] E0 (tCons (tVar 1) (tCons (tVar 2) tNil))) (tCall (spVal K) [] E0 (tCons (tVar 2) tNil))))))
theorem pure_right {K : PySem.W.Frag} (vs : List V) (H : Hp) (Q : VK) (E : XK) (h : spRight vs H Q E) : t_right K { nx := fun _ H' => Q .non H', rt := Q } (start NR vs) H := by
  obtain ⟨p, rfl, hP, q⟩ := h
  refine ⟨_, rfl, p, rfl, hP, fun v d H1 s1 hP1 t1 => ?_⟩
  refine ⟨_, rfl, p, rfl, hP1, fun z e H2 s2 hP2 t2 => ⟨v, z, rfl, ?_⟩⟩
  have t : ThingAt K H2 v d := ⟨t1.1, (t1.2.same (delX s2)).same del_sub⟩
  have u : ThingAt K H2 z e := ⟨t2.1, t2.2.same del_sub⟩
  refine ⟨_, rfl, v, d, rfl, t, fun H3 s3 => ⟨true, rfl, iteT ?_⟩⟩
  refine ⟨_, rfl, v, d, rfl, t.same s3, fun H4 s4 => ⟨true, rfl, iteT ?_⟩⟩
  refine ⟨_, rfl, _, rfl, v, z, d, e, rfl, (t.same s3).same s4, (u.same s3).same s4, fun H5 s5 => ⟨true, rfl, iteT ?_⟩⟩
  refine ⟨_, rfl, z, e, rfl, ((u.same s3).same s4).same s5, fun H6 s6 => ?_⟩
  exact q H6 ((s1.trans s2).trans (SameX.of (((s3.trans s4).trans s5).trans s6)))
section
variable {P : Program} {w : World} {K : PySem.W.Frag} {mg : Str → Option Value} {base : Heap} {f f1 f2 f3 f4 f5 : Addr} {fd fd1 fd2 fd3 fd4 fd5 : FuncData}
theorem ok_right (F : FunD K "_law_right" "_law_right" (defArgs (top 57)) (defBody (top 57)) (defScope (top 57)) [] [] f fd)
    (G1 : FnG P w K mg base 2 f1 fd1 ["_law_pool_here"] (spThing K)) (g1 : mg "_law_thing" = some (.ref f1)) (k1 : PySem.W.keepIn K (.ref f1) = true) (b1 : Binds K fd1 ["_law_pool_here"] [])
    (G2 : FnG P w K mg base 2 f2 fd2 ["_law_a"] (spVal K)) (g2 : mg "_law_by_value" = some (.ref f2)) (k2 : PySem.W.keepIn K (.ref f2) = true) (b2 : Binds K fd2 ["_law_a"] [])
    (G3 : FnG P w K mg base 2 f3 fd3 ["_law_a"] (spVal K)) (g3 : mg "_law_by_index" = some (.ref f3)) (k3 : PySem.W.keepIn K (.ref f3) = true) (b3 : Binds K fd3 ["_law_a"] [])
    (G4 : FnG P w K mg base 2 f4 fd4 ["_law_a", "_law_b"] (spTwo K)) (g4 : mg "_law_by_names" = some (.ref f4)) (k4 : PySem.W.keepIn K (.ref f4) = true) (b4 : Binds K fd4 ["_law_a", "_law_b"] [])
    (G5 : FnG P w K mg base 2 f5 fd5 ["_law_a"] (spVal K)) (g5 : mg "_law_by_limit" = some (.ref f5)) (k5 : PySem.W.keepIn K (.ref f5) = true) (b5 : Binds K fd5 ["_law_a"] []) :
    FnG P w K mg base 3 f fd ["_law_pool_here"] spRight := by
  refine okG F scR (fun vs H Q E h => ?_) (fun cdv A outer s H vs Q E hG hR h => ⟨t_right K, ?_, pure_right vs H Q E h⟩)
  · obtain ⟨p, rfl, _⟩ := h
    rfl
  · exact pss_cons (ps_par (i := 1) (j := 2) rfl scR.nd rfl rfl (by decide) rfl rfl (pa_cons (pe_callG G1 hG hR rfl g1 k1 b1 (pa_cons (pv 0) pa_nil)) (pa_cons (pe_callG G1 hG hR rfl g1 k1 b1 (pa_cons (pv 0) pa_nil)) pa_nil)) (by rfl))
      (pss_one (ps_ret (pe_and (pe_callG G2 hG hR rfl g2 k2 b2 (pa_cons (pv 1) pa_nil)) (pe_and (pe_callG G3 hG hR rfl g3 k3 b3 (pa_cons (pv 1) pa_nil))
        (pe_and (pe_callG G4 hG hR rfl g4 k4 b4 (pa_cons (pv 1) (pa_cons (pv 2) pa_nil))) (pe_one (pe_callG G5 hG hR rfl g5 k5 b5 (pa_cons (pv 2) pa_nil))))))))
end
/-! ### the law -/
abbrev NL : List Str := ["_law_script", "_law_told", "_law_due", "_law_k"]
theorem scL : FnScope NL ["_law_script"] (defScope (top 58)) := ⟨rfl, rfl, rfl, by decide +kernel, rfl, by decide +kernel, by decide +kernel⟩
def spLaw (K : PySem.W.Frag) : Sp := fun vs H Q _ => ∃ (a : Addr) (ns : List Int), vs = [.ref a] ∧ SqL K H a (ns.map V.int) ∧ ns.length ≤ 63 ∧ ∀ H', Q (.bl true) H'
def nsL : List Int := [4, 64, 2000, 600, 30, 12, 10 ^ 30, 200, 8, 20, 200]
def dsL : List PyData := nsL.map PyData.int
theorem dsL_ok : PyData.showableAll dsL = true ∧ PyData.depthAll dsL ≤ 60 ∧ (listText (PyData.shownAll dsL)).length ≤ sizeLine := by decide +kernel
theorem dd_ints {K : PySem.W.Frag} {H : Hp} : ∀ ns : List Int, DdA K H (ns.map V.int) (ns.map PyData.int)
  | [] => .nil
  | n :: ns => .cons (.int n) (dd_ints ns)
theorem reprN_of {K : PySem.W.Frag} {H : Hp} {p : Addr} {Q : VK} (hp : H p = some (.lst (nsL.map V.int))) (q : Q (.str (listText (PyData.shownAll dsL))) H) : rReprL K [.ref p] H Q :=
  ⟨p, nsL.map V.int, dsL, rfl, by simp [nsL], SqL.of hp, dd_ints nsL, dsL_ok.1, dsL_ok.2.1, dsL_ok.2.2, q⟩
abbrev tI (n : Int) : TE := tC (.int n)
def tTold8 : TE := tLst (tCons (tI 4) (tCons (tI 64) (tCons (tI 2000) (tCons (tI 600) (tCons (tI 30) (tCons (tI 12) (tCons (tI (10 ^ 30)) (tCons (tI 200) tNil))))))))
def tDue : TE := tLst (tCons (tI 4) (tCons (tI 64) (tCons (tI 2000) (tCons (tI 600) (tCons (tI 30) (tCons (tI 12) (tCons (tOp rPow (tI 10) (tI 30)) (tCons (tI 200) (tCons (tI 8) (tCons (tI 20) (tCons (tI 200) tNil)))))))))))
def tMore3 : TE := tOp rCat (tVar 1) (tLst (tCons (tI 8) (tCons (tI 20) (tCons (tI 200) tNil))))
def tLims (K : PySem.W.Frag) : TT := tTest (tOp rNe (tCB (rReprL K) (tCons tMore3 tNil)) (tCB (rReprL K) (tCons (tVar 2) tNil)))
def rMx : List V → Hp → VK → Prop := fun xs H Q => ∃ i j, xs = [.int i, .int j] ∧ Q (.int (if j > i then j else i)) H
theorem call_mx {X : Cx} (hc : X.calm = true) : CallR X (.builtin "max") rMx := call_max2 hc
def rMn : List V → Hp → VK → Prop := fun xs H Q => ∃ i j, xs = [.int i, .int j] ∧ Q (.int (if j < i then j else i)) H
theorem call_mn {X : Cx} (hc : X.calm = true) : CallR X (.builtin "min") rMn := call_min2 hc
def tNum (K : PySem.W.Frag) : TA := tCons (tCB rMx (tCons (tI 2) (tCons (tCB rMn (tCons (tI 8) (tCons (tCB (rLen K) (tCons (tVar 0) tNil)) tNil))) tNil))) tNil
def tElt (K : PySem.W.Frag) : TE := tCall spRight [] E0 (tCons (tCall spPool [] E0 (tCons (tCall (spCell K) [] E0 (tCons (tVar 0) (tCons (tVar 3) tNil))) tNil)) tNil)
def tRows (K : PySem.W.Frag) : TE := tLc (iRng1 (tNum K)) (gName 3) tYes (tElt K) [3]
def t_law (K : PySem.W.Frag) : TS :=
  tSeq (tAsg tTold8 (gName 1)) (tSeq (tAsg tDue (gName 2)) (tSeq (tIfS (tLims K) (tRet (tC (.bl false))) tNext) (tRet (tCB (rAll K) (tCons (tRows K) tNil)))))
theorem rows_of {K : PySem.W.Frag} {σ : L2.St} {H : Hp} {a : Addr} {ns : List Int} {Q : VK} (h4 : σ.length = 4) (h0 : σ[0]? = some (some (.ref a))) (hs : SqL K H a (ns.map V.int)) (hn : ns.length ≤ 63)
    (q : ∀ p n H', H' p = some (.lst ((List.replicate n true).map V.bl)) → Q (.ref p) H') : tRows K σ H Q := by
  refine ⟨_, h0, a, _, rfl, .inl hs, 8, _, rfl, 2, _, rfl, ?_⟩
  have hb : ∃ m : Nat, m ≤ 8 ∧ (if (if (((ns.map V.int).length : Nat) : Int) < 8 then (((ns.map V.int).length : Nat) : Int) else 8) > 2 then (if (((ns.map V.int).length : Nat) : Int) < 8 then (((ns.map V.int).length : Nat) : Int) else 8) else 2) = (m : Int) := by
    generalize (ns.map V.int).length = L
    by_cases h1 : ((L : Nat) : Int) < 8
    · rw [if_pos h1]
      by_cases h2 : ((L : Nat) : Int) > 2
      · rw [if_pos h2]; exact ⟨L, by omega, rfl⟩
      · rw [if_neg h2]; exact ⟨2, by omega, rfl⟩
    · rw [if_neg h1, if_pos (by omega)]; exact ⟨8, by omega, rfl⟩
  obtain ⟨m, hm, em⟩ := hb
  rw [em]
  refine ⟨m, rfl, by omega, by omega, fun D hD => ?_⟩
  have et : ((m : Nat) : Int).toNat = m := by omega
  rw [et]
  refine lc_range (lo := 0) (n := m) (fun i H' => Same H H' ∧ H' D = some (.lst ((List.replicate i true).map V.bl))) ⟨same_upd hD, upd_same⟩ ?_ ?_
  · rintro i H' hi ⟨s, hd⟩
    refine ⟨by simp [wipe], ?_⟩
    dsimp only [tYes]
    rw [if_pos rfl]
    have w0 : ((wipe σ [3]).set 3 (some (V.int (0 + (i : Int)))))[0]? = some (some (.ref a)) := by
      simp [wipe]; exact h0
    have w3 : ((wipe σ [3]).set 3 (some (V.int (0 + (i : Int)))))[3]? = some (some (.int (0 + (i : Int)))) := by
      simp [wipe, h4]
    refine ⟨_, w0, _, w3, a, ns, i, by rw [Int.zero_add]; rfl, s.seq hs, by omega, fun n H1 s1 => ?_⟩
    refine ⟨n, rfl, fun p H2 s2 hp hP => ?_⟩
    refine ⟨p, rfl, hP, fun H3 s3 => ?_⟩
    have s4 : Same H' H3 := s1.trans (SameX.new hp s2 s3)
    refine ⟨_, s4 _ _ hd, ?_, ?_, ?_⟩
    · rw [List.length_map, List.length_replicate, sizeLine_eq]; omega
    · intro c o e
      by_cases hc : c = D
      · rw [hc, hD] at e; cases e
      · rw [upd_ne hc]; exact (s.trans s4) _ _ e
    · rw [upd_same, List.replicate_succ', List.map_append]
      rfl
  · rintro H' ⟨s, hd⟩
    exact q D m H' hd
theorem pure_law {K : PySem.W.Frag} (vs : List V) (H : Hp) (Q : VK) (E : XK) (h : spLaw K vs H Q E) : t_law K { nx := fun _ H' => Q .non H', rt := Q } (start NL vs) H := by
  obtain ⟨a, ns, rfl, hs, hn, q⟩ := h
  refine seqA ?_
  refine ⟨len_le 8 (by decide), fun l hl => ?_⟩
  refine seqA ?_
  refine ⟨10, 30, rfl, rfl, pow_ok, len_le 11 (by decide), fun l2 hl2 => ?_⟩
  have sa := same_upd (o := .lst [.int 4, .int 64, .int 2000, .int 600, .int 30, .int 12, .int (10 ^ 30), .int 200]) hl
  have sb := same_upd (o := .lst (nsL.map V.int)) hl2
  have e2 : upd (upd H l (.lst [.int 4, .int 64, .int 2000, .int 600, .int 30, .int 12, .int (10 ^ 30), .int 200])) l2 (.lst (nsL.map V.int)) l2 = some (.lst (nsL.map V.int)) := upd_same
  have e1 := sb _ _ (upd_same (H := H) (a := l) (o := .lst [.int 4, .int 64, .int 2000, .int 600, .int 30, .int 12, .int (10 ^ 30), .int 200]))
  have hs2 : SqL K (upd (upd H l (.lst [.int 4, .int 64, .int 2000, .int 600, .int 30, .int 12, .int (10 ^ 30), .int 200])) l2 (.lst (nsL.map V.int))) a (ns.map V.int) := (sa.trans sb).seq hs
  show tSeq _ _ _ (((start NL [.ref a]).set 1 (some (.ref l))).set 2 (some (.ref l2))) (upd (upd H l (.lst [.int 4, .int 64, .int 2000, .int 600, .int 30, .int 12, .int (10 ^ 30), .int 200])) l2 (.lst (nsL.map V.int)))
  generalize upd (upd H l (.lst [.int 4, .int 64, .int 2000, .int 600, .int 30, .int 12, .int (10 ^ 30), .int 200])) l2 (.lst (nsL.map V.int)) = H1 at e1 e2 hs2 ⊢
  refine testOp ?_
  refine cb1 ⟨_, rfl, len_le 3 (by decide), fun p hp => ?_⟩
  have sp := same_upd (o := .lst [.int 8, .int 20, .int 200]) hp
  refine ⟨l, p, _, _, rfl, rfl, sp _ _ e1, upd_same, len_le 11 (by decide), fun p2 hp2 => ?_⟩
  have sq := same_upd (o := .lst (nsL.map V.int)) hp2
  refine reprN_of (K := K) upd_same ?_
  refine cb1 ⟨_, rfl, reprN_of (sq _ _ (sp _ _ e2)) ⟨rfl, _, rfl, ?_⟩⟩
  rw [decide_eq_true rfl]
  refine iteF ?_
  show tCB (rAll K) (tCons (tRows K) tNil) (((start NL [.ref a]).set 1 (some (.ref l))).set 2 (some (.ref l2))) _ _
  refine cb1 ?_
  refine rows_of (σ := ((start NL [.ref a]).set 1 (some (.ref l))).set 2 (some (.ref l2))) rfl rfl ((sp.trans sq).seq hs2) hn fun p3 n H' hp3 => ?_
  refine ⟨p3, List.replicate n true, rfl, SqL.of hp3, ?_⟩
  have e : (List.replicate n true).all id = true := by simp
  rw [e]
  exact q H'
section
variable {P : Program} {w : World} {K : PySem.W.Frag} {mg : Str → Option Value} {base : Heap} {f f1 f2 f3 : Addr} {fd fd1 fd2 fd3 : FuncData}
theorem ok_law (F : FunD K "law" "law" (defArgs (top 58)) (defBody (top 58)) (defScope (top 58)) [] [] f fd) (T : Cls K mg)
    (G1 : FnG P w K mg base 3 f1 fd1 ["_law_pool_here"] spRight) (g1 : mg "_law_right" = some (.ref f1)) (k1 : PySem.W.keepIn K (.ref f1) = true) (b1 : Binds K fd1 ["_law_pool_here"] [])
    (G2 : FnG P w K mg base 1 f2 fd2 ["_law_figure"] spPool) (g2 : mg "_law_pool" = some (.ref f2)) (k2 : PySem.W.keepIn K (.ref f2) = true) (b2 : Binds K fd2 ["_law_figure"] [])
    (G3 : FnG P w K mg base 1 f3 fd3 ["_law_script", "_law_k"] (spCell K)) (g3 : mg "_law_cell" = some (.ref f3)) (k3 : PySem.W.keepIn K (.ref f3) = true) (b3 : Binds K fd3 ["_law_script", "_law_k"] []) :
    FnG P w K mg base 4 f fd ["_law_script"] (spLaw K) := by
  refine okG F scL (fun vs H Q E h => ?_) (fun cdv A outer s H vs Q E hG hR h => ⟨t_law K, ?_, pure_law vs H Q E h⟩)
  · obtain ⟨a, ns, rfl, _⟩ := h
    rfl
  · have hR1 := hR.mono (show 1 ≤ 3 by decide)
    obtain ⟨t0, e0⟩ := T.lim ("MOST_LINES", 4) (by decide +kernel)
    obtain ⟨t1, e1⟩ := T.lim ("MOST_STATES", 64) (by decide +kernel)
    obtain ⟨t2, e2⟩ := T.lim ("MOST_REQUESTS", 2000) (by decide +kernel)
    obtain ⟨t3, e3⟩ := T.lim ("MOST_SITUATIONS", 600) (by decide +kernel)
    obtain ⟨t4, e4⟩ := T.lim ("MOST_PLACES", 30) (by decide +kernel)
    obtain ⟨t5, e5⟩ := T.lim ("MOST_NAMES", 12) (by decide +kernel)
    obtain ⟨t6, e6⟩ := T.lim ("MOST_TIMES", 10 ^ 30) (by decide +kernel)
    obtain ⟨t7, e7⟩ := T.lim ("MOST_KEPT", 200) (by decide +kernel)
    obtain ⟨t8, e8⟩ := T.lim ("MOST_MENDED", 8) (by decide +kernel)
    obtain ⟨t9, e9⟩ := T.lim ("MOST_DEVICES", 20) (by decide +kernel)
    obtain ⟨ta, ea⟩ := T.lim ("MOST_EDITS", 200) (by decide +kernel)
    exact pss_cons (ps_set (i := 1) scL.nd rfl (Or.inl rfl) (pe_lst (pa_cons (pe_glob (v := .int 4) rfl e0 ⟨t0, rfl⟩) (pa_cons (pe_glob (v := .int 64) rfl e1 ⟨t1, rfl⟩) (pa_cons (pe_glob (v := .int 2000) rfl e2 ⟨t2, rfl⟩) (pa_cons (pe_glob (v := .int 600) rfl e3 ⟨t3, rfl⟩)
        (pa_cons (pe_glob (v := .int 30) rfl e4 ⟨t4, rfl⟩) (pa_cons (pe_glob (v := .int 12) rfl e5 ⟨t5, rfl⟩) (pa_cons (pe_glob (v := .int (10 ^ 30)) rfl e6 ⟨t6, rfl⟩) (pa_cons (pe_glob (v := .int 200) rfl e7 ⟨t7, rfl⟩) pa_nil))))))))))
      (pss_cons (ps_set (i := 2) scL.nd rfl (Or.inl rfl) (pe_lst (pa_cons pe_int (pa_cons pe_int (pa_cons pe_int (pa_cons pe_int (pa_cons pe_int (pa_cons pe_int (pa_cons (pe_op op_pow pe_int pe_int) (pa_cons pe_int (pa_cons pe_int (pa_cons pe_int (pa_cons pe_int pa_nil)))))))))))))
      (pss_cons (ps_if (pt_cmpR op_ne (pe_callB (call_reprL hG hR.units) rfl (T.free "repr" (by decide)) (by decide +kernel) (pa_cons (pe_op op_cat (pv 1) (pe_lst (pa_cons (pe_glob (v := .int 8) rfl e8 ⟨t8, rfl⟩) (pa_cons (pe_glob (v := .int 20) rfl e9 ⟨t9, rfl⟩) (pa_cons (pe_glob (v := .int 200) rfl ea ⟨ta, rfl⟩) pa_nil))))) pa_nil))
          (pe_callB (call_reprL hG hR.units) rfl (T.free "repr" (by decide)) (by decide +kernel) (pa_cons (pv 2) pa_nil)) (nomark _)) (pss_one (ps_ret pe_bl)) pss_nil)
      (pss_one (ps_ret (pe_callB (cr_all rfl) rfl (T.free "all" (by decide)) (by decide +kernel) (pa_cons
        (pe_lc (own := [("_law_k", 3)]) (g := gName 3) (tt := tYes) rfl scL.nd (pi_range1 rfl (T.free "range" (by decide)) (pa_cons (pe_callB (call_mx rfl) rfl (T.free "max" (by decide)) (by decide +kernel) (pa_cons pe_int (pa_cons (pe_callB (call_mn rfl) rfl (T.free "min" (by decide)) (by decide +kernel) (pa_cons pe_int (pa_cons (pe_callB call_le rfl (T.free "len" (by decide)) (by decide +kernel) (pa_cons (pv 0) pa_nil)) pa_nil))) pa_nil))) pa_nil))
          (blkOk_by (N := NL) (sc := defScope (top 58)) (by decide +kernel)) (fun _ _ _ _ _ => pg_name (i := 3) scL.nd rfl (Or.inl rfl)) (fun _ _ _ _ _ => pts_nil)
          (fun _ _ _ _ _ => pe_callG G1 hG hR rfl g1 k1 b1 (pa_cons (pe_callG G2 hG hR1 rfl g2 k2 b2 (pa_cons (pe_callG G3 hG hR1 rfl g3 k3 b3 (pa_cons (pv 0) (pa_cons (pv 3) pa_nil))) pa_nil)) pa_nil))) pa_nil)))))) 
end
end K2
set_option maxRecDepth 100000
set_option maxHeartbeats 4000000
/-! The end: the law's call where no repr runs. -/
namespace GX
open PySem PySem.Spec PyProof.Rows L2
section
variable {P : Program} {w : World} {K : PySem.W.Frag} {mg mb : Str → Option Value} {k : Nat} {fL a : Addr} {fd : FuncData} {x : Str} {pr : Sp} {s₁ : Shared} {vs : List Value} {ns : List Int}
/-- from an abstract heap that tracks the script at most -/
theorem core_call {H : Hp} (KX : K.In s₁.heap) (atG : s₁.heap.Ns mainGlobals mg) (atB : s₁.heap.Ns builtinsNs mb) (isB : ∀ x : Str, x ≠ "__name__" → mb x = bootBuiltins x) (hlim : s₁.heap.NoLimit) (hg : s₁.gens = #[])
    (ha : s₁.heap.get? a = some { cls := .type "list", data := .seq vs.toArray }) (hr : Room k callerA) (F : ∀ base : Heap, K.In base → base.Ns mainGlobals mg → FnG P w K mg base k fL fd [x] pr) (hbind : ∀ (s : Shared) (u : Value), BindsTo s fd ⟨[u], []⟩ [(x, u)])
    (only : Only H) (hok : HOk P w H s₁.heap) (hA : ∀ b, H b ≠ none → b = a) (hK : H a ≠ none → K.lookup a = none) (hq : pr [.ref a] H (fun v _ => v = .bl true) E0) :
    codeAny (model P w) callerA (.call (.ref fL) ⟨[.ref a], []⟩) (fun r sE => r = .ok (.ret (.bool true)) ∧ OldK s₁.heap sE.heap ∧ sE.os = s₁.os ∧ AllBare sE.gens) s₁ := by
  have atA : ∀ {b : Addr} {u : HO}, H b = some u → b = a := by
    intro b u e
    exact hA b (by rw [e]; simp)
  have noDict : ∀ {b : Addr} {o : Obj} {es : Array DictEntry} {ep : Nat}, s₁.heap.get? b = some o → o.data = .dict es ep → H b = none := by
    intro b o es ep e d
    cases q : H b with
    | none => rfl
    | some u =>
      have e2 := atA q
      rw [e2, ha] at e
      have e3 := Option.some.inj e
      rw [← e3] at d
      cases d
  have ns2 : ∀ {b : Addr} {m : Str → Option Value}, s₁.heap.Ns b m → (hidT s₁.heap H).Ns b m := by
    rintro b m ⟨o, es, ep, e, d, r⟩
    exact ⟨o, es, ep, hidT_get e (noDict e d), d, r⟩
  have kin : K.In (hidT s₁.heap H) := by
    intro b o e
    refine hidT_get (KX b o e) ?_
    cases q : H b with
    | none => rfl
    | some u =>
      have e2 := atA q
      rw [e2] at q e
      rw [hK (by rw [q]; simp)] at e
      cases e
  have hM : Mod K mg (hidT s₁.heap H) := by
    refine ⟨kin, ns2 atG, ⟨mb, ns2 atB, isB⟩, ?_⟩
    obtain ⟨mc, h1, h2⟩ := hlim
    exact ⟨mc, ns2 h1, h2⟩
  have e0 : Env0 P w K mg (hidT s₁.heap H) callerA [] s₁ H := ⟨rfl, hM, fun b o e => of_hidT e, Nat.le_of_eq (hidT_size _ _), trivial, (fun b z => absurd (show b ∈ ([] : List Addr) from z) (by simp)), hok, .of_eq hg⟩
  refine codeAny_mono ((F _ kin (ns2 atG)).go callerA [] s₁ H ⟨[.ref a], []⟩ [.ref a] [.ref a] _ _ rfl hr e0 (hbind s₁ (.ref a)) (.cons rfl .nil) hq) ?_
  intro r sE z
  cases r with
  | error e => exact False.elim z
  | ok fl =>
    cases fl with
    | next => exact z.elim
    | brk => exact z.elim
    | cont => exact z.elim
    | ret u =>
      obtain ⟨v, H', os, bare, un, hok', ru, q⟩ := z
      have ev : v = .bl true := q
      rw [ev] at ru
      obtain rfl : u = Value.bool true := ru
      refine ⟨rfl, OldK.of_keep ?_, os, bare⟩
      intro b o e
      cases q : H b with
      | none => exact un.keep b o e q (fun y => absurd (show b ∈ ([] : List Addr) from y) (by simp)) (by simp)
      | some u =>
        rcases only b with y | ⟨ob, xs, y⟩
        · rw [q] at y; cases y
        · obtain ⟨e1, _⟩ := hok b _ y
          obtain ⟨e2, _⟩ := hok' b _ (un.frzs b ob _ y)
          rw [e] at e1
          rw [Option.some.inj e1]
          exact e2
theorem law_go (KX : K.In s₁.heap) (atG : s₁.heap.Ns mainGlobals mg) (atB : s₁.heap.Ns builtinsNs mb) (isB : ∀ x : Str, x ≠ "__name__" → mb x = bootBuiltins x) (hlim : s₁.heap.NoLimit) (hg : s₁.gens = #[])
    (ha : s₁.heap.get? a = some { cls := .type "list", data := .seq vs.toArray }) (hi : IntsAre vs ns) (hl : ns.length ≤ sizeLine) (hr : Room k callerA) (F : ∀ base : Heap, K.In base → base.Ns mainGlobals mg → FnG P w K mg base k fL fd [x] pr) (hbind : ∀ (s : Shared) (u : Value), BindsTo s fd ⟨[u], []⟩ [(x, u)])
    (hsp : ∀ H : Hp, SqL K H a (ns.map V.int) → pr [.ref a] H (fun v _ => v = .bl true) E0) :
    codeAny (model P w) callerA (.call (.ref fL) ⟨[.ref a], []⟩) (fun r sE => r = .ok (.ret (.bool true)) ∧ OldK s₁.heap sE.heap ∧ sE.os = s₁.os ∧ AllBare sE.gens) s₁ := by
  have rv := vals_ints hi
  have len0 := hi.length
  cases hk : K.lookup a with
  | some o =>
    have e := KX a o hk
    rw [ha] at e
    have e2 := Option.some.inj e
    subst e2
    have hS : SqL K (fun _ => none) a (ns.map V.int) := .inr ⟨_, vs.toArray, _, hk, rfl, rfl, rfl, by rw [List.size_toArray, len0]; exact hl, by simpa using rv⟩
    exact core_call (H := fun _ => none) KX atG atB isB hlim hg ha hr F hbind (fun _ => .inl rfl) (fun _ _ z => nomatch z) (fun _ z => (z rfl).elim) (fun z => (z rfl).elim) (hsp _ hS)
  | none =>
    have at1 : (fun b : Addr => if b = a then some (HO.frz { cls := .type "list", data := .seq vs.toArray } (.lst (ns.map V.int))) else none) a = some (HO.frz { cls := .type "list", data := .seq vs.toArray } (.lst (ns.map V.int))) := if_pos rfl
    have off : ∀ {b : Addr}, b ≠ a → (fun b : Addr => if b = a then some (HO.frz { cls := .type "list", data := .seq vs.toArray } (.lst (ns.map V.int))) else none) b = none := fun h => if_neg h
    refine core_call (H := fun b => if b = a then some (.frz { cls := .type "list", data := .seq vs.toArray } (.lst (ns.map V.int))) else none) KX atG atB isB hlim hg ha hr F hbind ?_ ?_ ?_ (fun _ => hk) (hsp _ (.inl (.inr ⟨_, at1⟩)))
    · intro b
      by_cases h : b = a
      · exact .inr ⟨_, _, by rw [h]; exact at1⟩
      · exact .inl (off h)
    · intro b u z
      by_cases h : b = a
      · subst h
        have z2 := at1.symm.trans z
        have z3 := Option.some.inj z2
        subst z3
        exact ⟨ha, by rw [List.length_map]; exact hl, vs, _, rv, ha⟩
      · have z2 := (off h).symm.trans z
        cases z2
    · intro b z
      by_cases h : b = a
      · exact h
      · exact (z (off h)).elim
end
/-- the walk's end -/
theorem walk_G {l : PySem.W.OpenLaw} {n k : Nat} {q : Program} {loose : List Str} {XP : (Str → Option Value) → Heap → Prop} {YP : World → Heap → Prop} {d : DefRec} {x : Str}
    (hn : l.most = some n) (small : n ≤ sizeLine) (noDef : d.params.defaults = []) (hr : Room k callerA)
    (F : ∀ (w : World) (mg : Str → Option Value) (fL : Addr) (h : Heap), YP w h → h.Ns mainGlobals mg → mg d.name = some (.ref fL) →
      ∃ (K : PySem.W.Frag) (fd : FuncData) (pr : Sp), K.In h ∧ (∀ (s : Shared) (u : Value), BindsTo s fd ⟨[u], []⟩ [(x, u)]) ∧
        (∀ (H : Hp) (a : Addr) (ns : List Int), ns.length ≤ n → SqL K H a (ns.map V.int) → pr [.ref a] H (fun v _ => v = .bl true) E0) ∧
        ∀ base : Heap, K.In base → base.Ns mainGlobals mg → FnG l.prog w K mg base k fL fd [x] pr) :
    PySem.W.WalkO q loose XP YP l.row.toRowW d []
      (fun f vs => PySem.call f vs) := by
  refine Att.attach_call hn noDef ?_
  intro w s₀ s₁ mg mb fL o pm cd doc a vs ns G Y ho hd hcd hmg hobj hints len0 hg
  obtain ⟨K, fd, pr, KX, atB, hsp, hF⟩ := F w mg fL _ Y G.T.g hmg
  exact law_go KX G.T.g G.T.b G.T.builtins G.T.nolimit hg hobj hints (Nat.le_trans len0 small) hr hF atB fun H hS => hsp H a ns len0 hS
end GX

namespace K2
open PySem PySem.Spec PyProof.Rows L2 GX
theorem facts {P : Program} {w : World} {K : PySem.W.Frag} {h : Heap} {mg : Str → Option Value} {f : Addr} (X : K.In h) (G : h.Ns mainGlobals mg) (hfa : mg ("law" : Str) = some (.ref f)) (c : Says K) :
    ∃ fd : FuncData, (∀ (s : Shared) (v : Value), BindsTo s fd ⟨[v], []⟩ [("_law_script", v)]) ∧ ∀ base : Heap, K.In base → base.Ns mainGlobals mg → FnG P w K mg base 4 f fd ["_law_script"] (spLaw K) := by
  have T := cls_of X G c
  obtain ⟨c1, _⟩ := c
  have glo : ∀ p ∈ lawDefs, mg p.1 = some (.ref (He.ga K p.1)) := fun p hp => He.glo_ok X G (He.SaysD.facts c1 (by
    unfold fa
    refine List.mem_append_left _ (List.mem_append_left _ (List.mem_append_left _ (List.mem_append_left _ ?_)))
    exact List.mem_map.mpr ⟨p, hp, rfl⟩))
  have dfs : ∀ p ∈ lawDefs, ∃ fd, FunD K p.1 p.1 (defArgs (top p.2)) (defBody (top p.2)) (defScope (top p.2)) [] [] (He.ga K p.1) fd := fun p hp => He.SaysD.defs c1 (d := dTop p.1 p.2) (List.mem_append_left _ (List.mem_map.mpr ⟨p, hp, rfl⟩))
  obtain ⟨fd0, F0⟩ := dfs ("_law_cell", 48) (by decide +kernel)
  obtain ⟨fd1, F1⟩ := dfs ("_law_pool", 49) (by decide +kernel)
  obtain ⟨fd2, F2⟩ := dfs ("_law_draw", 50) (by decide +kernel)
  obtain ⟨fd3, F3⟩ := dfs ("_law_kind", 51) (by decide +kernel)
  obtain ⟨fd4, F4⟩ := dfs ("_law_thing", 52) (by decide +kernel)
  obtain ⟨fd5, F5⟩ := dfs ("_law_by_value", 53) (by decide +kernel)
  obtain ⟨fd6, F6⟩ := dfs ("_law_by_index", 54) (by decide +kernel)
  obtain ⟨fd7, F7⟩ := dfs ("_law_by_names", 55) (by decide +kernel)
  obtain ⟨fd8, F8⟩ := dfs ("_law_by_limit", 56) (by decide +kernel)
  obtain ⟨fd9, F9⟩ := dfs ("_law_right", 57) (by decide +kernel)
  obtain ⟨fd, F⟩ := dfs ("law", 58) (by decide +kernel)
  have g0 := glo ("_law_cell", 48) (by decide +kernel)
  have g1 := glo ("_law_pool", 49) (by decide +kernel)
  have g2 := glo ("_law_draw", 50) (by decide +kernel)
  have g3 := glo ("_law_kind", 51) (by decide +kernel)
  have g4 := glo ("_law_thing", 52) (by decide +kernel)
  have g5 := glo ("_law_by_value", 53) (by decide +kernel)
  have g6 := glo ("_law_by_index", 54) (by decide +kernel)
  have g7 := glo ("_law_by_names", 55) (by decide +kernel)
  have g8 := glo ("_law_by_limit", 56) (by decide +kernel)
  have g9 := glo ("_law_right", 57) (by decide +kernel)
  have e := hfa.symm.trans (glo ("law", 58) (by decide +kernel))
  cases e
  have b0 : Binds K fd0 ["_law_script", "_law_k"] [] := F0.bindsN fun _ _ _ _ _ _ us hl => match us, hl with | [_, _], _ => rfl
  have b1 : Binds K fd1 ["_law_figure"] [] := F1.bindsN fun _ _ _ _ _ _ us hl => match us, hl with | [_], _ => rfl
  have b2 : Binds K fd2 ["_law_pool_here", "_law_most"] [] := F2.bindsN fun _ _ _ _ _ _ us hl => match us, hl with | [_, _], _ => rfl
  have b3 : Binds K fd3 ["_law_e"] [] := F3.bindsN fun _ _ _ _ _ _ us hl => match us, hl with | [_], _ => rfl
  have b4 : Binds K fd4 ["_law_pool_here"] [] := F4.bindsN fun _ _ _ _ _ _ us hl => match us, hl with | [_], _ => rfl
  have b5 : Binds K fd5 ["_law_a"] [] := F5.bindsN fun _ _ _ _ _ _ us hl => match us, hl with | [_], _ => rfl
  have b6 : Binds K fd6 ["_law_a"] [] := F6.bindsN fun _ _ _ _ _ _ us hl => match us, hl with | [_], _ => rfl
  have b7 : Binds K fd7 ["_law_a", "_law_b"] [] := F7.bindsN fun _ _ _ _ _ _ us hl => match us, hl with | [_, _], _ => rfl
  have b8 : Binds K fd8 ["_law_a"] [] := F8.bindsN fun _ _ _ _ _ _ us hl => match us, hl with | [_], _ => rfl
  have b9 : Binds K fd9 ["_law_pool_here"] [] := F9.bindsN fun _ _ _ _ _ _ us hl => match us, hl with | [_], _ => rfl
  have b := FunD.bindsA (ps := ["_law_script"]) F fun _ _ _ _ _ _ us hl => match us, hl with | [_], _ => rfl
  refine ⟨fd, fun s v => b s [v] rfl, fun base _ _ => ?_⟩
  have K3 := ok_kind (P := P) (w := w) (base := base) F3 T
  have D := ok_draw (P := P) (w := w) (base := base) F2 T
  exact ok_law F T
    (ok_right F9 (ok_thing F4 T D g2 F2.kp b2) g4 F4.kp b4 (ok_by_value F5 T K3 g3 F3.kp b3) g5 F5.kp b5 (ok_by_index F6 T K3 g3 F3.kp b3) g6 F6.kp b6
      (ok_by_names F7 T K3 g3 F3.kp b3) g7 F7.kp b7 (ok_by_limit F8 T K3 g3 F3.kp b3) g8 F8.kp b8) g9 F9.kp b9
    (ok_pool F1 T) g1 F1.kp b1 (ok_cell F0 T) g0 F0.kp b0
end K2
open PySem PySem.W PySem.Calls PyProof.Rows
theorem PySem.Challenge.cw_missbounds_k02_errors_and_limits_holds : PySem.Challenge.rw_missbounds_k02_errors_and_limits.Holds := by
  w_on; o_law
  refine HandSHeadRun.head_any (r := OpenLaw.row PySem.Challenge.rw_missbounds_k02_errors_and_limits) (q := view (OpenLaw.row PySem.Challenge.rw_missbounds_k02_errors_and_limits).prog [58]) (H := K2.hk) (ob := K2.ob) (M := 20000) (loose := K2.loose) (d := HandSHeadRun.topDef (OpenLaw.row PySem.Challenge.rw_missbounds_k02_errors_and_limits).prog 58) (kwd := []) K2.ob_eq
    (by kernel_rfl) (fun s => by kernel_rfl) K2.run (by kernel_rfl) (by kernel_rfl) (by kernel_rfl) (by rfl) (by first | assumption | decide +kernel) (by decide +kernel) ⟨rfl, rfl, rfl, rfl, rfl, by decide +kernel⟩ ?hw ?hc
  case hw => w_witness2
  case hc =>
    refine GX.walk_G (l := PySem.Challenge.rw_missbounds_k02_errors_and_limits) (n := 63) (k := 4) (x := "_law_script") rfl (by decide) (by kernel_rfl) ⟨rfl, by decide, by decide⟩ ?F
    intro w mg fa h Y G hmg0
    obtain ⟨K, KX, c⟩ := Y
    have hmg : mg ("law" : PySem.Str) = some (.ref fa) := by
      have e : (HandSHeadRun.topDef (OpenLaw.row PySem.Challenge.rw_missbounds_k02_errors_and_limits).prog 58).name = ("law" : PySem.Str) := by kernel_rfl
      rw [← e]
      exact hmg0
    obtain ⟨fd, hb, hF⟩ := K2.facts (P := (PySem.Challenge.rw_missbounds_k02_errors_and_limits).prog) (w := w) KX G hmg c
    exact ⟨K, fd, K2.spLaw K, KX, hb, fun H a ns hl hS => ⟨a, ns, rfl, hS, hl, fun _ => rfl⟩, hF⟩
