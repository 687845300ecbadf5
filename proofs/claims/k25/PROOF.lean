import PyProof.Rows.All
import Wide.All
import OpenK.AllK
import Wide.FinOn
import HandS.ForMost
import HandS.Strs
import HandS.IsInst
import HandS.Evl
import HandS.MakeKw
import HandS.WideBits
import HandS.Star
import HandS.Walk
import HandS.Conv
import HandS.RaiseMore
import HandS.FStr
import HandS.Style
import HandS.More
import HandS.OwnEq
import PyProof.InstNe
import HandS.ListItems
import HandS.Defaults
import HandS.Comp
import HandS.CallLocal
import PyProof.P3Eq
import PyProof.MeetsIn
import PyProof.FString4
import PyProof.EqKinds
import PyProof.EqAt
import PyProof.DictUpdate
import PyProof.DictDisplay
import PyProof.DictCopy
import KE.KStar
import KE.KExcInit
import HandS.Zip
import HandS.TupAny
import HandS.TryMany
import HandS.Text
import HandS.Property
import HandS.MakeKwOnly
import HandS.Lambda
import HandS.Iter
import HandS.ExcOwn
import HandS.ExcIs
import HandS.ExcInit
import HandS.Exc
import HandS.EndTab
import HandS.DictEq
import HandS.Deep
import KE.GoesEnumKw
import PySem.Challenge.RW_chargeways_k25_whole_take_and_give_plans
import KE.KStateDown
import HandS.Base
import HandS.Call
import HandS.Ends
import HandS.Words
import HandS.Dict
import HandS.Head0
import HandS.Head1
import HandS.Head2
import HandS.HeadEnd
import HandS.HeadHook1
import HandS.HeadHook2
import HandS.HeadHook3
import HandS.HeadHook4
set_option Elab.async false
set_option linter.all false
set_option maxRecDepth 100000
set_option maxHeartbeats 4000000
/-! Promises kept where no repr is under way (the guards are empty): calls, methods, makings, bodies. -/
namespace GL
open PySem PySem.Spec PyProof.Rows L2
abbrev Fre (A : Around) : Prop := A.guards = some []
theorem fre_make {A : Around} {C : Addr} {us : List Value} {kw : List (Str × Value)} (h : Fre A) : Fre (A.under (.builtin "type.__call__" ⟨.ref C :: us, kw⟩)) := by
  first | exact h | simpa [Around.under, Code.guards, pushGuards, Code.isGuard] using h
/-- as FnOk, where nothing is being shown -/
structure FnG (P : Program) (w : World) (K : PySem.W.Frag) (mg : Str → Option Value) (base : Heap) (CX : CXT) (k : Nat) (f : Addr) (fd : FuncData) (ps : List Str) (sp : Sp) : Prop where
  many : ∀ vs H Q E, sp vs H Q E → vs.length = ps.length
  goes : ∀ {A : Around} {outer : List Env} {s : Shared} {H : Hp} {args : Args} {us : List Value} {vs : List V} {Q : VK} {E : XK}, Fre A → Room k A →
    Env0 P w K mg base A outer s H → BindsTo s fd args (ps.zip us) → Vals vs us → sp vs H Q E → codeAny (model P w) A (.call (.ref f) args) (CR CX outer P w H s Q E) s
section
variable {X : Cx} {CX : CXT} {k : Nat} {f C : Addr} {fd : FuncData} {ps ks : List Str} {sp : Sp} {dvs : List V} {ds : List Value} {E : XK} {x m : Str} {p pos apos : Pos} {e o : Expr} {es : List Expr} {kws : List Keyword} {ta : TE} {t tk : TA}
  {g : List Value → List Value → List Value} {gV : List V → List V → List V} {pins : List (Addr × Obj)} {σ : L2.St} {H : Hp} {s : Shared} {Q : VK} {us ws : List Value} {vs zs : List V}
/-- a call's result, taken into the caller's frame -/
theorem landed {code : Code} (hx : Passes CX X E) (I : Inv X pins σ H s) (h : codeAny (model X.prog X.w) X.A code (CR CX X.stack X.prog X.w H s Q E) s) :
    codeAny (model X.prog X.w) X.A code (fun r s' => match r with
      | .ok (.ret u) => EP X pins σ Q u s'
      | .ok _ => False
      | .error e => X.xe e s') s := by
  refine codeAny_mono h ?_
  intro r s' hq
  match r, hq with
  | .error e, hq => exact hx pins σ H s e s' I hq
  | .ok (.ret u), hq => exact I.after hq
  | .ok .next, hq => exact hq
  | .ok .brk, hq => exact hq
  | .ok .cont, hq => exact hq
theorem ran {v : Value} {args : List Value} {kw : List (Str × Value)} (h : codeAny (model X.prog X.w) X.A (.call v ⟨args, kw⟩) (fun r s' => match r with
      | .ok (.ret u) => EP X pins σ Q u s'
      | .ok _ => False
      | .error e => X.xe e s') s) : wpAny (model X.prog X.w) X.A (call v args kw) (EP X pins σ Q) X.xe s := by
  refine wpAny_call (codeAny_mono h ?_)
  intro r s' hq
  match r, hq with
  | .error e, hq => exact hq
  | .ok (.ret u), hq => exact hq
theorem ranF (G : Fre X.A) (F : FnG X.prog X.w X.K X.mg X.base CX k f fd ps sp) (hr : Room k X.A) (hb : Binds X.K fd ps ds) (hd : Vals dvs ds) (hx : Passes CX X E) (I : Inv X pins σ H s) (r : Vals vs us) (h : sp (vs ++ dvs) H Q E) :
    wpAny (model X.prog X.w) X.A (call (.ref f) us) (EP X pins σ Q) X.xe s :=
  have ra := r.append hd
  ran (landed hx I (F.goes G hr I.env0 (hb s us I.kIn (ra.length.symm.trans (F.many _ _ _ _ h))) ra h))
/-- f(e, ..) -/
theorem pc (G : Fre X.A) (F : FnG X.prog X.w X.K X.mg X.base CX k f fd ps sp) (hr : Room k X.A) (hg : Gl X x) (hm : X.mg x = some (.ref f)) (hk : PySem.W.keepIn X.K (.ref f) = true) (hb : Binds X.K fd ps ds) (hd : Vals dvs ds) (hx : Passes CX X E)
    (ha : PA X (e :: es) t) (ndb : (x == ("__debug__" : Str)) = false := by decide) (he : starEach (e :: es) X.env = (false, eval e X.env) :: starEach es X.env := by rfl) (hpl : (backTo pos (starEach es X.env)).any (·.1) = false := by rfl) :
    PE X (.Call (.Name x p) (e :: es) [] pos) (tCall sp dvs E t) where
  run := fun pins s σ H Q I h => wpAny_Call_Name_kw (ld_glob I hg hm
    (PySem.W.callWith_K I.ok.mod.kin hk (thn (ha.run pos pins s σ H _ I h) fun us s1 ⟨vs, H1, I1, r, q⟩ => ⟨I1.kIn, ranF G F hr hb hd hx I1 r q⟩) he hpl) ndb)
theorem pc0 (G : Fre X.A) (F : FnG X.prog X.w X.K X.mg X.base CX k f fd ps sp) (hr : Room k X.A) (hg : Gl X x) (hm : X.mg x = some (.ref f)) (hk : PySem.W.keepIn X.K (.ref f) = true) (hb : Binds X.K fd ps ds) (hd : Vals dvs ds) (hx : Passes CX X E)
    (ndb : (x == ("__debug__" : Str)) = false := by decide) : PE X (.Call (.Name x p) [] [] pos) (tCall sp dvs E tNil) where
  run := fun pins s σ H Q I h => wpAny_Call_Name_kw (ld_glob I hg hm (PySem.W.callWith_K0 I.kIn hk (ranF (us := []) G F hr hb hd hx I .nil h)) ndb)
/-- o.m(e, ..) -/
theorem pm {pl : Sem Bool} (G : Fre X.A) (he : PE X o ta) (c : Cls X.K C) (hm : Meth X.K C m f) (F : FnG X.prog X.w X.K X.mg X.base CX k f fd ps sp) (hr : Room k X.A) (hb : Binds X.K fd ps ds) (hd : Vals dvs ds) (hx : Passes CX X E) (ha : PA X (e :: es) t)
    (hse : starEach (e :: es) X.env = (false, eval e X.env) :: starEach es X.env := by rfl) (hpl : (backTo pos (starEach es X.env)).any (·.1) = false := by rfl)
    (hev : eval (.Call (.Attribute o m apos) (e :: es) [] pos) X.env = (do
      let ov ← eval o X.env
      standAt apos.atName
      let (fn, frst) ← holding [ov] (getMethod ov m pl)
      callWith pos fn frst (backTo pos (starEach (e :: es) X.env)) (backToKw pos (keywordEach [] X.env))) := by rfl) : PE X (.Call (.Attribute o m apos) (e :: es) [] pos) (tMeth C m sp dvs E ta t) := by
  constructor
  intro pins s σ H Q I h
  refine PySem.W.methodCall_KW (pl := pl) (thn (he.run pins s σ H _ I h) ?_) hev
  rintro u s1 ⟨v, H1, I1, rv, a, dx, fs, rfl, ea, l, q⟩
  cases rv
  refine getmeth_ok I1 ea c hm l (PySem.W.callWith_K (first := [.ref a]) (h₀ := X.base) I.ok.mod.kin hm.kp (thn (ha.run pos pins s1 σ H1 _ I1 q) ?_) hse hpl)
  rintro us s2 ⟨vs, H2, I2, r, q2⟩
  exact ⟨I2.kIn, ranF (us := .ref a :: us) (vs := .ref a :: vs) G F hr hb hd hx I2 (.cons rfl r) q2⟩
theorem pm0 {pl : Sem Bool} (G : Fre X.A) (he : PE X o ta) (c : Cls X.K C) (hm : Meth X.K C m f) (F : FnG X.prog X.w X.K X.mg X.base CX k f fd ps sp) (hr : Room k X.A) (hb : Binds X.K fd ps ds) (hd : Vals dvs ds) (hx : Passes CX X E)
    (hev : eval (.Call (.Attribute o m apos) [] [] pos) X.env = (do
      let ov ← eval o X.env
      standAt apos.atName
      let (fn, frst) ← holding [ov] (getMethod ov m pl)
      callWith pos fn frst (backTo pos (starEach [] X.env)) (backToKw pos (keywordEach [] X.env))) := by rfl) : PE X (.Call (.Attribute o m apos) [] [] pos) (tMeth C m sp dvs E ta tNil) := by
  constructor
  intro pins s σ H Q I h
  refine PySem.W.methodCall_KW (pl := pl) (thn (he.run pins s σ H _ I h) ?_) hev
  rintro u s1 ⟨v, H1, I1, rv, a, dx, fs, rfl, ea, l, q⟩
  cases rv
  exact getmeth_ok I1 ea c hm l (PySem.W.callWith_K0 (first := [.ref a]) I1.kIn hm.kp (ranF (us := [.ref a]) (vs := [.ref a]) G F hr hb hd hx I1 (.cons rfl .nil) q))
/-- C(..): the instance is made, then its __init__ -/
theorem ranM (G : Fre X.A) (M : Mk X.K C f) (F : FnG X.prog X.w X.K X.mg X.base CX k f fd ps sp) (hr : Room (k + 1) X.A) (hb : Binds X.K fd ps ds) (hd : Vals dvs ds) (hx : Passes CX X E) (I : Inv X pins σ H s) (r : Vals vs us)
    (h : ∀ y dy, H y = none → H dy = none → dy ≠ y → sp (.ref y :: (vs ++ dvs)) (upd (upd H dy (.own y)) y (.ins C dy [])) (fun v H2 => v = .non ∧ Q (.ref y) H2) E) : wpAny (model X.prog X.w) X.A (call (.ref C) us) (EP X pins σ Q) X.xe s := by
  have h0 := h (s.heap.objs.size + 1) s.heap.objs.size (I.hok.fresh (Nat.le_succ _)) (I.hok.fresh (Nat.le_refl _)) (Nat.ne_of_lt (Nat.lt_succ_self _))
  have J := Inv.made (C := C) I
  have rz : Vals (V.ref (s.heap.objs.size + 1) :: (vs ++ dvs)) (Value.ref (s.heap.objs.size + 1) :: (us ++ ds)) := .cons rfl (r.append hd)
  have hl : (Value.ref (s.heap.objs.size + 1) :: us ++ ds).length = ps.length := rz.length.symm.trans (F.many _ _ _ _ h0)
  have run := F.goes (fre_make G) (hr.make C us []) (J.env0.make C us []) (hb _ (Value.ref (s.heap.objs.size + 1) :: us) J.kIn hl) rz h0
  refine wpAny_call (make_map (f := f) I.kIn M.makes M.init (beq_iff_eq.mp M.fn) (codeAny_mono run ?_))
  intro r s' z
  match r, z with
  | .error e, z => exact hx pins σ _ _ e s' J z
  | .ok (.ret u), z =>
    obtain ⟨v, H', I3, rv, ev, q3⟩ := J.after z
    cases ev
    exact And.intro rv ⟨V.ref (s.heap.objs.size + 1), H', I3, rfl, q3⟩
  | .ok .next, z => exact z.elim
  | .ok .brk, z => exact z.elim
  | .ok .cont, z => exact z.elim
theorem pk (G : Fre X.A) (M : Mk X.K C f) (F : FnG X.prog X.w X.K X.mg X.base CX k f fd ps sp) (hr : Room (k + 1) X.A) (hg : Gl X x) (hm : X.mg x = some (.ref C)) (hb : Binds X.K fd ps ds) (hd : Vals dvs ds) (hx : Passes CX X E)
    (ha : PA X (e :: es) t) (ndb : (x == ("__debug__" : Str)) = false := by decide) (he : starEach (e :: es) X.env = (false, eval e X.env) :: starEach es X.env := by rfl) (hpl : (backTo pos (starEach es X.env)).any (·.1) = false := by rfl) :
    PE X (.Call (.Name x p) (e :: es) [] pos) (tMake C sp dvs E t) where
  run := fun pins s σ H Q I h => wpAny_Call_Name_kw (ld_glob I hg hm
    (PySem.W.callWith_K I.ok.mod.kin M.kp (thn (ha.run pos pins s σ H _ I h) fun us s1 ⟨vs, H1, I1, r, q⟩ => ⟨I1.kIn, ranM G M F hr hb hd hx I1 r q⟩) he hpl) ndb)
end
/-- a body keeps its promise -/
theorem bodied {CX : CXT} {P : Program} {w : World} {K : PySem.W.Frag} {mg : Str → Option Value} {base : Heap} {k : Nat} {f : Addr} {name qual : Str} {params : Arguments} {body : List Stmt} {scope : Scope} {dV kV doc pm cdv ct oc : Value} {an od : Option Addr}
    {sl0 : Array (Option Value)} {N ps : List Str} {sp : Sp} (lk : K.lookup f = some ⟨oc, od, .func (PySem.W.fnOf name qual params body scope dV kV doc pm an cdv ct), sl0⟩) (hcd : PySem.W.codeIn K cdv qual = true) (S : FnScope N ps scope)
    (many : ∀ vs H Q E, sp vs H Q E → vs.length = ps.length)
    (hb : ∀ (A : Around) (outer : List Env) (s : Shared) (H : Hp) (vs : List V) (Q : VK) (E : XK), Fre (A.deeper (envOfC qual scope s.heap.objs.size f cdv)) → Room k (A.deeper (envOfC qual scope s.heap.objs.size f cdv)) → sp vs H Q E →
      ∃ tr, PSs (cxOf CX P w K mg base N qual scope f cdv A outer s H E) body tr ∧ tr { nx := fun _ H' => Q .non H', rt := Q } (start N vs) H) :
    FnG P w K mg base CX (k + 1) f (PySem.W.fnOf name qual params body scope dV kV doc pm an cdv ct) ps sp := by
  refine ⟨many, ?_⟩
  intro A outer s H args us vs Q E hgd hr e0 hbd r hsp
  have KI : K.In s.heap := e0.mod.kin.keeps fun b o e => (e0.bs b o e).1
  have kinds : ∀ y ∈ ps.zip us, scope.names.lookup y.1 = some .local ∨ (scope.names.lookup y.1 = some .cell ∧ ((cellsFrom (s.heap.objs.size + 1) scope.names []).lookup y.1).isSome = true) := by
    rintro ⟨n, v⟩ hy
    exact (S.par n (List.of_mem_zip hy).1).imp id fun q => ⟨q, PySem.W.cellsFrom_some _ _ _ (.inl q)⟩
  refine codeAny_call_function hr.depth (KI _ _ lk) rfl S.co S.gen rfl (PySem.W.codeRec_of KI hcd) (hbd _ _ _ _ (wpAny_newFunctionEnv_cells S.kind kinds ?_))
  rintro env rfl s1 x
  refine ⟨(e0.mod.nolimit.keeps fun b o e => (e0.bs b o e).1).keeps x.toInCall.keep, codeAny_func ?_⟩
  obtain ⟨t, ht, hq⟩ := hb A outer s H vs Q E hgd (hr.deeper _) hsp
  have I := inv_start (CX := CX) (E := E) S hr.hd e0 (many _ _ _ _ hsp) r x
  refine wpAny_mono (ht.run [] s1 (start N vs) H _ I hq) ?_ (fun _ _ z => z)
  intro fl s' z
  match fl, z with
  | .ret u, z =>
    obtain ⟨v, σ', H', J, rv, q⟩ := z
    exact ⟨v, H', J.os, J.bare, J.base, J.hok, rv, q⟩
  | .next, z =>
    obtain ⟨σ', H', J, q⟩ := z
    exact ⟨V.non, H', J.os, J.bare, J.base, J.hok, rfl, q⟩
  | .brk, z => exact z.elim fun _ z => z.elim fun _ z => z.2.elim
  | .cont, z => exact z.elim fun _ z => z.elim fun _ z => z.2.elim
section
variable {P : Program} {w : World} {K : PySem.W.Frag} {mg : Str → Option Value} {base : Heap} {x qual : Str} {st : Stmt} {f : Addr} {fd : FuncData} {N ps : List Str} {k : Nat} {sp : Sp} {CX : CXT}
theorem okG (F : L2.Fun K x qual st f fd) (S : FnScope N ps (defScope st)) (many : ∀ vs H Q E, sp vs H Q E → vs.length = ps.length)
    (hb : ∀ (cdv : Value) (A : Around) (outer : List Env) (s : Shared) (H : Hp) (vs : List V) (Q : VK) (E : XK), Fre (A.deeper (envOfC qual (defScope st) s.heap.objs.size f cdv)) → Room k (A.deeper (envOfC qual (defScope st) s.heap.objs.size f cdv)) → sp vs H Q E →
      ∃ t, PSs (cxOf CX0 P w K mg base N qual (defScope st) f cdv A outer s H E).nox (defBody st) t ∧ t { nx := fun _ H' => Q .non H', rt := Q } (start N vs) H) : FnG P w K mg base CX0 (k + 1) f fd ps sp := by
  obtain ⟨c0, o0, kV, doc, pm, an, cdv, ct, s0, rfl, lk, hcd⟩ := F.ex
  exact bodied lk hcd S many fun A outer s H vs Q E g hr hsp => (hb cdv A outer s H vs Q E g hr hsp).imp fun t z => ⟨z.1.nox, z.2⟩
theorem okGD {dvs : List V} {kws : List (Str × V)} (F : L2.FunD K x qual (defArgs st) (defBody st) (defScope st) dvs kws f fd) (S : FnScope N ps (defScope st)) (many : ∀ vs H Q E, sp vs H Q E → vs.length = ps.length)
    (hb : ∀ (cdv : Value) (A : Around) (outer : List Env) (s : Shared) (H : Hp) (vs : List V) (Q : VK) (E : XK), Fre (A.deeper (envOfC qual (defScope st) s.heap.objs.size f cdv)) → Room k (A.deeper (envOfC qual (defScope st) s.heap.objs.size f cdv)) → sp vs H Q E →
      ∃ t, PSs (cxOf CX0 P w K mg base N qual (defScope st) f cdv A outer s H E).nox (defBody st) t ∧ t { nx := fun _ H' => Q .non H', rt := Q } (start N vs) H) : FnG P w K mg base CX0 (k + 1) f fd ps sp := by
  obtain ⟨c0, o0, dV, kV, doc, pm, an, cdv, ct, s0, rfl, lk, hcd, _, _⟩ := F.ex
  exact bodied lk hcd S many fun A outer s H vs Q E g hr hsp => (hb cdv A outer s H vs Q E g hr hsp).imp fun t z => ⟨z.1.nox, z.2⟩
end
end GL
namespace GL
open PySem PySem.Spec PyProof.Rows L2
section
variable {X : Cx} {CX : CXT} {k : Nat} {f C : Addr} {fd : FuncData} {sp : Sp} {E : XK}
/-- len(o), o of a class with an own __len__ -/
theorem call_lenG (G : Fre X.A) (F : FnG X.prog X.w X.K X.mg X.base CX k f fd ["self"] sp) (hr : Room (k + 1) X.A) (hb : Binds X.K fd ["self"] []) (hs : PySem.W.findIn X.K (.ref C) "__len__" = some (some (.ref f))) (hf : PySem.W.isFn X.K (.ref f) = true) (hx : Passes CX X E) :
    CallR X (.builtin "len") (fun xs H Q => ∃ a dx fs, xs = [.ref a] ∧ H a = some (.ins C dx fs) ∧ sp [.ref a] H (fun v H' => ∃ n : Nat, v = .int (n : Int) ∧ n < 1000000 ∧ Q (.int (n : Int)) H') E) := by
  intro pins s σ H xs us Q I r h
  obtain ⟨a, dx, fs, rfl, ha, h⟩ := h
  cases r with
  | cons r rt =>
    cases rt
    cases r
    obtain ⟨mA, O, _⟩ := ins_get I.hok ha
    obtain ⟨m, fr⟩ := I.fr
    obtain ⟨od, es, ep, hod, _⟩ := O.ns
    refine PySem.W.len_K (od := some od) fr I.ok.mod.kin ⟨O.obj, rfl, rfl, hod⟩ hs hf ?_
    refine wpAny_call (codeAny_mono (F.goes (A := X.A.in1) (outer := X.stack) (vs := [.ref a]) (us := [.ref a]) G hr.in1 I.env0.in1 (hb s [.ref a] I.kIn rfl) (.cons rfl .nil) h) ?_)
    intro r s' z
    match r, z with
    | .error e, z => exact hx pins σ H s e s' I z
    | .ok (.ret u), z =>
      obtain ⟨v, H', I3, rv, n, rfl, hn, q⟩ := I.after z
      obtain ⟨t, rfl⟩ := rv
      refine ⟨⟨by omega, by omega⟩, ⟨.int n, H', I3.tok _, ⟨_, rfl⟩, q⟩⟩
/-- repr(x) of a list or tuple of data -/
def rRepr (K : PySem.W.Frag) : List V → Hp → VK → Prop := fun xs H Q => ∃ v d, xs = [v] ∧ Dp K H v d ∧ isDisplay d = true ∧ d.showable = true ∧ d.hasDict = false ∧ d.depth ≤ 60 ∧ d.shown.length ≤ sizeLine ∧ Q (.str d.shown) H
theorem call_repr (G : Fre X.A) (hu : X.A.units + 64 < cLine) : CallR X (.builtin "repr") (rRepr X.K) := by
  intro pins s σ H xs us Q I r h
  obtain ⟨v, d, rfl, hd, h1, h2, h3, h4, h5, q⟩ := h
  cases r with
  | cons r rt =>
    cases rt
    obtain ⟨as, rd⟩ := Dp.reads I d v _ hd r
    obtain ⟨a, rfl⟩ := isRef_of_reads rd h1
    exact repr_of_reads' rd h2 (PyData.noDict_hsm h3) G (by omega) (fun _ _ e => e) (fun h' u tk hk => ⟨.str d.shown, H, I.kept hk, ⟨u, rfl⟩, q⟩) h5
end
/-! ### enumerate from any start, over lists and tuples -/
structure Src (K : PySem.W.Frag) (SQ : Hp → Addr → List V → Prop) (HI : Heap → Addr → Array Value → Prop) (IT : Heap → Addr → Addr → Nat → Prop) : Prop where
  at_ : ∀ {X : Cx} {pins : List (Addr × Obj)} {σ : L2.St} {H : Hp} {s : Shared} {a : Addr} {xs : List V}, X.K = K → L2.Inv X pins σ H s → SQ H a xs → ∃ its : List Value, Vals xs its ∧ HI s.heap a its.toArray
  inj : ∀ {X : Cx} {pins : List (Addr × Obj)} {σ : L2.St} {H : Hp} {s : Shared} {a : Addr} {xs ys : List V}, X.K = K → L2.Inv X pins σ H s → SQ H a xs → SQ H a ys → xs = ys
  obj : ∀ {h : Heap} {it a : Addr} {i : Nat}, IT h it a i → ∃ o, h.get? it = some o ∧ ∀ v, o.data ≠ .cell v
  keep : ∀ {h h' : Heap} {it a : Addr} {i : Nat}, IT h it a i → (∀ o, h.get? it = some o → h'.get? it = some o) → IT h' it a i
  ne1 : ∀ {h : Heap} {it a b : Addr} {i : Nat} {vs : Array Value}, IT h it a i → HI h b vs → b ≠ it
  ne2 : ∀ {h : Heap} {e x a : Addr} {k : Int} {old : Value} {vs : Array Value}, IsEnum h e x k old → HI h a vs → a ≠ e
  dr : ∀ {prog : Program} {w : World} {A : Around}, A.handled = none → ∀ (it l : Addr), l ≠ it → ∀ vs : Array Value, Draws prog w A it [it, l] vs.size (fun i v => vs[i]? = some v) (fun i h => IT h it l i ∧ HI h l vs)
theorem src_list (K : PySem.W.Frag) : Src K (SqL K) (fun h a vs => h.IsList a vs) (fun h it a i => h.IsListIter it a i) where
  at_ := fun e I h => by subst e; obtain ⟨its, r, p, _⟩ := I.list h; exact ⟨its, r, p.isList⟩
  inj := fun e I h h' => by subst e; exact I.list_inj h h'
  obj := fun ⟨o, ho, hc, hd⟩ => ⟨o, ho, fun v q => by rw [hd] at q; cases q⟩
  keep := fun h k => h.at k
  ne1 := fun ⟨o, ho, hc, hd⟩ ⟨o', ho', hc', n, hd'⟩ e => by subst e; rw [ho] at ho'; cases ho'; rw [hd] at hd'; cases hd'
  ne2 := fun he ⟨o', ho', hc', n, hd'⟩ e => by subst e; rw [he] at ho'; cases ho'; cases hd'
  dr := fun hh it l hne vs => Draws.list hh it l hne vs
theorem src_tup (K : PySem.W.Frag) : Src K (SqT K) (fun h a vs => h.IsTuple a vs) (fun h it a i => h.IsTupleIter it a i) where
  at_ := fun e I h => by subst e; obtain ⟨its, r, p, _⟩ := I.tuple h; exact ⟨its, r, p⟩
  inj := fun e I h h' => by subst e; exact I.tuple_inj h h'
  obj := fun ⟨o, ho, hc, hd⟩ => ⟨o, ho, fun v q => by rw [hd] at q; cases q⟩
  keep := fun h k => h.at k
  ne1 := fun ⟨o, ho, hc, hd⟩ ⟨o', ho', hc', n, hd'⟩ e => by subst e; rw [ho] at ho'; cases ho'; rw [hd] at hd'; cases hd'
  ne2 := fun he ⟨o', ho', hc', n, hd'⟩ e => by subst e; rw [he] at ho'; cases ho'; cases hd'
  dr := fun hh it l hne vs => Draws.tuple hh it l hne vs
section
variable {K : PySem.W.Frag} {SQ : Hp → Addr → List V → Prop} {HI : Heap → Addr → Array Value → Prop} {IT : Heap → Addr → Addr → Nat → Prop}
def ItE (SQ : Hp → Addr → List V → Prop) (a : Addr) (k : Int) : It where
  go := fun i H => ∃ (xs : List V) (x : V), SQ H a xs ∧ xs[i]? = some x
  yld := fun i H v H' => ∃ T x, v = .ref T ∧ H T = none ∧ H' = upd H T (.tup [.int (k + (i : Nat)), x]) ∧ ∀ xs, SQ H a xs → xs[i]? = some x
  stop := fun i H => ∃ xs : List V, SQ H a xs ∧ xs.length = i
theorem turn_enumE {P : Program} {w : World} {elts : List Expr} {kk : Nat} {tpos : Pos} (S : Src K SQ HI IT) (k : Int) (a e it : Addr) :
    Turn P w K (.Tuple elts kk tpos) (ItE SQ a k) [e, it] e (fun i h => (∃ old, IsEnum h e it (k + (i : Nat)) old) ∧ IT h it a i ∧ e ≠ it) where
  mem := List.mem_cons_self
  obj := fun i h st b hb => by
    obtain ⟨⟨old, he⟩, hit, _⟩ := st
    rcases List.mem_cons.mp hb with rfl | hb
    · exact ⟨_, he, fun v q => nomatch q⟩
    · cases List.mem_singleton.mp hb
      exact S.obj hit
  keep := fun i h h' st k => by
    obtain ⟨⟨old, he⟩, hit, hne⟩ := st
    exact ⟨⟨old, k e (by simp) _ he⟩, S.keep hit fun o q => k it (by simp) o q, hne⟩
  item := by
    intro X hP hw hK hc i pins s σ H E I hf st hg
    subst hP hw
    obtain ⟨⟨old, he⟩, hit, hne⟩ := st
    obtain ⟨xs, x, hq, hx⟩ := hg
    obtain ⟨its, rv, p⟩ := S.at_ hK I hq
    obtain ⟨u, hu, ru⟩ := rv.get hx
    have hel : e < s.heap.objs.size := Heap.lt_size he
    have hil : it < s.heap.objs.size := by
      obtain ⟨o, q, _⟩ := S.obj hit
      exact Heap.lt_size q
    have d1 := S.ne1 hit p
    have d2 := S.ne2 he p
    have hu' : its.toArray[i]? = some u := by simpa using hu
    have hlt : i < its.toArray.size := (Array.getElem?_eq_some_iff.mp hu').1
    have hin : (X.A.in1).handled = none := I.ok.hd hc
    refine wpAny_pyNext_enum_itemC (S.dr (A := X.A.in1) hin it a d1 its.toArray) he ⟨hit, p⟩ hlt hne (by
      intro z
      rcases List.mem_cons.mp z with z | z
      · exact hne z
      · exact d2 (List.mem_singleton.mp z).symm) fun y h' tk hy ho hst hT hsz hk => ?_
    have ey : y = u := Option.some.inj (hy.symm.trans hu')
    subst ey
    refine ⟨_, rfl, wpAny_letOwnedTupleGo_enum (s := { s with heap := h', toks := tk + 1 }) ho fun h2 he2 sb => ?_⟩
    have hT2 : h2.get? s.heap.objs.size = some { cls := .type "tuple", data := .seq #[.int (k + (i : Nat)) tk, y] } := (sb.2 _ (Nat.ne_of_gt hel)).trans hT
    have new : ObjOk X.prog X.w (upd H s.heap.objs.size (.tup [.int (k + (i : Nat)), x])) h2 s.heap.objs.size (.tup [.int (k + (i : Nat)), x]) :=
      ⟨show 2 ≤ sizeLine by decide, [.int (k + (i : Nat)) tk, y], .cons ⟨_, rfl⟩ (.cons ru .nil), ⟨_, hT2, rfl, _, rfl⟩⟩
    have J := I.turnedNew (ch := [e, it]) (h' := h2) (t' := tk + 1) (fun b ob hb q => (sb.2 b (fun z => hb (by simp [z]))).trans (hk b ob (fun z => hb (by simp [z])) (fun z => hb (by simp [z])) q)) hf (Nat.le_refl _) new
    refine ⟨.ref s.heap.objs.size, _, J, rfl, ⟨_, x, rfl, I.hok.fresh (Nat.le_refl _), rfl, fun ys hy => ?_⟩, ⟨⟨y, ?_⟩, S.keep hst.1 fun o q => (sb.2 it (Ne.symm hne)).trans q, hne⟩, fun b hb => ?_⟩
    · rw [S.inj hK I hy hq]
      exact hx
    · have e1 : k + ((i + 1 : Nat) : Int) = k + (i : Nat) + 1 := by omega
      rw [e1]
      exact he2
    · have hb' : b < s.heap.objs.size := by
        rcases List.mem_cons.mp hb with rfl | hb
        · exact hel
        · cases List.mem_singleton.mp hb
          exact hil
      rw [upd_ne (Nat.ne_of_lt hb')]
      exact (hf b hb).1
  done := by
    intro X hP hw hK hc i pins s σ H E I hf st hg
    subst hP hw
    obtain ⟨⟨old, he⟩, hit, hne⟩ := st
    obtain ⟨xs, hq, hx⟩ := hg
    obtain ⟨its, rv, p⟩ := S.at_ hK I hq
    obtain ⟨f0, f1, f2, f3, f4, f5⟩ := hf it (by simp)
    have hl := rv.length
    have d1 := S.ne1 hit p
    have hin : (X.A.in1).handled = none := I.ok.hd hc
    have hsz : its.toArray.size = i := by
      rw [List.size_toArray, ← hl, hx]
    subst hsz
    exact wpAny_pyNext_enum_endD (S.dr (A := X.A.in1) hin it a d1 its.toArray) he ⟨hit, p⟩ fun h' eb => ⟨rfl, I.turned (t' := s.toks) (fun b o hb q => eb b o hb q) f0 f1 f3 f4 f5⟩
  self := fun A i s Q E st h => by
    obtain ⟨⟨_, he⟩, _⟩ := st
    exact wpAny_pyIter_enum he h
theorem walk_enumE {a : Addr} {xs : List V} {k : Int} : Walk (ItE SQ a k) xs.length (fun H => SQ H a xs) (YPair (fun i => some (.int (k + (i : Nat)))) (fun i => xs[i]?)) := by
  refine ⟨fun i H hi q => ⟨xs, xs[i], q, by simp [hi]⟩, fun H q => ⟨xs, q, rfl⟩, fun i H v H' hi q y => ?_⟩
  obtain ⟨T, x, h1, h2, h3, h4⟩ := y
  exact ⟨T, .int (k + (i : Nat)), x, h1, h2, h3, rfl, h4 xs q⟩
end
set_option maxHeartbeats 1000000 in
theorem meets_enum0 {v : Value} {o : Obj} {H : Heap → Prop} (B : Begins v o H) :
    Meets (Builtin.«enumerate.__new__» ⟨[.type "enumerate", v], []⟩) (fun _ R s => H s.heap ∧
      R (.ok (.ret (.ref (s.heap.push o).objs.size))) { s with heap := (s.heap.push o).push { cls := .type "enumerate", data := .fields #[.none, .bool false, .ref s.heap.objs.size, rawInt 0, .none, .none] } }) :=
  .of_wp fun prog w A R s h => by
    obtain ⟨hp, g, d, tk, os⟩ := s
    obtain ⟨h1, h⟩ := h
    have hsub := sub_enumerate
    have q1 : ∀ {A' : Around} {E Q : Value → Shared → Prop}, Q (.ref hp.objs.size) ⟨hp.push o, g, d, tk, os⟩ → wpAny (model prog w) A' (pyIter v) Q E ⟨hp, g, d, tk, os⟩ :=
      fun q => B.iter prog w _ _ ⟨hp, g, d, tk, os⟩ _ h1 q
    wp_walk using q1
    refine wpAny_stack_any fun st => wpAny_pure ?_
    split
    · rename_i c _ _ _ _ _
      cases (c == Value.type "enumerate")
      · wp_walk using q1
        exact ⟨_, rfl, h⟩
      · wp_walk using q1
        exact ⟨_, rfl, h⟩
    · wp_walk using q1
      exact ⟨_, rfl, h⟩
section
variable {prog : Program} {w : World} {A : Around} {Er : Value → Shared → Prop} {s : Shared}
theorem enum_begins0 {v : Value} {o : Obj} {H : Heap → Prop} {Q : Value → Shared → Prop} (B : Begins v o H) (h1 : H s.heap)
    (h : ∀ h', IsEnum h' (s.heap.objs.size + 1) s.heap.objs.size 0 .none → h'.get? s.heap.objs.size = some o → (∀ b o, s.heap.get? b = some o → h'.get? b = some o) → Q (.ref (s.heap.objs.size + 1)) { s with heap := h' }) :
    wpAny (model prog w) A (call (.type "enumerate") [v]) Q Er s := by
  refine callType_new F.called_enumerate (by decide) (F.typeCall_enumerate_1 _) (F.newCall_enumerate_1 _) (fun obj => F.args_object_init_2 obj _) F.entry_enumerate_new (meets_enum0 B) ⟨h1, ?_⟩
  have hone : (s.heap.push o).objs.size = s.heap.objs.size + 1 := Heap.size_push ..
  show _ ∧ _
  rw [hone]
  have he : IsEnum ((s.heap.push o).push { cls := .type "enumerate", data := .fields #[.none, .bool false, .ref s.heap.objs.size, rawInt 0, .none, .none] }) (s.heap.objs.size + 1) s.heap.objs.size 0 .none := by
    have q := Heap.get?_push_size (s.heap.push o) (o := { cls := .type "enumerate", data := .fields #[.none, .bool false, .ref s.heap.objs.size, rawInt 0, .none, .none] }) rfl
    rw [hone] at q
    exact q
  exact ⟨⟨_, he, rfl⟩, h _ he (Heap.get?_push_of_some _ (Heap.get?_push_size _ B.free)) fun b o x => Heap.get?_push_of_some _ (Heap.get?_push_of_some _ x)⟩
end
section
variable {X : Cx} {e : Expr} {ta : TA} {te : TE} {p pos tpos kpos : Pos} {elts : List Expr} {kk : Nat}
def iEnT (K : PySem.W.Frag) (ta : TA) : TI := fun σ H R => ta σ H fun vs H1 => ∃ a xs, vs = [.ref a] ∧ SqT K H1 a xs ∧ R (ItE (SqT K) a 0) H1
/-- enumerate(t), t a tuple -/
theorem pi_enumT (hg : Gl X "enumerate") (hm : X.mg "enumerate" = none) (ha : PA X [e] ta) (hs : starEach [e] X.env = [(false, eval e X.env)] := by rfl) :
    PI X (.Tuple elts kk tpos) (.Call (.Name "enumerate" p) [e] [] pos) (iEnT X.K ta) := by
  refine ⟨fun pins s σ H R I h => Call_ (ld_blt I hg hm boot_enumerate (PyProof.Rows.callWith_type1 (thn (ha.run pos pins s σ H _ I h) ?_) hs rfl))⟩
  rintro us s1 ⟨vs, H1, I1, r1, a, xs, rfl, hq, q⟩
  cases r1 with
  | cons r rr =>
    cases rr
    cases r
    obtain ⟨its, rv, p', _⟩ := I1.tuple hq
    refine enum_begins0 (begins_tuple a its.toArray) p' fun h' he hit hk => wpAny_pyIter_enum he ?_
    have I2 := I1.kept (t' := s1.toks) hk
    have fr : ∀ b ∈ [s1.heap.objs.size + 1, s1.heap.objs.size], FpOk X pins H1 b := by
      intro b hb
      have hle : s1.heap.objs.size ≤ b := by
        rcases List.mem_cons.mp hb with rfl | hb
        · exact Nat.le_add_right _ _
        · exact Nat.le_of_eq (List.mem_singleton.mp hb).symm
      exact I1.fpOk hle (I1.hok.fresh hle)
    exact ⟨_, _, _, _, H1, rfl, I2, turn_enumE (src_tup X.K) 0 a _ _, ⟨⟨.none, he⟩, ⟨_, hit, rfl, rfl⟩, Nat.succ_ne_self _⟩, fr, q⟩
def iEnK (K : PySem.W.Frag) (ta : TA) (tk : TA) : TI := fun σ H R => ta σ H fun vs H1 => tk σ H1 fun ks H2 => ∃ a xs k, vs = [.ref a] ∧ ks = [.int k] ∧ -(2 ^ 63) ≤ k ∧ k < 2 ^ 63 ∧ SqL K H2 a xs ∧ R (ItE (SqL K) a k) H2
theorem typed_kw {M : Model} {A : Around} {Er : Value → Shared → Prop} {s : Shared} {env : Env} {T : String} {pos : Pos} {e : Expr} {kws : List Keyword} {Q : Value → Shared → Prop}
    (h : wpAny M A (spliced (backTo pos (starEach [e] env))) (fun vs s₁ => wpAny M A (evalAll ((backToKw pos (keywordEach kws env)).map (·.2)))
      (fun kvs s₂ => wpAny M A (call (.type T) vs (((backToKw pos (keywordEach kws env)).filterMap (·.1)).zip kvs)) Q Er s₂) Er s₁) Er s)
    (he : backTo pos (starEach [e] env) = [(false, eval e env)]) (hall : (backToKw pos (keywordEach kws env)).all (·.1.isSome) = true) (hkw : (backToKw pos (keywordEach kws env)).any (·.1.isNone) = false) :
    wpAny M A (callWith pos (.type T) [] (backTo pos (starEach [e] env)) (backToKw pos (keywordEach kws env))) Q Er s := by
  rw [he] at h ⊢
  unfold callWith
  refine wpAny_bind (wpAny_holding (wpAny_mono (evalArgs_kwB (Q := fun a s₁ => wpAny M A (call (.type T) ([] ++ a.pos) a.kw) Q Er s₁) hall h) (fun a s₁ h₁ => wpAny_bind (wpAny_standAt ?_)) fun _ _ x => x))
  simp only [List.any_cons, List.any_nil, hkw, Bool.or_false]
  refine wpAny_bind (wpAny_pure ?_)
  exact wpAny_bind (wpAny_mono h₁ (fun v s3 hv => wpAny_bind (wpAny_holding (wpAny_point (wpAny_pure hv)))) fun _ _ z => z)
theorem pi_enumK (hg : Gl X "enumerate") (hm : X.mg "enumerate" = none) (ha : PA X [e] ta) {v : Expr} {tk : TA} (hk : PK X [⟨some "start", v, kpos⟩] tk) (hs : starEach [e] X.env = [(false, eval e X.env)] := by rfl) :
    PI X (.Tuple elts kk tpos) (.Call (.Name "enumerate" p) [e] [⟨some "start", v, kpos⟩] pos) (iEnK X.K ta tk) := by
  refine ⟨fun pins s σ H R I h => wpAny_Call_Name_kw (ld_blt I hg hm boot_enumerate (typed_kw (thn (ha.run pos pins s σ H _ I h) ?_) (by rw [hs]; rfl) rfl rfl))⟩
  rintro us s1 ⟨vs, H1, I1, r1, h1⟩
  refine thn (hk.run pos pins s1 σ H1 _ I1 h1) ?_
  rintro ws s2 ⟨zs, H2, I2, r2, a, xs, k, rfl, rfl, hk0, hk1, hq, q⟩
  cases r1 with
  | cons r rr =>
    cases rr
    cases r
    cases r2 with
    | cons r' rr' =>
      cases rr'
      obtain ⟨t, rfl⟩ := r'
      obtain ⟨its, rv, p', _⟩ := I2.list hq
      refine enum_begins_start (begins_list a its.toArray) p'.isList hk0 hk1 fun h' he hit hz hkp => wpAny_pyIter_enum he ?_
      have J := I2.kept (t' := s2.toks) hkp
      have fr : ∀ b ∈ [s2.heap.objs.size + 1, s2.heap.objs.size], FpOk X pins H2 b := by
        intro b hb
        have hle : s2.heap.objs.size ≤ b := by
          rcases List.mem_cons.mp hb with rfl | hb
          · exact Nat.le_add_right _ _
          · exact Nat.le_of_eq (List.mem_singleton.mp hb).symm
        exact I2.fpOk hle (I2.hok.fresh hle)
      exact ⟨_, _, _, _, H2, rfl, J, turn_enumE (src_list X.K) k a _ _, ⟨⟨.none, by simpa using he⟩, ⟨_, hit, rfl, rfl⟩, Nat.succ_ne_self _⟩, fr, q⟩
end
/-! ### sorted(t), t a tuple of ints -/
section
variable {prog : Program} {w : World} {A : Around} {Er : Value → Shared → Prop} {s : Shared}
theorem collect_tup {l : Addr} {vs : List Value} {Q : List Value → Shared → Prop} (hl : s.heap.IsTuple l vs.toArray)
    (h : Q vs { s with heap := (s.heap.push (seqObj "list" #[] 0)).update s.heap.objs.size (Obj.mapSeq (· ++ vs.toArray)) }) (hsz : vs.length ≤ sizeLine) : wpAny (model prog w) A (collect (.ref l)) Q Er s := by
  obtain ⟨ob, hob, hcl, n, hdt⟩ := id hl
  unfold collect
  refine wpAny_bind (wpAny_runValue (codeAny_builtin entry_proto_collect' (?start : wpAny _ _ (do again (.builtin "list.__iadd__" ⟨[← newList [], .ref l], []⟩)) _ _ s)))
  refine wpAny_bind (wpAny_newList (wpAny_pure ⟨Code.quiet_builtin _ (by decide +kernel), codeAny_builtin entry_list_iadd' ?_⟩))
  show wpAny _ _ (Builtin.List.listExtendWith (.ref s.heap.objs.size) (.ref l) (.ref s.heap.objs.size)) _ _ { s with heap := s.heap.push (seqObj "list" #[] 0) }
  unfold Builtin.List.listExtendWith
  have hnew : (s.heap.push (seqObj "list" #[] 0)).get? l = some ob := Heap.get?_push_of_some _ hob
  refine wpAny_bind (wpAny_typeOf (T := "tuple") ⟨ob, hnew, hcl⟩ ?_)
  rw [if_pos (by rw [show (Value.type "tuple" == Value.type "tuple") = true from rfl]; simp)]
  refine wpAny_bind (listItems_at hnew hdt ?_)
  refine wpAny_bind (listItems_at (xs := #[]) (n := 0) (Heap.get?_push_size _ rfl) rfl ?_)
  rw [if_neg (by simp)]
  refine wpAny_bind (listUpdate_at (xs := #[]) (n := 0) (Heap.get?_push_size _ rfl) rfl ?_ (Nat.zero_le _) (by
    show (#[] ++ vs.toArray).size ≤ sizeLine + 1
    rw [Array.size_append, List.size_toArray]
    show 0 + vs.length ≤ _
    omega))
  refine wpAny_pure ?_
  refine wpAny_bind (wpAny_load (get?_update_seq (Heap.get?_push_size _ rfl) _) ?_)
  show wpAny _ _ (pure ((#[] : Array Value) ++ vs.toArray).toList) Q Er _
  rw [show ((#[] : Array Value) ++ vs.toArray).toList = vs from by simp]
  exact wpAny_pure h
theorem sorted_tup {l : Addr} {vs : List Value} {ns : List Int} {Q : Value → Shared → Prop} (hl : s.heap.IsTuple l vs.toArray) (hI : IntsAre vs ns) (h64 : vs.length < 64)
    (h : ∀ (out : Array Value) (ms : List Int), IntsAre out.toList ms → ms.Perm ns → ms.Pairwise (· ≤ ·) → Q (.ref (s.heap.objs.size + 1)) { s with heap := sortedAll s.heap vs out }) :
    wpAny (model prog w) A (call (.builtin "sorted") [.ref l]) Q Er s := by
  refine Calls.call_function_entry kind_sorted plain_sorted entry_sorted (args_sorted1 (.ref l)) ?_
  unfold Builtin.«sorted»
  refine wpAny_bind (m := checkCount "sorted" 1 1 _) (wpAny_pure (wpAny_bind (collect_tup hl ?_ (Nat.le_trans (Nat.le_of_lt h64) (by decide)))))
  refine wpAny_bind (wpAny_newList ?_)
  have hzz : ((s.heap.push (seqObj "list" #[] 0)).update s.heap.objs.size (Obj.mapSeq (· ++ vs.toArray))).objs.size = s.heap.objs.size + 1 := by
    rw [Heap.size_update, size_push']
  have hsrt : (((s.heap.push (seqObj "list" #[] 0)).update s.heap.objs.size (Obj.mapSeq (· ++ vs.toArray))).push (seqObj "list" vs.toArray 0)).get? (s.heap.objs.size + 1) = some (seqObj "list" vs.toArray 0) := by
    rw [← hzz]
    exact Heap.get?_push_size _ rfl
  show wpAny _ _ _ _ _ { s with heap := ((s.heap.push (seqObj "list" #[] 0)).update s.heap.objs.size (Obj.mapSeq (· ++ vs.toArray))).push (seqObj "list" vs.toArray 0) }
  rw [hzz]
  refine wpAny_bind (wpAny_holding (wpAny_call_entry slot_list_sort ⟨_, hsrt, rfl⟩ entry_list_sort (list_sort_tree hsrt hI h64 fun out ms b1 b2 b3 => ⟨_, rfl, ?_⟩) (args_list_sort _)))
  exact wpAny_pure ⟨_, rfl, h out ms b1 b2 b3⟩
end
def rSortedU (K : PySem.W.Frag) : List V → Hp → VK → Prop := fun vs H Q => ∃ (a : Addr) (ns : List Int), vs = [V.ref a] ∧ (SqL K H a (ns.map V.int) ∨ SqT K H a (ns.map V.int)) ∧ ns.length < 64 ∧
  ∀ (ms : List Int) (p : Addr), ms.Perm ns → ms.Pairwise (· ≤ ·) → H p = none → Q (.ref p) (upd H p (.lst (ms.map V.int)))
theorem call_sortedU {X : Cx} : CallR X (.builtin "sorted") (rSortedU X.K) := by
  intro pins s σ H vs us Q I r h
  obtain ⟨a, ns, rfl, hs, h64, q⟩ := h
  rcases hs with hs | hs
  · exact cr_sorted pins s σ H [V.ref a] us Q I r ⟨a, ns, rfl, hs, h64, q⟩
  · obtain ⟨its, rv, hl, _⟩ := I.tuple hs
    rw [Vals.ref1 r]
    have hi := rv.ints
    refine sorted_tup hl hi (by rw [hi.length]; exact h64) fun out ms h1 h2 h3 => ?_
    obtain ⟨epo, hat⟩ := PyProof.Rows.sortedAll_at s.heap its out
    have hlen : (ms.map V.int).length ≤ sizeLine := by
      rw [List.length_map, h2.length_eq]
      exact small64 h64
    exact ⟨.ref _, upd H (s.heap.objs.size + 1) (.lst (ms.map V.int)), I.laid (t' := s.toks) (fun _ _ => PyProof.Rows.sortedAll_old) (Nat.le_succ _) ⟨hlen, out.toList, epo, vals_of_ints h1, hat⟩, rfl, q ms _ h2 h3 (I.hok.fresh (Nat.le_succ _))⟩
end GL
namespace GL
open PySem PySem.Spec PyProof.Rows L2
/-! ### enumerate(t, start=k), t a tuple -/
section
variable {X : Cx} {e : Expr} {ta : TA} {te : TE} {p pos tpos kpos : Pos} {elts : List Expr} {kk : Nat}
def iEnKT (K : PySem.W.Frag) (ta : TA) (tk : TA) : TI := fun σ H R => ta σ H fun vs H1 => tk σ H1 fun ks H2 => ∃ a xs k, vs = [.ref a] ∧ ks = [.int k] ∧ -(2 ^ 63) ≤ k ∧ k < 2 ^ 63 ∧ SqT K H2 a xs ∧ R (ItE (SqT K) a k) H2
theorem pi_enumKT (hg : Gl X "enumerate") (hm : X.mg "enumerate" = none) (ha : PA X [e] ta) {v : Expr} {tk : TA} (hk : PK X [⟨some "start", v, kpos⟩] tk) (hs : starEach [e] X.env = [(false, eval e X.env)] := by rfl) :
    PI X (.Tuple elts kk tpos) (.Call (.Name "enumerate" p) [e] [⟨some "start", v, kpos⟩] pos) (iEnKT X.K ta tk) := by
  refine ⟨fun pins s σ H R I h => wpAny_Call_Name_kw (ld_blt I hg hm boot_enumerate (typed_kw (thn (ha.run pos pins s σ H _ I h) ?_) (by rw [hs]; rfl) rfl rfl))⟩
  rintro us s1 ⟨vs, H1, I1, r1, h1⟩
  refine thn (hk.run pos pins s1 σ H1 _ I1 h1) ?_
  rintro ws s2 ⟨zs, H2, I2, r2, a, xs, k, rfl, rfl, hk0, hk1, hq, q⟩
  cases r1 with
  | cons r rr =>
    cases rr
    cases r
    cases r2 with
    | cons r' rr' =>
      cases rr'
      obtain ⟨t, rfl⟩ := r'
      obtain ⟨its, rv, p', _⟩ := I2.tuple hq
      refine enum_begins_start (begins_tuple a its.toArray) p' hk0 hk1 fun h' he hit hz hkp => wpAny_pyIter_enum he ?_
      have J := I2.kept (t' := s2.toks) hkp
      have fr : ∀ b ∈ [s2.heap.objs.size + 1, s2.heap.objs.size], FpOk X pins H2 b := by
        intro b hb
        have hle : s2.heap.objs.size ≤ b := by
          rcases List.mem_cons.mp hb with rfl | hb
          · exact Nat.le_add_right _ _
          · exact Nat.le_of_eq (List.mem_singleton.mp hb).symm
        exact I2.fpOk hle (I2.hok.fresh hle)
      exact ⟨_, _, _, _, H2, rfl, J, turn_enumE (src_tup X.K) k a _ _, ⟨⟨.none, by simpa using he⟩, ⟨_, hit, rfl, rfl⟩, Nat.succ_ne_self _⟩, fr, q⟩
end
end GL
namespace GL
open PySem PySem.Spec PyProof.Rows L2
/-- of three lists (those by place, the defaults, those by name), which go where -/
def sel {α : Type} (us ds ws : List α) : List (Nat × Nat) → List α
  | [] => []
  | (0, i) :: r => (us[i]?).toList ++ sel us ds ws r
  | (1, i) :: r => (ds[i]?).toList ++ sel us ds ws r
  | (_, i) :: r => (ws[i]?).toList ++ sel us ds ws r
theorem vals_at {vs : List V} {us : List Value} (h : Vals vs us) (i : Nat) : Vals (vs[i]?).toList (us[i]?).toList := by
  cases e : vs[i]? with
  | none =>
    have : us[i]? = none := List.getElem?_eq_none (by rw [← h.length]; exact List.getElem?_eq_none_iff.mp e)
    rw [this]
    exact .nil
  | some x =>
    obtain ⟨u, hu, r⟩ := h.get e
    rw [hu]
    exact .cons r .nil
theorem sel_rel {vs ds zs : List V} {us its ws : List Value} (h1 : Vals vs us) (h2 : Vals ds its) (h3 : Vals zs ws) : ∀ l : List (Nat × Nat), Vals (sel vs ds zs l) (sel us its ws l)
  | [] => .nil
  | (0, i) :: r => (vals_at h1 i).append (sel_rel h1 h2 h3 r)
  | (1, i) :: r => (vals_at h2 i).append (sel_rel h1 h2 h3 r)
  | (n + 2, i) :: r => (vals_at h3 i).append (sel_rel h1 h2 h3 r)
section
variable {X : Cx} {CX : CXT} {k : Nat} {f C : Addr} {fd : FuncData} {ps ks : List Str} {sp : Sp} {E : XK} {x : Str} {p pos : Pos} {kws : List Keyword} {tk : TA} {g : List Value → List Value → List Value} {gV : List V → List V → List V} {pins : List (Addr × Obj)} {σ : L2.St} {H : Hp} {s : Shared} {Q : VK} {ws : List Value} {zs : List V}
/-- C(k = v, ..): the instance is made, then its __init__ -/
theorem ranMK (G : Fre X.A) (M : Mk X.K C f) (F : FnG X.prog X.w X.K X.mg X.base CX k f fd ps sp) (hr : Room (k + 1) X.A) (hb : KBn X.K fd ps 1 ks g gV) (hx : Passes CX X E) (I : Inv X pins σ H s) (rz : Vals zs ws) (l2 : zs.length = ks.length)
    (h : ∀ y dy, H y = none → H dy = none → dy ≠ y → sp (gV [.ref y] zs) (upd (upd H dy (.own y)) y (.ins C dy [])) (fun v H2 => v = .non ∧ Q (.ref y) H2) E) : wpAny (model X.prog X.w) X.A (call (.ref C) [] (ks.zip ws)) (EP X pins σ Q) X.xe s := by
  have h0 := h (s.heap.objs.size + 1) s.heap.objs.size (I.hok.fresh (Nat.le_succ _)) (I.hok.fresh (Nat.le_refl _)) (Nat.ne_of_lt (Nat.lt_succ_self _))
  have J := Inv.made (C := C) I
  have r1 : Vals [V.ref (s.heap.objs.size + 1)] [Value.ref (s.heap.objs.size + 1)] := .cons rfl .nil
  have run := F.goes (fre_make G) (hr.make C [] (ks.zip ws)) (J.env0.make C [] (ks.zip ws)) (hb.to _ [Value.ref (s.heap.objs.size + 1)] ws J.kIn rfl (rz.length.symm.trans l2)) (hb.rel r1 rz) h0
  refine wpAny_call (make_map (f := f) I.kIn M.makes M.init (beq_iff_eq.mp M.fn) (codeAny_mono run ?_))
  intro r s' z
  match r, z with
  | .error e, z => exact hx pins σ _ _ e s' J z
  | .ok (.ret u), z =>
    obtain ⟨v, H', I3, rv, ev, q3⟩ := J.after z
    cases ev
    exact And.intro rv ⟨V.ref (s.heap.objs.size + 1), H', I3, rfl, q3⟩
  | .ok .next, z => exact z.elim
  | .ok .brk, z => exact z.elim
  | .ok .cont, z => exact z.elim
def tMakeK (C : Addr) (m : Nat) (sp : Sp) (gV : List V → List V → List V) (E : XK) (tk : TA) : TE := fun σ H Q => tk σ H fun zs H2 => zs.length = m ∧
  ∀ x dx, H2 x = none → H2 dx = none → dx ≠ x → sp (gV [.ref x] zs) (upd (upd H2 dx (.own x)) x (.ins C dx [])) (fun v H3 => v = .non ∧ Q (.ref x) H3) E
theorem pkK (G : Fre X.A) (M : Mk X.K C f) (F : FnG X.prog X.w X.K X.mg X.base CX k f fd ps sp) (hr : Room (k + 1) X.A) (hg : Gl X x) (hm : X.mg x = some (.ref C)) (hb : KBn X.K fd ps 1 ks g gV) (hx : Passes CX X E)
    (hkw : PK X kws tk) (ndb : (x == ("__debug__" : Str)) = false := by decide) (hall : (backToKw pos (keywordEach kws X.env)).all (·.1.isSome) = true := by rfl) (hks : (backToKw pos (keywordEach kws X.env)).filterMap (·.1) = ks := by rfl)
    (hpl : (backToKw pos (keywordEach kws X.env)).any (·.1.isNone) = false := by rfl) :
    PE X (.Call (.Name x p) [] kws pos) (tMakeK C ks.length sp gV E tk) where
  run := fun pins s σ H Q I h => wpAny_Call_Name_kw (ld_glob I hg hm
    (PySem.W.callWith_KW0 (first := []) (h₀ := X.base) I.ok.mod.kin M.kp hall (thn (hkw.run pos pins s σ H _ I h) fun ws s2 ⟨zs, H2, I2, rz, l2, q2⟩ => by
      rw [hks]
      exact ⟨I2.kIn, ranMK G M F hr hb hx I2 rz l2 q2⟩) hpl) ndb)
end
end GL
namespace GL
open PySem PySem.Spec PyProof.Rows L2
theorem looks_is {M : Model} {u : Value} {T : String} {s : Shared} (h : s.TypeIs u T) : PySem.W.Looks M s.heap (typeOf u) (.type T) := fun A Q E s' k q => by
  have h' : s'.TypeIs u T := by
    cases u <;> first | exact h | (obtain ⟨o, e, c⟩ := h; exact ⟨o, k _ _ e, c⟩)
  exact wpAny_typeOf h' q
def kinds : List String := ["NoneType", "bool", "int", "str", "list", "tuple", "dict"]
theorem sub_kind {K : PySem.W.Frag} {C : Addr} : ∀ {T : String}, T ∈ kinds → PySem.W.subIn K (.type T) (.ref C) = some false := by
  have go : ∀ T l, fastBuiltinMro T = some l → l.contains (.ref C) = false → PySem.W.subIn K (.type T) (.ref C) = some false := fun T l h1 h2 => by
    show (fastBuiltinMro T).map (·.contains (.ref C)) = some false
    rw [h1]
    exact congrArg some h2
  intro T hT
  simp only [kinds, List.mem_cons, List.not_mem_nil, or_false] at hT
  rcases hT with rfl | rfl | rfl | rfl | rfl | rfl | rfl
  · exact go _ [.type "NoneType", .type "object"] (by decide +kernel) (by simp)
  · exact go _ [.type "bool", .type "int", .type "object"] (by decide +kernel) (by simp)
  · exact go _ [.type "int", .type "object"] (by decide +kernel) (by simp)
  · exact go _ [.type "str", .type "object"] (by decide +kernel) (by simp)
  · exact go _ [.type "list", .type "object"] (by decide +kernel) (by simp)
  · exact go _ [.type "tuple", .type "object"] (by decide +kernel) (by simp)
  · exact go _ [.type "dict", .type "object"] (by decide +kernel) (by simp)
/-- the other side of ==: one of the same class, or of a kind of Python's -/
inductive Oth (K : PySem.W.Frag) (H : Hp) (C : Addr) : V → Prop where
  | ins {b dy : Addr} {gs : List (Str × V)} (h : H b = some (.ins C dy gs)) : Oth K H C (.ref b)
  | oth {y : V} {T : String} (h : TyB K H y T) (hT : T ∈ kinds) : Oth K H C y
section
variable {X : Cx} {CX : CXT} {k : Nat} {f C : Addr} {fd : FuncData} {sp : Sp} {E : XK}
theorem Oth.go {pins : List (Addr × Obj)} {σ : L2.St} {H : Hp} {s : Shared} {y : V} {u : Value} (h : Oth X.K H C y) (I : Inv X pins σ H s) (r : RelV y u) : ∃ tb, PySem.W.Looks (model X.prog X.w) s.heap (typeOf u) tb ∧ PySem.W.notFirst X.K C tb = true := by
  cases h with
  | ins h =>
    cases r
    obtain ⟨mB, J', _⟩ := ins_get I.hok h
    obtain ⟨od', J', _⟩ := J'.look
    exact ⟨_, J'.type, by simp [PySem.W.notFirst]⟩
  | oth h hT => exact ⟨_, looks_is (h.is I r), by
      unfold PySem.W.notFirst
      rw [sub_kind hT]
      simp⟩
def rEqOwn (K : PySem.W.Frag) (C : Addr) (sp : Sp) (E : XK) : R2 := fun x y H Q => ∃ a dx fs, x = .ref a ∧ H a = some (.ins C dx fs) ∧ Oth K H C y ∧ sp [.ref a, y] H (fun v H' => ∃ b, v = .bl b ∧ Q (.bl b) H') E
theorem op_eqOwn (G : Fre X.A) (F : FnG X.prog X.w X.K X.mg X.base CX k f fd ["self", "other"] sp) (hr : Room k X.A) (hu : X.A.units + 64 < cLine) (hb : Binds X.K fd ["self", "other"] []) (hs : PySem.W.findIn X.K (.ref C) "__eq__" = some (some (.ref f))) (hf : PySem.W.isFn X.K (.ref f) = true) (hx : Passes CX X E) :
    OpR X (compareOp .Eq) (rEqOwn X.K C sp E) := by
  intro pins s σ H x y v u Q I rx ry h
  obtain ⟨a, dx, fs, rfl, ha, ho, h⟩ := h
  cases rx
  obtain ⟨tb, hl, hn⟩ := ho.go I ry
  obtain ⟨mA, J, _⟩ := ins_get I.hok ha
  obtain ⟨od, J, _⟩ := J.look
  obtain ⟨m, hF⟩ := I.fr
  refine PySem.W.cmp_K (op := .Eq) (tb := tb) (show X.A.units < cLine by omega) hF I.ok.mod.kin J hl hn hs hf ?_
  refine wpAny_call (codeAny_mono (F.goes (A := X.A) (outer := X.stack) (vs := [.ref a, y]) (us := [.ref a, u]) G hr I.env0 (hb s [.ref a, u] I.kIn rfl) (.cons rfl (.cons ry .nil)) h) ?_)
  intro r s' z
  match r, z with
  | .error e, z => exact hx pins σ H s e s' I z
  | .ok (.ret w), z =>
    obtain ⟨v, H', I3, rv, b, rfl, q⟩ := I.after z
    cases (show w = Value.bool b from rv)
    exact ⟨.bl b, H', I3, rfl, q⟩
  | .ok .next, z => exact z.elim
  | .ok .brk, z => exact z.elim
  | .ok .cont, z => exact z.elim
end
/-! ### != by the own == -/
section
variable {M : Model} {prog : Program} {w : World} {A : Around} {E : Value → Shared → Prop} {s : Shared} {K : PySem.W.Frag} {x C f : Addr} {ox : Obj} {od : Option Obj} {b : Value}
theorem ifBound_objNe {args : List Value} {Q : Option Value → Shared → Prop} (X : K.In s.heap) (I : PySem.W.InstAt s.heap x ox C od) (hs : PySem.W.findIn K (.ref C) "__ne__" = some (some (.builtin "object.__ne__")))
    (h : wpAny M A (call (.builtin "object.__ne__") (.ref x :: args)) (fun v => Q (some v)) E s) : wpAny M A (callSpecialIfBound? (.ref x) "__ne__" args) Q E s := by
  simp only [callSpecialIfBound?, bindSpecialIfBound?]
  refine wpAny_holding (wpAny_bind (wpAny_bind (wpAny_bind (I.type.here ((PySem.W.looks_findIn X hs).here ?_)))))
  refine wpAny_bind (wpAny_askSetting (wpAny_ite ?_))
  have fin : wpAny M A (call (.builtin "object.__ne__") ([.ref x] ++ args) >>= fun v => pure (some v)) Q E s := wpAny_bind (wpAny_mono h (fun v s' h' => wpAny_pure h') fun _ _ h' => h')
  split
  · exact wpAny_bind (wpAny_of_eq (F.cmp_object.ne.bind _) (wpAny_pure (by exact fin)))
  · exact wpAny_tryCatch (wpAny_bind (wpAny_of_eq (F.cmp_object.ne.bind _) (wpAny_pure (by exact fin))))
theorem objNe_entry {Q : Fin → Shared → Prop} (X : K.In s.heap) (I : PySem.W.InstAt s.heap x ox C od) (hs : PySem.W.findIn K (.ref C) "__eq__" = some (some (.ref f))) (hf : PySem.W.isFn K (.ref f) = true) (hu : A.units < cLine)
    (hcall : wpAny (model prog w) A (call (.ref f) [.ref x, b]) (fun v s' => ∃ c, v = .bool c ∧ Q (.done (.ret (.bool (!c)))) s') E s) : wpAny (model prog w) A (Builtin.«object.__ne__» ⟨[.ref x, b], []⟩) Q E s := by
  unfold Builtin.«object.__ne__»
  repeat (first
    | with_reducible refine wpAny_cRoomFor hu ?_
    | (refine wpAny_bind (m := callSpecialIfBound? (.ref x) (Str.ofString "__eq__") [b])
        (PySem.W.ifBound_K X I hs hf (wpAny_mono hcall (fun r s' hr => by
          obtain ⟨c, rfl, hq⟩ := hr
          repeat (first | exact hq | exact wpAny_pure hq | exact wpAny_truthy_bool hq | (refine wpAny_bind (m := truthy (.bool _)) (wpAny_truthy_bool ?_)) | wp_step)) fun _ _ e => e)))
    | wp_step)
theorem ne_K {tb : Value} {Q : Value → Shared → Prop} (hu : A.units + 2 < cLine) (X : K.In s.heap) (I : PySem.W.InstAt s.heap x ox C od) (hm : PySem.W.mroIn K C (.type "object") = some true) (hb : PySem.W.Looks (model prog w) s.heap (typeOf b) tb) (hn : PySem.W.notFirst K C tb = true)
    (h1 : PySem.W.findIn K (.ref C) "__ne__" = some (some (.builtin "object.__ne__"))) (hs : PySem.W.findIn K (.ref C) "__eq__" = some (some (.ref f))) (hf : PySem.W.isFn K (.ref f) = true)
    (hcall : wpAny (model prog w) A.in1 (call (.ref f) [.ref x, b]) (fun v s' => ∃ c, v = .bool c ∧ Q (.bool (!c)) s') E s) : wpAny (model prog w) A (richCompare .NotEq (.ref x) b) Q E s := by
  have one : wpAny (model prog w) A (tryCompare (.ref x) "__ne__" b) (fun r s' => ∃ v, r = some v ∧ Q v s') E s := by
    unfold tryCompare
    refine wpAny_bind (ifBound_objNe X I h1 (wpAny_call (codeAny_call_builtin F.cmp_object.ne.plain F.cmpEntry_ne (PySem.W.check_slot F.cmpKind_ne F.cmpSplit_ne (I.type.andThen (PySem.W.looks_mroIn X hm)) (F.cmpArgs_ne _ _) (objNe_entry (A := A.in1) X I hs hf (show A.units + 1 < cLine by omega) (wpAny_mono hcall (fun v s' hv => ?_) fun _ _ e => e))))))
    obtain ⟨c, rfl, hq⟩ := hv
    first | exact ⟨c, rfl, wpAny_pure ⟨_, rfl, hq⟩⟩ | exact ⟨c, rfl, wpAny_pure (wpAny_pure ⟨_, rfl, hq⟩)⟩ | exact ⟨c, rfl, _, rfl, hq⟩
  unfold richCompare
  simp only [oneThing_ref]
  refine wpAny_holding (wpAny_bind (wpAny_cRoomFor (show A.units < cLine by omega) ?_))
  refine wpAny_bind (I.type.here (wpAny_bind (hb.here ?_)))
  split
  · rename_i q
    have e : PySem.W.subIn K tb (.ref C) = some false := by
      rcases Bool.or_eq_true_iff.mp hn with e | e
      · rw [beq_iff_eq.mp e] at q
        simp at q
      · exact beq_iff_eq.mp e
    refine wpAny_bind ((PySem.W.looks_subIn X e).here ?_)
    simp only [Bool.false_eq_true, if_false]
    refine wpAny_bind (wpAny_mono one (fun r s' z => ?_) fun _ _ e => e)
    obtain ⟨v, rfl, hq⟩ := z
    exact wpAny_pure hq
  · refine wpAny_bind (wpAny_pure ?_)
    simp only [Bool.false_eq_true, if_false]
    refine wpAny_bind (wpAny_mono one (fun r s' z => ?_) fun _ _ e => e)
    obtain ⟨v, rfl, hq⟩ := z
    exact wpAny_pure hq
end
section
variable {X : Cx} {CX : CXT} {k : Nat} {f C : Addr} {fd : FuncData} {sp : Sp} {E : XK}
def rNeOwn (K : PySem.W.Frag) (C : Addr) (sp : Sp) (E : XK) : R2 := fun x y H Q => ∃ a dx fs, x = .ref a ∧ H a = some (.ins C dx fs) ∧ Oth K H C y ∧ sp [.ref a, y] H (fun v H' => ∃ b, v = .bl b ∧ Q (.bl (!b)) H') E
theorem op_neOwn (G : Fre X.A) (F : FnG X.prog X.w X.K X.mg X.base CX k f fd ["self", "other"] sp) (hr : Room (k + 1) X.A) (hu : X.A.units + 64 < cLine) (hb : Binds X.K fd ["self", "other"] []) (hs : PySem.W.findIn X.K (.ref C) "__eq__" = some (some (.ref f))) (hf : PySem.W.isFn X.K (.ref f) = true)
    (h1 : PySem.W.findIn X.K (.ref C) "__ne__" = some (some (.builtin "object.__ne__"))) (hm : PySem.W.mroIn X.K C (.type "object") = some true) (hx : Passes CX X E) : OpR X (compareOp .NotEq) (rNeOwn X.K C sp E) := by
  intro pins s σ H x y v u Q I rx ry h
  obtain ⟨a, dx, fs, rfl, ha, ho, h⟩ := h
  cases rx
  obtain ⟨tb, hl, hn⟩ := ho.go I ry
  obtain ⟨mA, J, _⟩ := ins_get I.hok ha
  obtain ⟨od, J, _⟩ := J.look
  refine ne_K (tb := tb) (show X.A.units + 2 < cLine by omega) I.kIn J hm hl hn h1 hs hf ?_
  refine wpAny_call (codeAny_mono (F.goes (A := X.A.in1) (outer := X.stack) (vs := [.ref a, y]) (us := [.ref a, u]) G hr.in1 I.env0.in1 (hb s [.ref a, u] I.kIn rfl) (.cons rfl (.cons ry .nil)) h) ?_)
  intro r s' z
  match r, z with
  | .error e, z => exact hx pins σ H s e s' I z
  | .ok (.ret w), z =>
    obtain ⟨v, H', I3, rv, b, rfl, q⟩ := I.after z
    cases (show w = Value.bool b from rv)
    exact ⟨b, rfl, .bl (!b), H', I3, rfl, q⟩
  | .ok .next, z => exact z.elim
  | .ok .brk, z => exact z.elim
  | .ok .cont, z => exact z.elim
end
end GL
/-! Own errors, over any of Python's classes, with an __init__ that keeps one value or nothing: made, raised, read. -/
namespace PySem
end PySem
/-! try with several except clauses, each with a name or without. -/
namespace GL
open PySem PySem.Spec PyProof.Rows L2
end GL
/-! own errors: made, raised, caught, read -/
namespace GL
open PySem PySem.Spec PyProof.Rows L2
/-! ### which clause takes which error -/
/-! ### defs that may raise -/
end GL
/-! == and != of two lists of a text and an instance, by the instances' own == -/
namespace PySem
end PySem
namespace GL
open PySem PySem.Spec PyProof.Rows L2
end GL
/-! isinstance(e, C), e an error of ours that a suite holds, with a dict of its own or without -/
namespace PySem
end PySem
namespace GL
open PySem PySem.Spec PyProof.Rows L2
end GL
/-! a lambda handed to a def, where nothing is being shown; defs whose code object has a table -/
namespace GL
open PySem PySem.Spec PyProof.Rows L2
end GL
/-! properties of own classes, calls of a local that holds a def, where nothing is being shown -/
namespace GL
open PySem PySem.Spec PyProof.Rows L2
section
variable {X : Cx} {CX : CXT} {k i : Nat} {C p g f : Addr} {m x : Str} {fd : FuncData} {ps : List Str} {sp : Sp} {ds : List Value} {dvs : List V} {E : XK} {e : Expr} {es : List Expr} {pos q : Pos} {ta : TE} {t : TA}
/-- y(e, ..), y a local that holds one of several defs -/
structure HeldG (P : Program) (w : World) (K : PySem.W.Frag) (mg : Str → Option Value) (base : Heap) (k : Nat) (f : Addr) (sp : Sp) : Prop where
  ex : ∃ (fd : FuncData) (ps : List Str), FnG P w K mg base CX0 k f fd ps sp ∧ PySem.W.keepIn K (.ref f) = true ∧ Binds K fd ps []
def tHeld (i : Nat) (S : Addr → Sp → Prop) (t : TA) : TE := fun σ H Q => ∃ f sp, σ[i]? = some (some (.ref f)) ∧ S f sp ∧ t σ H fun vs H1 => sp vs H1 Q E0
theorem pcH {S : Addr → Sp → Prop} (G : Fre X.A) (A : ∀ f sp, S f sp → HeldG X.prog X.w X.K X.mg X.base k f sp) (hr : Room k X.A) (hN : X.N[i]? = some x) (hv : Vis X.env.scope x) (ha : PA X (e :: es) t)
    (hdb : (x == ("__debug__" : Str)) = false := by decide) (hcd : (x == ("__classdict__" : Str)) = false := by decide)
    (he : starEach (e :: es) X.env = (false, eval e X.env) :: starEach es X.env := by rfl) (hpl : (backTo pos (starEach es X.env)).any (·.1) = false := by rfl) : PE X (.Call (.Name x q) (e :: es) [] pos) (tHeld i S t) := by
  constructor
  intro pins s σ H Q I h
  obtain ⟨f, sp, hs, hS, ht⟩ := h
  obtain ⟨fd, ps, F, hk, hb⟩ := (A f sp hS).ex
  refine wpAny_Call_Name_kw (thn ((pe_var (pos := q) hN hv hdb hcd).run pins s σ H (fun v H1 => v = .ref f ∧ H1 = H) I ⟨.ref f, hs, rfl, rfl⟩) ?_)
  rintro u s1 ⟨v, H1, I1, r1, rfl, rfl⟩
  cases (show u = Value.ref f from r1)
  refine PySem.W.callWith_K (h₀ := X.base) I.ok.mod.kin hk (thn (ha.run pos pins s1 σ _ _ I1 ht) ?_) he hpl
  rintro us s2 ⟨vs, H2, I2, r, q2⟩
  refine ⟨I2.kIn, wpAny_call (codeAny_mono (F.goes G hr I2.env0 (by
    have z := hb s2 us I2.kIn (by rw [List.append_nil, ← r.length]; exact F.many _ _ _ _ q2)
    rw [List.append_nil] at z
    exact z) r q2) ?_)⟩
  intro r s3 z
  match r, z with
  | .error er, z => exact z.elim
  | .ok (.ret y), z => exact I2.after z
  | .ok .next, z => exact z.elim
  | .ok .brk, z => exact z.elim
  | .ok .cont, z => exact z.elim
end
end GL
/-! a dict laid into another one: {**d, ..} -/
namespace PySem
namespace DM
open PySem
section
variable {prog : Program} {w : World} {K : Type} [DecidableEq K] {knd : KeyKind prog w K} {A : Around} {E : Value → Shared → Prop} {s : Shared}
/-- one pair, its hash at hand -/
theorem put_one {d : Addr} {kvs : List (K × Value)} {k : K} {key v : Value} {Q : Unit → Shared → Prop} (hkey : knd.is k key = true) (hm : s.heap.DictOf knd d kvs)
    (hQ : ∀ h', h'.DictOf knd d (stored kvs k v) → Heap.SameBut d s.heap h' → Q () { s with heap := h' }) (hsz : kvs.length ≤ sizeLine) : wpAny (model prog w) A (dictPut d (knd.hash k) key v) Q E s := by
  refine (?_ : wpAny (model prog w) A (do
    match ← dictFind d key (knd.hash k) with
    | some i => updateDict d (·.modify i fun e => { e with val := v })
    | none => updateDictKeys d (·.push ⟨knd.hash k, key, v⟩)) Q E s)
  obtain ⟨o, es, ep, ho, hc, hd, hk, hp, hn⟩ := hm
  have len : es.size = kvs.length := by
    have := hp.length
    simpa using this
  refine wpAny_bind (wpAny_dictFind_of hkey ho hd hk ?_)
  have same : (es.findIdx? fun e => knd.is k e.key) = kvs.findIdx? fun kv => decide (kv.1 = k) := by
    have := hp.findIdx k
    obtain ⟨l⟩ := es
    simpa using this
  cases at_ : es.findIdx? fun e => knd.is k e.key with
  | some i =>
    rw [at_] at same
    have there := any_of_findIdx_some same.symm
    refine wpAny_updateDict ho hd (hQ _ ⟨_, _, ep, Heap.get?_update_self _ ho (Obj.isFreed_of_dict (Obj.data_mapDict hd _)), hc.mapDict _, Obj.data_mapDict hd _, hk.modify _ _, ?_, ?_⟩ (Heap.SameBut.update ..))
    · rw [stored, if_pos there]
      have hl : (es.toList.findIdx? fun e => knd.is k e.key) = some i := by
        obtain ⟨l⟩ := es
        simpa using at_
      have := hp.modify hn hl v
      obtain ⟨l⟩ := es
      simpa using this
    · rw [stored, if_pos there, keys_map_store]
      exact hn
  | none =>
    rw [at_] at same
    have off := not_mem_of_findIdx_none same.symm
    have nope : ¬ (kvs.any fun kv => decide (kv.1 = k)) = true := fun z => by
      obtain ⟨kv, h1, h2⟩ := List.any_eq_true.mp z
      exact off (List.mem_map.mpr ⟨kv, h1, of_decide_eq_true h2⟩)
    refine wpAny_updateDictKeys (hz := by omega) ho hd (hQ _ ⟨_, _, ep + 1, Heap.get?_update_self _ ho (Obj.isFreed_of_dict (Obj.data_mapDictKeys hd _)), hc.mapDictKeys _, Obj.data_mapDictKeys hd _, hk.push hkey _, ?_, ?_⟩ (Heap.SameBut.update ..))
    · rw [stored, if_neg nope]
      have := hp.append hkey (knd.hash k) v
      obtain ⟨l⟩ := es
      simpa using this
    · rw [stored, if_neg nope, List.map_append, List.nodup_append]
      refine ⟨hn, by simp, fun a ha b hb e => ?_⟩
      rw [List.map_singleton, List.mem_singleton] at hb
      have hb : b = k := hb
      exact off (by rw [← hb, ← e]; exact ha)
theorem pairs_at {es : List DictEntry} {kvs : List (K × Value)} (h : Pairs knd es kvs) : ∀ (i : Nat) (hi : i < es.length), ∃ kv, kvs[i]? = some kv ∧ knd.is kv.1 es[i].key = true ∧ es[i].val = kv.2 := by
  induction h with
  | nil => exact fun i hi => absurd hi (Nat.not_lt_zero i)
  | @cons e kv es kvs h1 h2 _ ih =>
    intro i hi
    cases i with
    | zero => exact ⟨kv, rfl, h1, h2⟩
    | succ i =>
      obtain ⟨kv', a, b, c⟩ := ih i (by simpa using hi)
      exact ⟨kv', by simpa using a, by simpa using b, by simpa using c⟩
/-- the pairs, one by one -/
def tail (p a : Addr) : Sem Unit := do
  let es ← dictEntries a
  let epoch ← dictEpoch a
  forIn (List.range es.size) PUnit.unit fun i _ => do
    let es ← dictEntries a
    match es[i]? with
    | some e => do
      holding [e.key, e.val] (dictPut p e.hash e.key e.val)
      let n ← dictEpoch a
      if (n != epoch) = true then do
        let _ ← (unsupported "dict.changed-during-merge" : Sem Unit)
        pure (ForInStep.yield PUnit.unit)
      else pure (ForInStep.yield PUnit.unit)
    | _ => do
      let _ ← (unsupported "dict.changed-during-merge" : Sem Unit)
      pure (ForInStep.yield PUnit.unit)
  pure ()
theorem tail_ok {p a : Addr} {kvs more : List (K × Value)} {Q : Unit → Shared → Prop} (hm : s.heap.DictOf knd p kvs) (ha : s.heap.DictOf knd a more) (ne : p ≠ a) (hz : kvs.length + more.length ≤ sizeLine)
    (hQ : ∀ h', h'.DictOf knd p (merged kvs more) → Heap.SameBut p s.heap h' → Q () { s with heap := h' }) : wpAny (model prog w) A (tail p a) Q E s := by
  obtain ⟨oa, ea, epa, hoa, hca, hda, hka, hpa, hna⟩ := id ha
  have len : ea.size = more.length := by
    have := hpa.length
    simpa using this
  unfold tail
  refine wpAny_bind (wpAny_dictEntries hoa hda (wpAny_bind (wpAny_dictEpoch hoa hda (wpAny_bind ?_))))
  refine wpAny_forIn_list _ (fun rest _ s' => ∃ i, rest = List.range' i (ea.size - i) ∧ i ≤ ea.size ∧ s'.gens = s.gens ∧ s'.drawn = s.drawn ∧ s'.toks = s.toks ∧ s'.os = s.os ∧ s'.heap.DictOf knd p (merged kvs (more.take i)) ∧ Heap.SameBut p s.heap s'.heap) _ ?_ ?_ _ _ ?_
  · rintro x rest _ s' ⟨i, hr, hi, g1, g2, g3, g4, hd', same⟩
    have lt : i < ea.size := by
      by_cases q : i < ea.size
      · exact q
      · rw [Nat.sub_eq_zero_of_le (by omega)] at hr
        cases hr
    obtain ⟨n, hn⟩ : ∃ n, ea.size - i = n + 1 := ⟨ea.size - i - 1, by omega⟩
    rw [hn, List.range'_succ] at hr
    cases hr
    have hoa' : s'.heap.get? a = some oa := (same.2 a ne.symm).trans hoa
    refine wpAny_bind (wpAny_dictEntries hoa' hda ?_)
    rw [Array.getElem?_eq_getElem lt]
    obtain ⟨k, hkey, hhash⟩ := hka ea[x] (Array.getElem_mem lt)
    obtain ⟨kv, hkv, his, hval⟩ := pairs_at hpa x (by simpa using lt)
    have e1 : ea.toList[x] = ea[x] := by simp
    rw [e1] at his hval
    have ek : kv.1 = k := knd.inj _ _ _ his hkey
    have lenm := merged_length_le kvs (more.take x)
    have lt2 : (more.take x).length ≤ x := List.length_take_le ..
    show wpAny _ _ (holding [ea[x].key, ea[x].val] (dictPut p ea[x].hash ea[x].key ea[x].val) >>= _) _ _ _
    rw [hhash]
    refine wpAny_bind (wpAny_holding (put_one hkey hd' (fun h' hd2 same2 => ?_) (by omega)))
    have sm : Heap.SameBut p s.heap h' := ⟨same2.1.trans same.1, fun b hb => (same2.2 b hb).trans (same.2 b hb)⟩
    have hoa2 : h'.get? a = some oa := (sm.2 a ne.symm).trans hoa
    refine wpAny_bind (wpAny_dictEpoch hoa2 hda ?_)
    rw [if_neg (by simp)]
    refine wpAny_pure ⟨x + 1, ?_, by omega, g1, g2, g3, g4, ?_, sm⟩
    · rw [show ea.size - (x + 1) = n by omega]
    · rw [merged_take_succ _ _ _ _ hkv, ek, ← hval]
      exact hd2
  · rintro _ s' ⟨i, hr, hi, g1, g2, g3, g4, hd', same⟩
    have e : i = ea.size := by
      by_cases q : i < ea.size
      · obtain ⟨n, hn⟩ : ∃ n, ea.size - i = n + 1 := ⟨ea.size - i - 1, by omega⟩
        rw [hn, List.range'_succ] at hr
        cases hr
      · omega
    rw [e, len, List.take_length] at hd'
    refine wpAny_pure ?_
    have z := hQ _ hd' same
    obtain ⟨h1, h2, h3, h4, h5⟩ := s'
    cases g1
    cases g2
    cases g3
    cases g4
    exact z
  · refine ⟨0, by rw [List.range_eq_range', Nat.sub_zero], Nat.zero_le _, rfl, rfl, rfl, rfl, ?_, ⟨rfl, fun _ _ => rfl⟩⟩
    simpa [merged] using hm
theorem merge_into {p a : Addr} {kvs more : List (K × Value)} {Q : Unit → Shared → Prop} (hm : s.heap.DictOf knd p kvs) (ha : s.heap.DictOf knd a more) (na : (a == sysModules) = false) (ne : p ≠ a) (hz : kvs.length + more.length ≤ sizeLine)
    (hQ : ∀ h', h'.DictOf knd p (merged kvs more) → Heap.SameBut p s.heap h' → Q () { s with heap := h' }) : wpAny (model prog w) A (mergeMapping p (.ref a) false) Q E s := by
  obtain ⟨oa, ea, epa, hoa, hca, hda, hka, hpa, hna⟩ := id ha
  obtain ⟨op, ep, epp, hop, hcp, hdp, hkp, hpp, hnp⟩ := id hm
  have ty : s.TypeIs (.ref a) "dict" := ⟨oa, hoa, hca.1⟩
  unfold mergeMapping
  refine wpAny_bind (wpAny_isInstance ty isSubtype_dict_dict ?_)
  rw [if_pos rfl]
  refine wpAny_bind (wpAny_specialOf ty PySem.F.slot_dict_iter.lookup (wpAny_bind (wpAny_pure ?_)))
  have t : (some (Value.builtin "dict.__iter__") == some (Value.builtin "dict.__iter__")) = true := by decide +kernel
  rw [t]
  have nn : ¬ (a == sysModules) = true := by
    rw [na]
    exact Bool.false_ne_true
  show wpAny _ _ (if (a == sysModules) = true then _ else _) _ _ _
  rw [if_neg nn]
  refine wpAny_bind (wpAny_dictEntries hop hdp ?_)
  have rest := tail_ok (A := A) (E := E) (Q := Q) hm ha ne hz hQ
  by_cases hemp : ep.isEmpty = true
  · rw [if_pos hemp]
    have loop : (forIn ea PUnit.unit fun (e : DictEntry) (_ : PUnit) => (match e.key with
          | Value.ref a => do
            let q ← specialOf e.key (Str.ofString "__eq__")
            if (q != some (Value.builtin "object.__eq__")) = true then
                if (Array.filter (fun x => x.hash == e.hash) ea).size > 1 then do
                  let _ ← (unsupported "dict.merge-into-an-empty-dict:keys-of-equal-hash" : Sem PUnit)
                  pure (ForInStep.yield PUnit.unit)
                else pure (ForInStep.yield PUnit.unit)
              else pure (ForInStep.yield PUnit.unit)
          | _ => pure (ForInStep.yield PUnit.unit) : Sem (ForInStep PUnit))) = pure PUnit.unit := by
      rw [← Array.forIn_toList]
      refine forIn_yield_id _ fun e he c => ?_
      obtain ⟨k, hkey, _⟩ := hka e (Array.mem_toList_iff.mp he)
      have cv := knd.byValue k _ hkey
      cases q : e.key with
      | ref b =>
        rw [q] at cv
        exact absurd cv Bool.false_ne_true
      | _ => rfl
    exact wpAny_bind (wpAny_dictEntries hoa hda (wpAny_bind (wpAny_of_eq loop rest)))
  · rw [if_neg hemp]
    exact rest
end
end DM
end PySem
namespace PySem
namespace DM
open PySem
section
variable {prog : Program} {w : World} {K : Type} [DecidableEq K] {knd : KeyKind prog w K} {A : Around} {E : Value → Shared → Prop} {s : Shared}
theorem gather (main : Option Addr) (f : (Option (Sem Value) × Sem Value) → (Option Addr × List (Sem Value × Sem Value)) → Sem (ForInStep (Option Addr × List (Sem Value × Sem Value))))
    (hf : ∀ (p : Sem Value × Sem Value) (run : List (Sem Value × Sem Value)), run.length + 1 < 17 → f (some p.1, p.2) (main, run) = pure (.yield (main, run ++ [p]))) :
    ∀ (items run : List (Sem Value × Sem Value)), run.length + items.length < 17 → forIn (items.map fun p => (some p.1, p.2)) (main, run) f = pure (main, run ++ items) := by
  intro items
  induction items with
  | nil =>
    intro run _
    rw [List.append_nil]
    rfl
  | cons p rest ih =>
    intro run h
    rw [List.length_cons] at h
    rw [List.map_cons, List.forIn_cons, hf p run (by omega), pure_bind]
    have z := ih (run ++ [p]) (by rw [List.length_append, List.length_singleton]; omega)
    rw [List.append_assoc] at z
    exact z
/-- {**m, k: v, ..} -/
theorem star_display {v0 : Sem Value} {pairs : List (Sem Value × Sem Value)} {Q : Value → Shared → Prop} (h0 : pairs ≠ []) (hlen : pairs.length ≤ 15)
    (h : wpAny (model prog w) A v0 (fun m s1 => ∃ (a : Addr) (more : List (K × Value)), m = .ref a ∧ s1.heap.DictOf knd a more ∧ s1.heap.DictOf knd s.heap.objs.size [] ∧ (a == sysModules) = false ∧ s.heap.objs.size ≠ a ∧ more.length ≤ sizeLine ∧
      ∀ h1, h1.DictOf knd s.heap.objs.size more → Heap.SameBut s.heap.objs.size s1.heap h1 →
        wpAny (model prog w) A (evalPairs pairs) (fun vs s2 => ∃ kvs m2, Carries knd vs kvs ∧ s2.heap.DictOf knd h1.objs.size [] ∧ s2.heap.DictOf knd s.heap.objs.size m2 ∧ h1.objs.size ≠ s.heap.objs.size ∧ m2.length + kvs.length ≤ sizeLine ∧ (h1.objs.size == sysModules) = false ∧
          ∀ hm h2, hm.DictOf knd h1.objs.size (merged [] kvs) → Heap.SameBut h1.objs.size s2.heap hm → h2.DictOf knd s.heap.objs.size (merged m2 (merged [] kvs)) → Heap.SameBut s.heap.objs.size hm h2 → Q (.ref s.heap.objs.size) { s2 with heap := h2, toks := s2.toks + vs.length }) E
          { s1 with heap := h1.push { cls := .type "dict", data := .dict #[] } }) E { s with heap := s.heap.push { cls := .type "dict", data := .dict #[] } }) :
    wpAny (model prog w) A (dictDisplay ((none, v0) :: pairs.map fun p => (some p.1, p.2))) Q E s := by
  unfold dictDisplay
  dsimp only
  rw [List.forIn_cons]
  simp only [List.isEmpty_nil, if_true, pure_bind, bind_assoc]
  refine wpAny_bind (wpAny_alloc ?_)
  refine wpAny_bind (wpAny_holding (wpAny_mono h (fun m s1 hh => ?_) fun _ _ z => z))
  obtain ⟨a, more, rfl, ha, hp, na, ne, hz, k⟩ := hh
  have nd : (more.map (·.1)).Nodup := by
    obtain ⟨_, _, _, _, _, _, _, _, nd⟩ := ha
    exact nd
  refine wpAny_bind (wpAny_onRaise (wpAny_tryCatch (wpAny_onRaise (wpAny_holding (merge_into hp ha na ne (by rw [List.length_nil]; omega) fun h1 hd1 sm1 => ?_)))))
  rw [merged_nil_of_nodup more nd] at hd1
  have go := k h1 hd1 sm1
  rw [gather (some s.heap.objs.size) _ (fun p run hr => by
    have hne : ((run ++ [(p.1, p.2)]).length == 17) = false := by simp; omega
    simp only [hne, Bool.false_eq_true, if_false]) pairs [] (by rw [List.length_nil]; omega)]
  simp only [pure_bind, List.nil_append]
  have ie : ¬ pairs.isEmpty = true := by
    rw [List.isEmpty_iff]
    exact h0
  rw [if_neg ie]
  simp only [bind_assoc]
  refine wpAny_bind (wpAny_holding (wpAny_subDict (knd := knd) hlen (wpAny_mono go (fun vs s2 hh => ?_) fun _ _ z => z)))
  obtain ⟨kvs, m2, hc, hs, hm, nn, hz2, nsm, kk⟩ := hh
  refine ⟨kvs, hc, hs, fun h2 hs2 sm2 => ?_⟩
  have hm2 : h2.DictOf knd s.heap.objs.size m2 := hm.sameBut sm2 nn.symm
  refine wpAny_bind (wpAny_onRaise (wpAny_holding (merge_into (s := { s2 with heap := h2, toks := s2.toks + vs.length }) hm2 hs2 nsm nn.symm (by
    have := merged_length_le ([] : List (K × Value)) kvs
    rw [List.length_nil] at this
    omega) fun h3 hd3 sm3 => ?_)))
  simp only [pure_bind]
  exact wpAny_pure (kk h2 h3 hs2 sm2 hd3 sm3)
end
end DM
end PySem
namespace GL
open PySem PySem.Spec PyProof.Rows L2
/-- {**d, k: v, ..}: p the new dict, q the one of the further pairs -/
def tStarD (te : TE) (trs : List (TE × TE)) : TE := fun σ H Q => ∀ p, H p = none → te σ (upd H p (.dK [])) fun x H1 => H1 p = some (.dK []) ∧ ∃ (a : Addr) (more : List (Key × V)), x = .ref a ∧ Rd H1 a (.dK more) ∧ p ≠ a ∧ more.length ≤ 1000 ∧
  ∀ q, q ≠ p → H1 q = none → tPairs trs σ (upd (upd H1 p (.dK more)) q (.dK [])) fun ps H2 => H2 p = some (.dK more) ∧ H2 q = some (.dK []) ∧ ∃ kvs : List (Key × V), ps = kvs.map (fun kv => (kV kv.1, kv.2)) ∧ kvs.length ≤ 15 ∧
    Q (.ref p) (upd (upd H2 q (.dK (mergeK [] kvs))) p (.dK (mergeK more (mergeK [] kvs))))
theorem pe_starD {X : Cx} {pos : Pos} {d : Expr} {te : TE} {keys : List (Option Expr)} {values : List Expr} {trs : List (TE × TE)} (he : PE X d te) (h : PPs X pos keys values trs) (hall : keys.all (·.isSome) = true) (hl : keys.length = values.length) (h0 : keys ≠ [])
    (h15 : keys.length ≤ 15) : PE X (.Dict (none :: keys) (d :: values) pos) (tStarD te trs) := by
  constructor
  intro pins s σ H Q I q
  have hn := I.hok.fresh (Nat.le_refl s.heap.objs.size)
  have I1 := I.laid (a := s.heap.objs.size) (o := .dK []) (h' := s.heap.push { cls := .type "dict", data := .dict #[] }) (t' := s.toks) (fun _ _ q => Heap.get?_push_of_some _ q) (Nat.le_refl _) (dk_empty s.heap I.big)
  rw [arm_eval_Dict]
  show wpAny _ _ (standAt pos >>= fun _ => dictDisplay ((none, do let x ← eval d X.env; standAt pos; pure x) :: (evalEachOpt keys X.env).zip ((evalEach values X.env).map fun v => do let x ← v; standAt pos; pure x))) _ _ _
  rw [zip_pairTrees keys values X.env pos hall hl]
  have pl := pairTrees_length keys values X.env pos hall hl
  refine wpAny_bind (wpAny_standAt (DM.star_display (knd := mixKind X.prog X.w) (fun z => ?_) (by rw [pl]; exact h15) (wpAny_bind (thn (he.run pins _ σ _ _ I1 (q _ hn)) fun u s1 hh => wpAny_bind (wpAny_standAt (wpAny_pure ?_))))))
  · rw [z] at pl
    exact h0 (List.length_eq_zero_iff.mp pl.symm)
  obtain ⟨x, H1, I2, rx, hp, a, more, rfl, ra, ne, hz, k⟩ := hh
  cases (show u = Value.ref a from rx)
  obtain ⟨zp, sp0, vp, rp, dp⟩ := dk_of I2.hok hp
  cases rp
  obtain ⟨za, sa, va, rva, da⟩ := dk_rd I2.hok ra
  have lv : va.length = more.length := rva.length.symm
  refine ⟨a, va, rfl, da, dp, sa, ne, by rw [lv]; exact za, fun h1 hd1 sm1 => ?_⟩
  have ex1 : ∃ o, h1.get? s.heap.objs.size = some o := by
    obtain ⟨o, _, _, ho, _⟩ := hd1
    exact ⟨o, ho⟩
  have I3 := d_write (t' := s1.toks) I2 (by rw [hp]; exact True.intro) sm1 ex1 (dk_new za sp0 rva hd1)
  have nq := I3.hok.fresh (Nat.le_refl h1.objs.size)
  have nqp : h1.objs.size ≠ s.heap.objs.size := fun e => by
    rw [e, upd_same] at nq
    cases nq
  have nq1 : H1 h1.objs.size = none := by rw [upd_ne nqp] at nq; exact nq
  have I4 := I3.laid (a := h1.objs.size) (o := .dK []) (h' := h1.push { cls := .type "dict", data := .dict #[] }) (t' := s1.toks) (fun _ _ q => Heap.get?_push_of_some _ q) (Nat.le_refl _) (dk_empty h1 I3.big)
  refine thn (h.run pins _ σ _ _ I4 (k h1.objs.size nqp nq1)) fun ws s2 hh2 => ?_
  obtain ⟨ps, H2, I5, rel, e1, e2, kvs, eps, lk, q2⟩ := hh2
  subst eps
  obtain ⟨rs, c, rk⟩ := carries_of (P := X.prog) (w := X.w) rel
  obtain ⟨z1, sq, vs0, r0, dd⟩ := dk_of I5.hok e2
  cases r0
  obtain ⟨z2, _, m2, r2, dd2⟩ := dk_of I5.hok e1
  have l2 : m2.length = more.length := r2.length.symm
  have lr : rs.length = kvs.length := rk.length.symm
  refine ⟨rs, m2, c, dd, dd2, nqp, by rw [l2, lr, sizeLine_eq]; omega, sq, fun hm h2 a1 a2 a3 a4 => ?_⟩
  have lm := length_mergeK kvs []
  have lm2 := length_mergeK (mergeK [] kvs) more
  rw [List.length_nil] at lm
  have I6 := d_write (t' := s2.toks) I5 (by rw [e2]; exact True.intro) a2 (by
    obtain ⟨o, _, _, ho, _⟩ := a1
    exact ⟨o, ho⟩) (dk_new (by rw [sizeLine_eq]; omega) sq (rk.merge .nil) a1)
  have I7 := d_write (t' := s2.toks + ws.length) I6 (by rw [upd_ne nqp.symm, e1]; exact True.intro) a4 (by
    obtain ⟨o, _, _, ho, _⟩ := a3
    exact ⟨o, ho⟩) (dk_new (by rw [sizeLine_eq]; omega) sp0 (KV.merge (rk.merge .nil) r2) a3)
  exact ⟨.ref s.heap.objs.size, _, I7, rfl, q2⟩
end GL
/-! C(**d): what a call's mapping is read as -/
namespace PySem
end PySem
/-! C(**d) -/
namespace PySem
end PySem
namespace PySem
end PySem
namespace GL
open PySem PySem.Spec PyProof.Rows L2
end GL
/-! == and != of two dicts with the same keys, whose values are data -/
namespace GL
open PySem PySem.Spec PyProof.Rows L2
def rEqDict (K : PySem.W.Frag) : R2 := fun x y H Q => ∃ (a b : Addr) (ks ls : List (Key × V)) (ds es : List PyData), x = .ref a ∧ y = .ref b ∧ Rd H a (.dK ks) ∧ Rd H b (.dK ls) ∧ ks.map (·.1) = ls.map (·.1) ∧ DpAll K H (ks.map (·.2)) ds ∧ DpAll K H (ls.map (·.2)) es ∧
  (∀ d ∈ ds, SeqAt.shaped d = true) ∧ (∀ e ∈ es, SeqAt.shaped e = true) ∧ Q (.bl (PyData.eqvAll ds es)) H
theorem value_at {K : Type} [DecidableEq K] : ∀ {vs : List (K × Value)}, (vs.map (·.1)).Nodup → ∀ p ∈ vs, valueAt vs p.1 = some p.2 := by
  intro vs nd p hp
  unfold valueAt
  have h : vs.find? (fun kv => decide (kv.1 = p.1)) = some p := by
    induction vs with
    | nil => cases hp
    | cons q vs ih =>
      rw [List.map_cons, List.nodup_cons] at nd
      rcases List.mem_cons.mp hp with rfl | hp
      · rw [List.find?_cons, decide_eq_true rfl]
      · have ne : ¬ q.1 = p.1 := fun e => nd.1 (by rw [e]; exact List.mem_map.mpr ⟨p, hp, rfl⟩)
        rw [List.find?_cons, decide_eq_false ne]
        exact ih nd.2 hp
  rw [h]
  rfl
section
variable {X : Cx} {pins : List (Addr × Obj)} {σ : L2.St} {H : Hp} {s : Shared}
theorem all_hits (I : Inv X pins σ H s) (hu : X.A.units + 66 < cLine) {full : List (Key × Value)} : ∀ (ks ls : List (Key × V)) (va vb : List (Key × Value)) (ds es : List PyData), KV ks va → KV ls vb → ks.map (·.1) = ls.map (·.1) → DpAll X.K H (ks.map (·.2)) ds → DpAll X.K H (ls.map (·.2)) es →
    (∀ d ∈ ds, SeqAt.shaped d = true) → (∀ e ∈ es, SeqAt.shaped e = true) → (∀ p ∈ vb, valueAt full p.1 = some p.2) → PySem.W.KeqHitsP X.prog X.w X.A.in1 s full va (PyData.eqvAll ds es)
  | [], [], _, _, _, _, ra, rb, _, da, db, _, _, _ => by
    cases ra
    cases da
    cases db
    exact .nil
  | [], _ :: _, _, _, _, _, _, _, e, _, _, _, _, _ => by cases e
  | _ :: _, [], _, _, _, _, _, _, e, _, _, _, _, _ => by cases e
  | k :: ks, l :: ls, va, vb, ds, es, ra, rb, e, da, db, sd, se, at_ => by
    cases ra with
    | @cons _ p _ va ha ra =>
      cases rb with
      | @cons _ q _ vb hb rb =>
        rw [List.map_cons] at da db
        cases da with
        | @cons _ _ d ds d1 da =>
          cases db with
          | @cons _ _ g es d2 db =>
            obtain ⟨a1, a2⟩ := ha
            obtain ⟨b1, b2⟩ := hb
            have kl : k.1 = l.1 := (List.cons.inj e).1
            have rest := all_hits I hu ks ls va vb ds es ra rb (List.cons.inj e).2 da db (fun d hd => sd d (List.mem_cons_of_mem _ hd)) (fun d hd => se d (List.mem_cons_of_mem _ hd)) (fun p hp => at_ p (List.mem_cons_of_mem _ hp))
            obtain ⟨as, r1⟩ := Dp.reads I d k.2 p.2 d1 a2
            obtain ⟨bs, r2⟩ := Dp.reads I g l.2 q.2 d2 b2
            have s1 := sd d List.mem_cons_self
            have s2 := se g List.mem_cons_self
            have look : valueAt full p.1 = some q.2 := by
              rw [show p.1 = q.1 from a1.symm.trans (kl.trans b1)]
              exact at_ q List.mem_cons_self
            have one : SeqAt.EqP X.prog X.w X.A.in1 s p.2 q.2 (PyData.eqv d g) := fun E Q hq => PySem.SeqAt.eqAt_reads d g X.A.in1 s p.2 q.2 as bs r1 r2 (SeqAt.canLay_of_shaped s1) (SeqAt.canLay_of_shaped s2) (SeqAt.room_of_shaped (A := X.A.in1) s1 (by show X.A.units + 1 + 64 < cLine; omega)) X.prog X.w E Q hq
            have z := PySem.W.KeqHitsP.hit (k := p.1) (v := p.2) look one rest
            simp only [PyData.eqvAll]
            exact z
theorem op_eqDict (hu : X.A.units + 66 < cLine) : OpR X (compareOp .Eq) (rEqDict X.K) := by
  intro pins s σ H x y v u Q I rx ry h
  obtain ⟨a, b, ks, ls, ds, es, rfl, rfl, ea, eb, ke, da, db, sd, se, q⟩ := h
  cases (show v = Value.ref a from rx)
  cases (show u = Value.ref b from ry)
  obtain ⟨_, ya, va, ra, oa⟩ := dk_rd I.hok ea
  obtain ⟨_, yb, vb, rb, ob⟩ := dk_rd I.hok eb
  have nd : (vb.map (·.1)).Nodup := by
    obtain ⟨_, _, _, _, _, _, _, _, nd⟩ := ob
    exact nd
  have len : va.length = vb.length := by
    rw [← ra.length, ← rb.length, ← List.length_map (f := fun p : Key × V => p.1) (as := ks), ke, List.length_map]
  refine PySem.W.rcP_dicts (knd := mixKind X.prog X.w) ya yb oa ob (by omega) (fun _ => all_hits I hu ks ls va vb ds es ra rb ke da db sd se (value_at nd)) _ _ ?_
  rw [len, beq_self_eq_true, Bool.true_and]
  exact ⟨.bl _, H, I, rfl, q⟩
end
end GL
/-! {x!r}, x a text, a number, a truth value, a list or a tuple of data -/
namespace GL
open PySem PySem.Spec PyProof.Rows L2
end GL
/-! ### len(set(t)), t a tuple of texts, each once -/
namespace GB
open PySem PySem.Spec PyProof.Rows L2
theorem take_no {xs : List Str} (nd : xs.Nodup) {i : Nat} (hi : i < xs.length) : (xs.take i).any (· == xs.getD i Str.empty) = false := by
  rw [List.any_eq_false]
  intro y hy q
  obtain ⟨j, hj, ej⟩ := List.getElem_of_mem hy
  rw [List.length_take] at hj
  rw [List.getElem_take] at ej
  have e2 : xs.getD i Str.empty = xs[i] := by rw [List.getD_eq_getElem?_getD, List.getElem?_eq_getElem hi, Option.getD_some]
  have e3 : xs[j]'(by omega) = xs[i] := by rw [ej, eq_of_beq q, e2]
  exact (List.pairwise_iff_getElem.mp nd j i (by omega) hi (by omega)) e3
theorem take_next {xs : List Str} {i : Nat} (hi : i < xs.length) (k : Str) : ((xs.take i).any (· == k) || decide (k = xs.getD i Str.empty)) = (xs.take (i + 1)).any (· == k) := by
  have e2 : xs.getD i Str.empty = xs[i] := by rw [List.getD_eq_getElem?_getD, List.getElem?_eq_getElem hi, Option.getD_some]
  rw [List.take_add_one, List.getElem?_eq_getElem hi, List.any_append, e2]
  show _ = ((xs.take i).any (· == k) || [xs[i]].any (· == k))
  congr 1
  by_cases e : k = xs[i]
  · rw [decide_eq_true e, e]
    simp
  · rw [decide_eq_false e]
    have : (xs[i] == k) = false := beq_eq_false_iff_ne.mpr fun z => e z.symm
    simp [this]
section
variable {prog : Program} {w : World} {A : Around} {R : Result → Shared → Prop} {it : Addr} {fps wrs : List Addr} {GG : Array GenState → Array GenState → Prop} {m : Nat} {PP : Nat → Value → Prop} {Sta : Nat → Shared → Prop}
/-- the set as it stands behind i of the texts -/
abbrev Upto (prog : Program) (w : World) (h : Heap) (T : Addr) (xs : List Str) (i : Nat) : Prop := h.SetOf (PySem.strKind prog w) T (fun k => (xs.take i).any (· == k)) i
theorem upto_keep {h h' : Heap} {T : Addr} {xs : List Str} {i : Nat} (u : Upto prog w h T xs i) (k : ∀ o, h.get? T = some o → h'.get? T = some o) : Upto prog w h' T xs i :=
  let ⟨o, es, ep, t, ho, r⟩ := u
  ⟨o, es, ep, t, k o ho, r⟩
theorem each (W : WalksS prog w A.in1 it fps wrs GG m PP Sta) (T : Addr) (hT : T ∉ fps) (xs : List Str) (hm : xs.length = m) (nd : xs.Nodup) (hb : m + 1 < scanBound)
    (val : ∀ i v, PP i v → ∃ t, v = .str (xs.getD i Str.empty) t) (j : Nat) : ∀ (i : Nat) (s : Shared), m - i = j → i ≤ m → Sta i s → Upto prog w s.heap T xs i →
      (∀ s', Moved (T :: wrs) GG s s' → Upto prog w s'.heap T xs m → R (.ok (.ret .none)) s') → codeAny (model prog w) A (.builtin "set.update.loop" ⟨[.ref T, .ref it], []⟩) R s := by
  have nT : T ∉ wrs := fun q => hT (W.sub _ q)
  have more : ∀ b ∈ wrs, b ∈ T :: wrs := fun b q => List.mem_cons_of_mem _ q
  induction j with
  | zero =>
    intro i s hj hi hs hu hR
    obtain rfl : i = m := by omega
    refine codeAny_builtin PyProof.Rows.F.entry_set_update_loop (by
      rw [Around.under_plainId PyProof.Rows.F.plain_set_update_loop _]
      exact (show wpAny _ A.in1 (pyNext (.ref it) >>= _) _ _ s from wpAny_bind (W.done s _ _ hs fun s' mv => (show wpAny _ A.in1 (ret Value.none) _ _ s' from wpAny_pure (hR s' (mv.mono more) (upto_keep hu (mv.heap T · nT)))))))
  | succ j ih =>
    intro i s hj hi hs hu hR
    have lt : i < m := by omega
    have lx : i < xs.length := by omega
    refine codeAny_builtin PyProof.Rows.F.entry_set_update_loop ?_
    rw [Around.under_plainId PyProof.Rows.F.plain_set_update_loop _]
    refine (show wpAny _ A.in1 (pyNext (.ref it) >>= _) _ _ s from wpAny_bind (W.item i s _ _ lt hs fun v s1 hv hs1 mv => ?_))
    obtain ⟨t, rfl⟩ := val i v hv
    refine (show wpAny _ A.in1 (holding [Value.str (xs.getD i Str.empty) t] (setAdd T (.str (xs.getD i Str.empty) t)) >>= _) _ _ s1 from wpAny_bind (wpAny_holding ?_))
    unfold setAdd
    refine wpAny_holding (wpAny_bind ((PySem.strKind prog w).pyHash (strKind_is _ _ (xs.getD i Str.empty) _) ?_))
    refine wpAny_setAddHashed_of (knd := PySem.strKind prog w) (s := { s1 with toks := s1.toks + 1 }) (strKind_is _ _ _ _) rfl (upto_keep hu (mv.heap T · nT)) (by omega) fun h2 same u2 => ?_
    have u3 : Upto prog w h2 T xs (i + 1) := SetOf_congr u2 (take_next lx) (by
      rw [take_no nd lx]
      rfl)
    refine wpAny_pure ⟨plainId_quiet PyProof.Rows.F.plain_set_update_loop _, ih (i + 1) _ (by omega) lt (W.frame _ s1 _ _ hs1 (Nat.le_succ _) fun b q o e => (same.2 b (fun z => hT (z ▸ q))).trans e) u3 fun s3 mv3 u4 => hR s3 (Moved.trans W.gtrans ((mv.mono more).then_heap (Nat.le_succ _) fun b o q e => (same.2 b (fun z => q (z ▸ List.mem_cons_self))).trans e) mv3) u4⟩
end
section
variable {prog : Program} {w : World} {A : Around} {E : Value → Shared → Prop} {s : Shared}
abbrev emptyS (led : Bool) : Obj := { cls := .type "set", dict := none, data := .set #[] 0 (.fresh 0 0 led) }
theorem set_texts {l : Addr} {its : Array Value} {xs : List Str} {Q : Value → Shared → Prop} (calm : A.handled = none) (hl : s.heap.IsTuple l its) (hx : StrsAre its.toList xs) (nd : xs.Nodup) (few : xs.length + 1 < scanBound)
    (h : ∀ (h' : Heap) (tk : Nat), Upto prog w h' s.heap.objs.size xs its.size → (∀ b o, b < s.heap.objs.size → s.heap.get? b = some o → h'.get? b = some o) → Q (.ref s.heap.objs.size) { s with heap := h', toks := tk }) :
    wpAny (model prog w) A (call (.type "set") [.ref l]) Q E s := by
  obtain ⟨cc, tl, hmro⟩ := PySem.F.called_set.mro
  have a1 := PySem.F.called_set.made; have a2 := PySem.F.called_set.sub; have a3 := PySem.F.called_set.notType; have a4 := PySem.F.called_set.canCreate; have a5 := PySem.F.typeCall_set_1 (.ref l)
  refine wpAny_call (codeAny_of_tree (show wpAny _ _ (callAny (.type "set") _) _ _ _ from wpAny_pure ⟨Code.quiet_builtin _ (by decide +kernel), codeAny_builtin PySem.F.entry_type_call ?_⟩))
  rw [Around.under_plain (weight_type_call_type "set" [.ref l] []) rfl]
  repeat (any_goals (first | assumption | wp_step))
  refine codeAny_mono (code_set_new_1 (.ref l) (E := E) (Q₁ := fun ob t1 => ∃ led : Bool, ob = .ref s.heap.objs.size ∧ t1 = { s with heap := s.heap.push (emptyS led) }) fun led => ⟨led, rfl, rfl⟩) fun r t1 hr => ?_
  match r, hr with
  | .error e, hr => exact hr
  | .ok .next, hr => exact hr.elim
  | .ok .brk, hr => exact hr.elim
  | .ok .cont, hr => exact hr.elim
  | .ok (.ret ob), hr =>
    obtain ⟨led, rfl, rfl⟩ := hr
    have g0 : (s.heap.push (emptyS led)).get? s.heap.objs.size = some (emptyS led) := Heap.get?_push_size _ rfl
    have ty : Shared.TypeIs { s with heap := s.heap.push (emptyS led) } (.ref s.heap.objs.size) "set" := ⟨_, g0, rfl⟩
    have b1 := PySem.F.called_set.init.lookup; have b2 := PySem.F.called_set.init.bind (.ref s.heap.objs.size)
    repeat (any_goals (first | assumption | wp_step))
    refine codeAny_mono (codeAny_call_builtin (R := wants (fun r t2 => r = .none ∧ ∃ h' tk, t2 = { s with heap := h', toks := tk } ∧ Upto prog w h' s.heap.objs.size xs its.size ∧ (∀ b o, b < s.heap.objs.size → s.heap.get? b = some o → h'.get? b = some o)) E) PySem.F.called_set.init.plain PySem.F.entry_set_init (check_set_init_1 ty ?_)) fun r2 t2 hr2 => ?_
    · obtain ⟨⟨oc, od, odat, osl⟩, ho, hc, nn, hd⟩ := hl
      dsimp only at hc hd
      subst hc hd
      have ho2 : (s.heap.push (emptyS led)).get? l = some { cls := .type "tuple", dict := od, data := .seq its nn, slots := osl } := Heap.get?_push_of_some _ ho
      have c1 := PySem.F.sub_tuple_set; have c2 := PySem.F.sub_tuple_frozenset; have c3 : (Value.type "tuple" == Value.type "dict") = false := by decide
      have tu : (s.heap.push (emptyS led)).IsTuple l its := ⟨_, ho2, rfl, nn, rfl⟩
      unfold Builtin.«set.__init__» noKeywords Builtin.Frozenset.updateFrom
      generalize hI : pyIter = PI
      wp_walk
      subst hI
      refine wpAny_pyIter_tuple tu (wpAny_bind (wpAny_runValue ?_))
      have ls : l < s.heap.objs.size := Heap.lt_size ho
      have sz : (s.heap.push (emptyS led)).objs.size = s.heap.objs.size + 1 := Heap.size_push _ _
      have len : xs.length = its.size := (StrsAre.len_eq hx).symm.trans Array.length_toList
      have calm3 : A.in1.in1.in1.handled = none := by simp [calm]
      refine each ((Walks.tuple calm3 _ l (by rw [sz]; exact Nat.ne_of_lt (Nat.lt_succ_of_lt ls)) its).toS) s.heap.objs.size (by
        rw [sz]
        simp only [List.mem_cons, List.not_mem_nil, or_false, not_or]
        exact ⟨Nat.ne_of_lt (Nat.lt_succ_self _), Nat.ne_of_gt ls⟩) xs len nd (by rw [← len]; exact few) (fun i v hv => SS.strs_at hx i v (by rw [Array.getElem?_toList]; exact hv)) (its.size - 0) 0 _ (by omega) (Nat.zero_le _) ⟨⟨_, Heap.get?_push_size _ rfl, rfl, rfl⟩, tu.push _⟩ ?_ ?_
      · exact SetOf_congr ((setObjOf_fresh (knd := PySem.strKind prog w) led).setOf (Heap.get?_push_of_some _ g0) (by unfold scanBound; omega)) (fun _ => rfl) rfl
      · rintro ⟨h2, g2, d2, tk2, os2⟩ mv u
        have e1 : g2 = s.gens := mv.gens
        have e2 : d2 = s.drawn := mv.drawn
        have e3 : os2 = s.os := mv.os
        subst e1 e2 e3
        refine (show wpAny _ _ _ _ _ _ from wpAny_pure (show wpAny _ _ (ret Value.none) _ _ _ from wpAny_pure ⟨rfl, h2, tk2, rfl, u, fun b o lt e => mv.heap b o ?_ (Heap.get?_push_of_some _ (Heap.get?_push_of_some _ e))⟩))
        rw [sz]
        simp only [List.mem_cons, List.not_mem_nil, or_false, not_or]
        exact ⟨Nat.ne_of_lt lt, Nat.ne_of_lt (Nat.lt_succ_of_lt lt)⟩
    · match r2, hr2 with
      | .error e, hr2 => exact hr2
      | .ok .next, hr2 => exact hr2.elim
      | .ok .brk, hr2 => exact hr2.elim
      | .ok .cont, hr2 => exact hr2.elim
      | .ok (.ret r), hr2 =>
        obtain ⟨rfl, h2, tk2, rfl, u, kp⟩ := hr2
        repeat (any_goals (first | assumption | wp_step))
        exact h _ _ u kp
end
end GB
namespace GL
open PySem PySem.Spec PyProof.Rows L2
def tLenSetT (K : PySem.W.Frag) (ta : TE) : TE := fun σ H Q => ta σ H fun x H1 => ∃ (l : Addr) (xs : List Str), x = .ref l ∧ SqT K H1 l (xs.map V.str) ∧ xs.Nodup ∧ xs.length ≤ 1000 ∧ Q (.int (xs.length : Nat)) H1
theorem pe_lenSetT {X : Cx} {a : Expr} {ta : TE} {p p2 q pos : Pos} (hg : Gl X "len") (hm : X.mg "len" = none) (hg2 : Gl X "set") (hm2 : X.mg "set" = none) (ha : PE X a ta) (hc : X.calm = true := by rfl)
    (na : starEach [a] X.env = (false, eval a X.env) :: starEach [] X.env := by rfl) : PE X (.Call (.Name "len" p) [.Call (.Name "set" p2) [a] [] q] [] pos) (tLenSetT X.K ta) := by
  constructor
  intro pins s σ H Q I h
  refine Call_ (ld_blt I hg hm boot_len (callWith_builtin1 (args_cons (Call_ (ld_blt I hg2 hm2 boot_set (callWith_type1 (args_cons (thn (ha.run pins s σ H _ I h) fun v s1 hh => args_nil ?_) na) na rfl))) rfl) rfl rfl))
  obtain ⟨x, H1, I1, r1, l, xs, rfl, hq, nd, few, q1⟩ := hh
  cases r1
  obtain ⟨its, r, pl, hz⟩ := I1.tuple hq
  have len : its.toArray.size = xs.length := by rw [List.size_toArray, ← r.length, List.length_map]
  refine GB.set_texts (I1.ok.hd hc) pl (by simpa using strsAre_of r) nd (by unfold scanBound; omega) fun h' tk u kp => args_nil ?_
  rw [len] at u
  obtain ⟨o, es, ep, t, ho, hex, hd, _, _, _, hf, hn⟩ := u
  have I2 : Inv X pins σ H1 { s1 with heap := h', toks := tk } := I1.kept fun b o e => kp b o (Heap.lt_size e) e
  exact call_len_set ho hex hd hf (by rw [hn] <;> omega) ⟨.int xs.length, H1, I2.tok _, ⟨_, by rw [hn]⟩, q1⟩
/-! ### t in ts, data of any depth, ts a tuple -/
def rInDT (K : PySem.W.Frag) : R2 := fun x y H Q => ∃ d ds, Dp K H x d ∧ Dp K H y (.tuple ds) ∧ SeqAt.shaped d = true ∧ SeqAt.shaped (.tuple ds) = true ∧ Q (.bl (ds.any fun z => PyData.eqv z d)) H
theorem op_inDT {X : Cx} (hu : X.A.units + 65 < cLine) : OpR X (compareOp .In) (rInDT X.K) := by
  intro pins s σ H x y v u Q I rx ry h
  obtain ⟨d, ds, hd, he, sd, se, q⟩ := h
  obtain ⟨as, r1⟩ := Dp.reads I d x v hd rx
  obtain ⟨bs, r2⟩ := Dp.reads I (.tuple ds) y u he ry
  exact SeqAt.in_tuple_reads r2 r1 (SeqAt.canLay_of_shaped se) (SeqAt.canLay_of_shaped sd) (room_in_shaped sd hu) ⟨.bl _, H, I, rfl, q⟩
end GL
/-! x == o: x of a kind of Python's, o of an own class: o is asked -/
namespace PySem
end PySem
namespace GL
open PySem PySem.Spec PyProof.Rows L2
end GL
namespace GL
open PySem PySem.Spec PyProof.Rows L2
theorem roomV {k : Nat} {A : Around} (h : Room k A) : A.units + 66 < cLine := by
  have := h.un
  omega
theorem roomW {k : Nat} {A : Around} (h : Room k A) : A.units + 65 < cLine := by
  have := h.un
  omega
/-- d.update(e) -/
def tDUpd (to te : TE) : TE := fun σ H Q => to σ H fun x H1 => ∃ a, x = .ref a ∧ IsD H1 a ∧ te σ H1 fun y H2 => ∃ (b : Addr) (ks ls : List (Key × V)), y = .ref b ∧ a ≠ b ∧ H2 a = some (.dK ks) ∧ Rd H2 b (.dK ls) ∧ ks.length + ls.length ≤ 1000 ∧ Q .non (upd H2 a (.dK (mergeK ks ls)))
theorem pe_dupd {X : Cx} {o e : Expr} {to te : TE} {apos cpos : Pos} (ho : PE X o to) (he : PE X e te) (m : M1 X o "update" apos e cpos) : PE X (.Call (.Attribute o "update" apos) [e] [] cpos) (tDUpd to te) := by
  constructor
  intro pins s σ H Q I h
  refine wpAny_Call_method m.base m.few m.line PySem.F.plainAttrs_dict PySem.F.slot_dict_update PySem.F.type_dict_update (thn (ho.run pins s σ H _ I h) ?_)
  rintro u s1 ⟨x, H1, I1, rx, a, rfl, d, q1⟩
  cases (show u = Value.ref a from rx)
  obtain ⟨t1, t2, na⟩ := isD_at I1 d
  refine ⟨t1, t2, ?_⟩
  rw [m.trees]
  refine Calls.callWith_builtin rfl (Calls.evalArgs_plain (Calls.spliced_cons (thn (he.run pins s1 σ H1 _ I1 q1) fun iv s2 ⟨y, H2, I2, ry, b, ks, ls, ey, ne, ea, eb, hz, q2⟩ => Calls.spliced_nil ?_)))
  subst ey
  cases (show iv = Value.ref b from ry)
  obtain ⟨z1, l1, vs, r1, d1⟩ := dk_of I2.hok ea
  obtain ⟨z2, l2, ws, r2, d2⟩ := dk_rd I2.hok eb
  have lm := length_mergeK ls ks
  refine call_meetsIn PySem.F.slot_dict_update d1.typeIs PySem.F.entry_dict_update (PySem.F.args_dict_update_2 _ _) (meets_dict_update (mixKind X.prog X.w) a b ne l2) ⟨vs, ws, d1, d2, by rw [← r1.length, ← r2.length, sizeLine_eq]; omega, fun h' dd _ hs => ?_⟩
  have he' : ∃ q, h'.get? a = some q := let ⟨q, _, _, hq, _⟩ := dd; ⟨q, hq⟩
  exact ⟨.non, _, d_write (t' := s2.toks) I2 (by rw [ea]; exact True.intro) hs he' (dk_new (by rw [sizeLine_eq]; omega) l1 (r2.merge r1) dd), rfl, q2⟩
/-! ### != of two dicts -/
end GL
/-! ### tuples that are told with their object: no dict of their own -/
namespace GL
open PySem PySem.Spec PyProof.Rows L2
/-- a tuple's object as it is made -/
def Bare (o : Obj) : Prop := o.dict = none ∧ o.cls = .type "tuple"
/-- a display -/
def tTupX (t : TA) : TE := fun σ H Q => t σ H fun xs H1 => xs.length ≤ sizeLine ∧ ∀ p o, H1 p = none → Bare o → Q (.ref p) (upd H1 p (.frz o (.tup xs)))
section
variable {X : Cx} {es : List Expr} {t : TA} {pos : Pos} {pins : List (Addr × Obj)} {σ : L2.St} {H : Hp} {s : Shared}
theorem bare_laid {xs : List V} {us : List Value} (I : Inv X pins σ H s) (r : Vals xs us) (z : xs.length ≤ sizeLine) : Inv X pins σ (upd H s.heap.objs.size (.frz { cls := .type "tuple", data := .seq us.toArray } (.tup xs))) { s with heap := s.heap.push { cls := .type "tuple", data := .seq us.toArray } } :=
  I.laid (t' := s.toks) (fun b u e => Heap.get?_push_of_some _ e) (Nat.le_refl _) ⟨Heap.get?_push_size _ rfl, z, us, r, ⟨_, Heap.get?_push_size _ rfl, rfl, _, rfl⟩⟩
theorem pe_tupX {x1} (h : PA X es t) : PE X (.Tuple es x1 pos) (tTupX t) := by
  constructor
  intro pins s σ H Q I hq
  refine wpAny_Tuple_spliced (thn (h.run pos pins s σ H _ I hq) fun us s1 ⟨xs, H1, I1, r, z, q⟩ => ⟨by rw [← r.length]; exact z, ?_⟩)
  exact ⟨.ref s1.heap.objs.size, _, bare_laid I1 r z, rfl, q _ _ (I1.hok.fresh (Nat.le_refl _)) ⟨rfl, rfl⟩⟩
/-- at a a tuple without a dict of its own -/
def Tpl (K : PySem.W.Frag) (H : Hp) (a : Addr) : Prop := (∃ o u, H a = some (.frz o u) ∧ Bare o) ∨ ∃ o, K.lookup a = some o ∧ Bare o
/-- t.m(e, ..), t such a tuple -/
def tBMX (K : PySem.W.Frag) (r : V → List V → Hp → VK → Prop) (to : TE) (t : TA) : TE := fun σ H Q => to σ H fun x H1 => (∃ a, x = .ref a ∧ Tpl K H1 a) ∧ t σ H1 fun xs H2 => r x xs H2 Q
theorem pe_bmX {o e : Expr} {to : TE} {name : Str} {apos cpos : Pos} {id : String} {r : V → List V → Hp → VK → Prop} (slot : Slot "tuple" name id) (hty : typeOf (.builtin id) = pure (.type "method_descriptor")) (hm : MtR X id r) (ho : PE X o to) (ha : PA X (e :: es) t)
    (hbase : attributeBase o name X.env (eval o X.env) = eval o X.env := by rfl)
    (few : ((backTo cpos (starEach (e :: es) X.env)).all (fun x => !x.1) && (backToKw cpos (keywordEach [] X.env)).all (fun x => x.1.isSome) && decide ((e :: es).length + ([] : List Keyword).length + (if ([] : List Keyword).isEmpty then 0 else 1) < 30)) = true := by rfl)
    (hline : (apos.endLine == cpos.line) = true := by rfl) (hs : starEach (e :: es) X.env = (false, eval e X.env) :: starEach es X.env := by rfl) (hplain : (backTo cpos (starEach es X.env)).any (·.1) = false := by rfl) :
    PE X (.Call (.Attribute o name apos) (e :: es) [] cpos) (tBMX X.K r to t) := by
  constructor
  intro pins s σ H Q I h
  refine wpAny_Call_method_late hbase few hline rfl (thn (ho.run pins s σ H _ I h) fun v s1 ⟨x, H1, I1, r1, ⟨a, ea, tp⟩, q1⟩ => ?_)
  subst ea
  cases (show v = Value.ref a from r1)
  have ob : ∃ ob, s1.heap.get? a = some ob ∧ Bare ob := by
    rcases tp with ⟨o, u, e, b⟩ | ⟨o, e, b⟩
    · exact ⟨o, (I1.hok a _ e).1, b⟩
    · exact ⟨o, I1.kIn a o e, b⟩
  obtain ⟨ob, e1, b1, b2⟩ := ob
  refine ⟨"tuple", id, PySem.F.plainAttrs_tuple, slot, hty, ⟨ob, e1, b2⟩, fun c ec => ?_, ?_⟩
  · cases ec
    exact ⟨ob, e1, b1⟩
  have hA := ha.run cpos pins s1 σ H1 _ I1 q1
  rw [hs] at hA ⊢
  refine Calls.callWith_builtin (by show (false || (backTo cpos (starEach es X.env)).any (·.1)) = false; rw [hplain] <;> rfl) (Calls.evalArgs_plain ?_)
  exact thn hA fun us s2 ⟨vs, H2, I2, r2, q2⟩ => hm pins s2 σ H2 (.ref a) vs (.ref a) us Q I2 rfl r2 q2
end
end GL
namespace My
open PySem PySem.Spec PyProof.Rows L2 GL
/-! ### words, rows, rules: no Python here -/
inductive Wd where
  | look | add | tri | live | home | off | fin | set | both | take | give | move | lift | settle | undo | leave | wait
deriving DecidableEq
def Wd.s : Wd → Str
  | .look => "look" | .add => "add" | .tri => "try" | .live => "live" | .home => "home" | .off => "off" | .fin => "end" | .set => "set" | .both => "both"
  | .take => "take" | .give => "give" | .move => "move" | .lift => "lift" | .settle => "settle" | .undo => "undo" | .leave => "leave" | .wait => "wait"
def Wd.n : Wd → Nat
  | .look => 0 | .add => 1 | .tri => 2 | .live => 3 | .home => 4 | .off => 5 | .fin => 6 | .set => 7 | .both => 8
  | .take => 9 | .give => 10 | .move => 11 | .lift => 12 | .settle => 13 | .undo => 14 | .leave => 15 | .wait => 16
def allW : List Wd := [.look, .add, .tri, .live, .home, .off, .fin, .set, .both, .take, .give, .move, .lift, .settle, .undo, .leave, .wait]
theorem allW_mem (w : Wd) : w ∈ allW := by cases w <;> decide
theorem Wd.inj {a b : Wd} (h : a.s = b.s) : a = b := by
  have go : (allW.all fun a => allW.all fun b => decide (a.s = b.s → a = b)) = true := by decide +kernel
  have h1 := List.all_eq_true.mp (List.all_eq_true.mp go a (allW_mem a)) b (allW_mem b)
  exact of_decide_eq_true h1 h
theorem Wd.len (w : Wd) : w.s.length ≤ 6 := by cases w <;> decide +kernel
abbrev wV (w : Wd) : V := .str w.s
theorem wV_eq (a b : Wd) : decide (wV a = wV b) = decide (a = b) := by
  by_cases e : a = b
  · rw [e, decide_eq_true rfl, decide_eq_true rfl]
  · rw [decide_eq_false e, decide_eq_false fun q => e (Wd.inj (V.str.inj q))]
theorem inV_w (a : Wd) : ∀ l : List Wd, inV (wV a) (l.map wV) = decide (a ∈ l)
  | [] => rfl
  | b :: l => by
    have ih := inV_w a l
    show ((b.s == a.s) || inV (wV a) (l.map wV)) = decide (a ∈ b :: l)
    rw [ih]
    by_cases e : a = b
    · subst e
      simp
    · have z : (b.s == a.s) = false := beq_eq_false_iff_ne.mpr fun q => e (Wd.inj q).symm
      rw [z, Bool.false_or]
      by_cases m : a ∈ l
      · rw [decide_eq_true m, decide_eq_true (List.mem_cons_of_mem _ m)]
      · rw [decide_eq_false m, decide_eq_false fun q => (List.mem_cons.mp q).elim e m]
theorem flat_w (l : List Wd) : (l.map wV).all flatV = true := by
  rw [List.all_eq_true]
  intro x hx
  obtain ⟨n, _, rfl⟩ := List.mem_map.mp hx
  rfl
theorem wV_strs (l : List Wd) : l.map wV = (l.map Wd.s).map V.str := by
  rw [List.map_map]
  rfl
theorem nodup_s {l : List Wd} (h : l.Nodup) : (l.map Wd.s).Nodup := by
  induction l with
  | nil => exact List.nodup_nil
  | cons a l ih =>
    rw [List.nodup_cons] at h
    rw [List.map_cons, List.nodup_cons]
    refine ⟨fun q => ?_, ih h.2⟩
    obtain ⟨b, hb, e⟩ := List.mem_map.mp q
    exact h.1 (Wd.inj e ▸ hb)
theorem at_w {l : List Wd} {i : Nat} {w : Wd} (h : l[i]? = some w) : (l.map wV)[i]? = some (wV w) := by
  rw [List.getElem?_map, h]
  rfl
/-! rows as the program looks at them -/
abbrev Rw := List Wd
def pTA (us : Rw) (w : Wd) : Bool := if w ∈ us then !decide (Wd.look ∈ us.drop (us.idxOf w)) && !decide (Wd.tri ∈ us.drop (us.idxOf w)) else true
def pOH (us : Rw) : Bool := !decide (Wd.off ∈ us) || decide (Wd.home ∈ us.take (us.idxOf .off))
def pW (us ws : Rw) : Bool := us.all fun w => decide (w ∈ ws)
def pTake (us : Rw) : Bool := pW us [.live, .tri, .add, .look] && decide (Wd.live ∈ us) && if Wd.tri ∈ us then decide (us = [.tri, .live]) else decide (Wd.add ∈ us) && pTA us .live
def pGive (us : Rw) : Bool := pW us [.fin, .home, .off] && decide (Wd.fin ∈ us) && pOH us
def pMove (us : Rw) : Bool := pW us [.set, .home, .add, .look, .tri, .off] && (decide (us = []) || (!(!decide (Wd.set ∈ us) || decide (Wd.tri ∈ us) && (decide (Wd.add ∈ us) || decide (Wd.look ∈ us))) && (pOH us && pTA us .set && pTA us .off)))
def liftRows : List Rw := [[], [.set], [.off], [.set, .off], [.off, .set], [.both]]
def pLift (us : Rw) : Bool := pW us [.set, .off, .both] && decide (us ∈ liftRows)
def pRow : Wd → Rw → Bool
  | .take => pTake
  | .give => pGive
  | .move => pMove
  | _ => pLift
def pBatch (us : Rw) (n : Nat) : Bool := decide (n = 1) || decide (us.getLast? = some .live)
def pShared (us : Rw) (b : Bool) : Bool := b || decide (us = []) || decide (us.head? = some .home)
/-! rows as the law has them -/
structure RowOk (us : Rw) : Prop where
  nd : us.Nodup
  ln : us.length ≤ 6
theorem lift_ok {us : Rw} (h : us ∈ liftRows) : RowOk us ∧ pLift us = true := by
  have go : (liftRows.all fun us => decide us.Nodup && decide (us.length ≤ 6) && pLift us) = true := by decide +kernel
  have g := List.all_eq_true.mp go us h
  rw [Bool.and_eq_true, Bool.and_eq_true] at g
  exact ⟨⟨of_decide_eq_true g.1.1, of_decide_eq_true g.1.2⟩, g.2⟩
/-! rules of a book -/
inductive Pt where
  | take | give | move | lift | fails | shared | holds | batch | settles
deriving DecidableEq
def Pt.s : Pt → Str
  | .take => "take" | .give => "give" | .move => "move" | .lift => "lift" | .fails => "fails" | .shared => "shared" | .holds => "holds" | .batch => "batch" | .settles => "settles"
def allP : List Pt := [.take, .give, .move, .lift, .fails, .shared, .holds, .batch, .settles]
theorem allP_mem (p : Pt) : p ∈ allP := by cases p <;> decide
theorem Pt.inj {a b : Pt} (h : a.s = b.s) : a = b := by
  have go : (allP.all fun a => allP.all fun b => decide (a.s = b.s → a = b)) = true := by decide +kernel
  exact of_decide_eq_true (List.all_eq_true.mp (List.all_eq_true.mp go a (allP_mem a)) b (allP_mem b)) h
inductive Pv where
  | row (us : Rw) | hold (us : Rw) | wd (w : Wd) | bl (b : Bool) | int (n : Nat)
deriving DecidableEq
structure Ru where
  take : Rw
  give : Rw
  move : Rw
  lift : Rw
  fails : Wd
  shared : Bool
  holds : Rw
  batch : Nat
  settles : Bool
deriving DecidableEq
def Ru.get (r : Ru) : Pt → Pv
  | .take => .row r.take | .give => .row r.give | .move => .row r.move | .lift => .row r.lift | .fails => .wd r.fails | .shared => .bl r.shared | .holds => .hold r.holds | .batch => .int r.batch | .settles => .bl r.settles
/-- r with the part p of l -/
def Ru.upd (r l : Ru) : Pt → Ru
  | .take => { r with take := l.take } | .give => { r with give := l.give } | .move => { r with move := l.move } | .lift => { r with lift := l.lift } | .fails => { r with fails := l.fails }
  | .shared => { r with shared := l.shared } | .holds => { r with holds := l.holds } | .batch => { r with batch := l.batch } | .settles => { r with settles := l.settles }
theorem Ru.get_upd (r l : Ru) (p q : Pt) : (r.upd l p).get q = if q = p then l.get q else r.get q := by cases p <;> cases q <;> rfl
theorem Ru.ext_get {r l : Ru} (h : ∀ p, r.get p = l.get p) : r = l := by
  cases r
  cases l
  have h1 := Pv.row.inj (h .take); have h2 := Pv.row.inj (h .give); have h3 := Pv.row.inj (h .move); have h4 := Pv.row.inj (h .lift); have h5 := Pv.wd.inj (h .fails)
  have h6 := Pv.bl.inj (h .shared); have h7 := Pv.hold.inj (h .holds); have h8 := Pv.int.inj (h .batch); have h9 := Pv.bl.inj (h .settles)
  dsimp only at h1 h2 h3 h4 h5 h6 h7 h8 h9
  subst h1 h2 h3 h4 h5 h6 h7 h8 h9
  rfl
def kindRows : Rw := [.take, .give, .move, .lift]
def failWs : Rw := [.undo, .leave, .wait]
/-- rules that a book can have; holds stand in their sequence -/
structure Ok (r : Ru) : Prop where
  t : RowOk r.take ∧ pTake r.take = true ∧ pBatch r.take r.batch = true
  g : RowOk r.give ∧ pGive r.give = true
  m : RowOk r.move ∧ pMove r.move = true ∧ pShared r.move r.shared = true
  l : RowOk r.lift ∧ pLift r.lift = true
  f : r.fails ∈ failWs
  h : r.holds.Sublist kindRows
  b : 1 ≤ r.batch ∧ r.batch ≤ 50
theorem kinds_nd : kindRows.Nodup := by decide
theorem holds_nd {hs : Rw} (h : hs.Sublist kindRows) : hs.Nodup := h.nodup kinds_nd
theorem holds_ln {hs : Rw} (h : hs.Sublist kindRows) : hs.length ≤ 4 := h.length_le
theorem holds_sorted {hs : Rw} (h : hs.Sublist kindRows) : kindRows.filter (fun k => decide (k ∈ hs)) = hs := by
  have go : ∀ {ks hs : Rw}, hs.Sublist ks → ks.Nodup → ks.filter (fun k => decide (k ∈ hs)) = hs := by
    intro ks
    induction ks with
    | nil =>
      intro hs h _
      cases h
      rfl
    | cons k ks ih =>
      intro hs h nd
      rw [List.nodup_cons] at nd
      cases h with
      | cons _ h =>
        rw [List.filter_cons_of_neg (by simpa using fun q => nd.1 (h.subset q))]
        exact ih h nd.2
      | @cons_cons l1 _ _ h =>
        rw [List.filter_cons_of_pos (by simp)]
        congr 1
        rw [← ih h nd.2]
        refine List.filter_congr fun x hx => ?_
        have nx : x ≠ k := fun e => nd.1 (e ▸ hx)
        rw [ih h nd.2]
        simp [nx]
  exact go h kinds_nd
end My
namespace My
open PySem PySem.Spec PyProof.Rows L2 GL Evl StX SkE
section
variable {K : PySem.W.Frag} {σ : L2.St} {H : Hp} {te : TE} {x y v : V} {r : R2}
theorem rc_isi {u t : Value} {b : Bool} {c : V} (k : ClsV c u) (ty : ∀ H1, TyX K H1 x t) (h : PySem.W.kitOne K t u = some b) : RC (rIsi K) [x, c] H (.bl b) := fun H1 e Q q => ⟨x, c, t, u, b, rfl, k, ty H1, h, q H1 (Ex.refl H1)⟩
theorem et_is' {b : Bool} (h : Ev te σ H (.bl b)) : Ev te σ H (.bl b) := h
theorem rv_bl {a b : Bool} (h : RV r x y H (.bl a)) (e : a = b) : RV r x y H (.bl b) := by
  rw [← e]
  exact h
end
abbrev nV (n : Nat) : V := .int (n : Int)
theorem nV_eq (a b : Nat) : decide (nV a = nV b) = decide (a = b) := by
  by_cases e : a = b
  · subst e
    rw [decide_eq_true rfl, decide_eq_true rfl]
  · have z : ¬ nV a = nV b := fun q => e (by have := V.int.inj q; omega)
    rw [decide_eq_false z, decide_eq_false e]
section
variable {K : PySem.W.Frag} {σ : L2.St} {H H' : Hp} {ta tb te : TE} {t u : TT} {x y z v : V} {C : Addr}
theorem ev_fld {p dx : Addr} {fs : List (Str × V)} {f : Str} (ha : Ev ta σ H (.ref p)) (h : H p = some (.ins C dx fs)) (c : Cls K C) (n : NoAttr K C f) (l : fs.lookup f = some v) : Ev (tFld K ta f) σ H v :=
  fun H1 e Q q => ha H1 e _ fun H2 e2 => ⟨p, C, dx, fs, v, rfl, e2 _ _ (e _ _ h), c, n, l, q H2 e2⟩
theorem ev_chain {r r' : R2} {tc : TE} {w : V} {b c : Bool} (ha : Ev ta σ H x) (hb : Ev tb σ H y) (hr : RV r x y H (.bl b)) (hc : b = true → Ev tc σ H w) (hr' : b = true → RV r' y w H (.bl c)) : Ev (tChain r r' ta tb tc) σ H (.bl (b && c)) := fun H1 e Q q =>
  ha H1 e _ fun H2 e2 => hb H2 (e.trans e2) _ fun H3 e3 => hr H3 ((e.trans e2).trans e3) _ fun H4 e4 => ⟨b, rfl, by
    have f4 := (e2.trans e3).trans e4
    cases b with
    | false => exact q H4 f4
    | true => exact hc rfl H4 (e.trans f4) _ fun H5 e5 => hr' rfl H5 ((e.trans f4).trans e5) Q fun H6 e6 => q H6 ((f4.trans e5).trans e6)⟩
end
def ExB (a : Addr) (H H' : Hp) : Prop := ∀ b o, b ≠ a → H b = some o → H' b = some o
theorem ExB.of {a : Addr} {H H' : Hp} (e : Ex H H') : ExB a H H' := fun b o _ h => e b o h
theorem ExB.refl (a : Addr) (H : Hp) : ExB a H H := fun _ _ _ h => h
theorem ExB.trans {a : Addr} {H H1 H2 : Hp} (x : ExB a H H1) (y : ExB a H1 H2) : ExB a H H2 := fun b o n h => y b o n (x b o n h)
theorem ExB.set {a : Addr} {H : Hp} {o : HO} : ExB a H (upd H a o) := fun b u n h => by
  rw [upd_ne n]
  exact h
theorem ExB.mut {a b : Addr} {H H' : Hp} {o : HO} (e : ExB a H H') (h : H b = none) : ExB a H (upd H' b o) := fun c u n hc => by
  rw [upd_ne (ne_of_none hc h)]
  exact e c u n hc
theorem ExB.free {a : Addr} {H H' : Hp} {p : Addr} {o : HO} (e : ExB a H H') (ha : H' a = some o) (h : H' p = none) : H p = none := by
  cases q : H p with
  | none => rfl
  | some u =>
    have n : p ≠ a := fun z => by rw [z, ha] at h; cases h
    rw [e p u n q] at h
    cases h
theorem ExB.all {a : Addr} {H0 H H' : Hp} (e0 : Ex H0 H) (h : H0 a = none) (e : ExB a H H') : Ex H0 H' := fun b o hb => e b o (ne_of_none hb h) (e0 b o hb)
def PotAt (H : Hp) (a : Addr) : Prop := ∃ x y : Int, H a = some (.lst [.int x, .int y]) ∧ 0 ≤ x ∧ 0 ≤ y ∧ y < 2147483600
theorem PotAt.ex {H H' : Hp} {a : Addr} (h : PotAt H a) (e : Ex H H') : PotAt H' a := by
  obtain ⟨x, y, h1, h2⟩ := h
  exact ⟨x, y, e _ _ h1, h2⟩
theorem PotAt.exB {H H' : Hp} {a b : Addr} (h : PotAt H a) (e : ExB b H H') (n : a ≠ b) : PotAt H' a := by
  obtain ⟨x, y, h1, h2⟩ := h
  exact ⟨x, y, e _ _ n h1, h2⟩
def sp_Lpot (K : PySem.W.Frag) : Sp := fun vs H Q _ => ∃ (a : Addr) (ns : List Int) (k : Nat), vs = [.ref a, .int (k : Int)] ∧ SqL K H a (ns.map V.int) ∧ ns.length ≤ 63 ∧ k < 3 ∧ ∀ H' p, H p = none → Ex H H' → PotAt H' p → Q (.ref p) H'
def sp_Ldraw : Sp := fun vs H Q _ => ∃ a, ∃ n : Nat, vs = [.ref a, nV n] ∧ PotAt H a ∧ 1 ≤ n ∧ n ≤ 1000 ∧ ∀ H' (d : Nat), ExB a H H' → PotAt H' a → d < n → Q (nV d) H'
theorem ev_raw {te : TE} {σ : L2.St} {H : Hp} {v : V} {Q : VK} (h : Ev te σ H v) (k : ∀ H1, Ex H H1 → Q v H1) : te σ H Q := h H (Ex.refl H) Q k
theorem cb_raw {r : List V → Hp → VK → Prop} {ta : TA} {σ : L2.St} {H : Hp} {vs : List V} {Q : VK} (h : EvA ta σ H vs) (k : ∀ H1, Ex H H1 → r vs H1 Q) : tCB r ta σ H Q := h H (Ex.refl H) _ k
theorem q_asgR {te : TE} {g : TG} {tz : TS} {D : Ends} {σ : L2.St} {H : Hp} (h : te σ H fun x H1 => g x σ H1 (tz D)) : tSeq (tAsg te g) tz D σ H := h
theorem s_retR {te : TE} {D : Ends} {σ : L2.St} {H : Hp} (h : te σ H D.rt) : tRet te D σ H := h
theorem no_pylong {x : Int} {n : Nat} (h : n ≤ 1000) : Builtin.divisionGoesByPylong x (n : Int) = false := by
  have hl : n.log2 < 10 := by
    by_cases e : n = 0
    · subst e
      decide
    · exact (Nat.log2_lt e).mpr (by omega)
  have hd : ¬ ((if ((n : Int) == 0) = true then 0 else (n : Int).natAbs.log2 / 30 + 1) > 300) := by
    rw [Int.natAbs_natCast]
    split <;> omega
  show (decide ((if ((n : Int) == 0) = true then 0 else (n : Int).natAbs.log2 / 30 + 1) > 300) && _) = false
  rw [decide_eq_false hd, Bool.false_and]
section
variable {K : PySem.W.Frag} {H : Hp}
theorem rc_lenL {a : Addr} {xs : List V} (h : SqL K H a xs) : RC (rLenS K) [.ref a] H (.int (xs.length : Int)) := fun H1 e Q q => ⟨a, xs, rfl, .inl (ex_l e h), q H1 (Ex.refl H1)⟩
theorem rc_max2 {i j : Int} : RC rMax2 [.int i, .int j] H (.int (if j > i then j else i)) := fun H1 _ Q q => ⟨i, j, rfl, q H1 (Ex.refl H1)⟩
theorem rc_int {i : Int} : RC (fun xs H Q => (∃ i, xs = [V.int i] ∧ Q (.int i) H) ∨ ∃ k, xs = [V.bl k] ∧ Q (.int (if k then 1 else 0)) H) [.int i] H (.int i) := fun H1 _ Q q => .inl ⟨i, rfl, q H1 (Ex.refl H1)⟩
theorem rc_abs {i : Int} : RC (fun xs H Q => ∃ i, xs = [V.int i] ∧ Q (.int (if i < 0 then -i else i)) H) [.int i] H (.int (if i < 0 then -i else i)) := fun H1 _ Q q => ⟨i, rfl, q H1 (Ex.refl H1)⟩
end
section
variable {P : Program} {w : World} {K : PySem.W.Frag} {mg : Str → Option Value} {base : Heap} {C : Addr} {H : Hp}
theorem dr {t : TA} {σ : L2.St} {Er : XK} {Q : VK} {a : Addr} {n : Nat} (h : EvA t σ H [.ref a, nV n]) (p : PotAt H a) (h1 : 1 ≤ n) (h2 : n ≤ 1000) (k : ∀ H' (d : Nat), ExB a H H' → PotAt H' a → d < n → Q (nV d) H') : tCall sp_Ldraw [] Er t σ H Q :=
  h H (Ex.refl H) _ fun H1 e1 => ⟨a, n, rfl, p.ex e1, h1, h2, fun H' d x p' hd => k H' d ((ExB.of e1).trans x) p' hd⟩
theorem app_raw {to te : TE} {σ : L2.St} {Q : VK} {l : Addr} (h : Ev to σ H (.ref l)) {xs : List V} (hl : H l = some (.lst xs)) (k : ∀ H1, Ex H H1 → te σ H1 fun v H2 => rAppend (.ref l) [v] H2 Q) : tBM K "list" rAppend to (tCons te tNil) σ H Q :=
  h H (Ex.refl H) _ fun H1 e1 => ⟨Or.inl ⟨rfl, xs, sq_of (e1 l _ hl)⟩, k H1 e1⟩
theorem yes_raw {σ : L2.St} {A B : Hp → Prop} (h : A H) : tYes σ H fun b H3 => if b = true then A H3 else B H3 := by
  show if true = true then A H else B H
  exact iteT h
theorem el_raw {te : TE} {σ : L2.St} {Q : VK} {xs : List V} (h : EvL te σ H xs) (k : ∀ p H1, H p = none → Ex H H1 → H1 p = some (.lst xs) → Q (.ref p) H1) : te σ H Q := h H (Ex.refl H) Q k
theorem op_raw {r : R2} {ta tb : TE} {σ : L2.St} {Q : VK} (h : ta σ H fun x H1 => tb σ H1 fun y H2 => r x y H2 Q) : tOp r ta tb σ H Q := h
theorem test_raw {te : TE} {σ : L2.St} {Q : Bool → Hp → Prop} (h : te σ H fun x H' => ∃ k, x = .bl k ∧ Q k H') : tTest te σ H Q := h
end
theorem roomU {k : Nat} {A : Around} (h : Room k A) : A.units + 64 < cLine := by
  have := h.un
  omega
theorem given_all (n : Nat) (v : Nat → V) : given n (fun _ => true) v = (List.range n).map v := by
  unfold given
  rw [List.filter_eq_self.mpr (fun _ _ => rfl)]
section
variable {K : PySem.W.Frag} {σ : L2.St} {H : Hp} {te tb : TE} {ta : TA} {t tu : TT} {D : Ends} {tz : TS} {xs ys : List V} {b : Bool}
theorem et_yes : EvT tYes σ H true := fun H1 _ _ q => q H1 (Ex.refl H1)
theorem el_is (h : EvL te σ H xs) (e : xs = ys) : EvL te σ H ys := by
  rw [← e]
  exact h
theorem nx_raw (h : D.nx σ H) : tNext D σ H := h
theorem rc_all {p : Addr} {bs : List Bool} (h : H p = some (.lst (bs.map V.bl))) : RC (rAll K) [.ref p] H (.bl (bs.all id)) := fun H1 e Q q => ⟨p, bs, rfl, sq_of (e _ _ h), q H1 (Ex.refl H1)⟩
theorem ev_allB {bs : List Bool} (h : EvL te σ H (bs.map V.bl)) : Ev (tCB (rAll K) (tCons te tNil)) σ H (.bl (bs.all id)) := fun H1 e Q q => h H1 e _ fun p H2 hp e2 h2 => rc_all h2 H2 (Ex.refl H2) Q fun H3 e3 => q H3 (e2.trans e3)
end
end My
namespace My
open PySem PySem.Spec PyProof.Rows L2 GL Evl StX SkE
/-! ### rows and rules in the heap -/
def isTup : HO → Bool
  | .tup _ => true
  | .frz _ (.tup _) => true
  | _ => false
/-- no tuple stands at b -/
def NoTup (H : Hp) (b : Addr) : Prop := ∀ u, H b = some u → isTup u = false
inductive RowAt (K : PySem.W.Frag) (H : Hp) (a : Addr) (us : Rw) : Prop where
  | tup (h : H a = some (.tup (us.map wV)))
  | fx {o : Obj} (h : H a = some (.frz o (.tup (us.map wV)))) (b : Bare o)
  | kst (h : ∀ H, SqT K H a (us.map wV)) (y : ∀ H, TyX K H (.ref a) (.type "tuple"))
section
variable {K : PySem.W.Frag} {H H' : Hp} {a b : Addr} {us ws : Rw}
theorem NoTup.lst {xs : List V} (h : H b = some (.lst xs)) : NoTup H b := fun u e => by
  rw [h] at e
  cases e
  rfl
theorem NoTup.dK {xs : List (Key × V)} (h : H b = some (.dK xs)) : NoTup H b := fun u e => by
  rw [h] at e
  cases e
  rfl
theorem NoTup.ins {C dx : Addr} {xs : List (Str × V)} (h : H b = some (.ins C dx xs)) : NoTup H b := fun u e => by
  rw [h] at e
  cases e
  rfl
theorem NoTup.none (h : H b = .none) : NoTup H b := fun u e => by
  rw [h] at e
  cases e
theorem RowAt.sq (h : RowAt K H a us) : SqT K H a (us.map wV) := by
  cases h with
  | tup h => exact st_of h
  | fx h _ => exact .inl (.inr ⟨_, h⟩)
  | kst h _ => exact h H
theorem RowAt.ty (h : RowAt K H a us) : TyX K H (.ref a) (.type "tuple") := by
  cases h with
  | tup h => exact .base (.tup h)
  | fx h _ => exact .fTuple h
  | kst _ y => exact y H
theorem RowAt.ex (h : RowAt K H a us) (e : Ex H H') : RowAt K H' a us := by
  cases h with
  | tup h => exact .tup (e _ _ h)
  | fx h b => exact .fx (e _ _ h) b
  | kst h y => exact .kst h y
/-- a place where no tuple stands may change -/
theorem RowAt.exB (h : RowAt K H a us) (e : ExB b H H') (n : NoTup H b) : RowAt K H' a us := by
  cases h with
  | tup h => exact .tup (e _ _ (fun q => Bool.noConfusion (n _ (q ▸ h))) h)
  | fx h c => exact .fx (e _ _ (fun q => Bool.noConfusion (n _ (q ▸ h))) h) c
  | kst h y => exact .kst h y
/-- a row: a tuple without a dict -/
inductive RowX (K : PySem.W.Frag) (H : Hp) (a : Addr) (us : Rw) : Prop where
  | fx {o : Obj} (h : H a = some (.frz o (.tup (us.map wV)))) (b : Bare o)
  | kst (h : ∀ H, SqT K H a (us.map wV)) (y : ∀ H, TyX K H (.ref a) (.type "tuple")) (t : ∃ o, K.lookup a = some o ∧ Bare o)
theorem RowX.at_ (h : RowX K H a us) : RowAt K H a us := by
  cases h with
  | fx h b => exact .fx h b
  | kst h y t => exact .kst h y
theorem RowX.tp (h : RowX K H a us) : Tpl K H a := by
  cases h with
  | fx h b => exact .inl ⟨_, _, h, b⟩
  | kst h y t => exact .inr t
theorem RowX.sq (h : RowX K H a us) : SqT K H a (us.map wV) := h.at_.sq
theorem RowX.ex (h : RowX K H a us) (e : Ex H H') : RowX K H' a us := by
  cases h with
  | fx h b => exact .fx (e _ _ h) b
  | kst h y t => exact .kst h y t
theorem RowX.exB (h : RowX K H a us) (e : ExB b H H') (n : NoTup H b) : RowX K H' a us := by
  cases h with
  | fx h c => exact .fx (e _ _ (fun q => Bool.noConfusion (n _ (q ▸ h))) h) c
  | kst h y t => exact .kst h y t
def dW (w : Wd) : PyData := .str w.s
def dRow (us : Rw) : PyData := .tuple (us.map dW)
theorem dp_ws (H : Hp) : ∀ us : Rw, DpAll K H (us.map wV) (us.map dW)
  | [] => .nil
  | u :: us => .cons (.str _) (dp_ws H us)
theorem RowAt.dp (h : RowAt K H a us) : Dp K H (.ref a) (dRow us) := .tup h.sq (dp_ws H us)
theorem RowX.dp (h : RowX K H a us) : Dp K H (.ref a) (dRow us) := h.at_.dp
theorem eqv_ws : ∀ us ws : Rw, PyData.eqvAll (us.map dW) (ws.map dW) = decide (us = ws)
  | [], [] => rfl
  | [], _ :: _ => rfl
  | _ :: _, [] => rfl
  | u :: us, w :: ws => by
    have ih := eqv_ws us ws
    show (PyData.eqv (dW u) (dW w) && PyData.eqvAll (us.map dW) (ws.map dW)) = decide (u :: us = w :: ws)
    rw [ih]
    have e1 : PyData.eqv (dW u) (dW w) = decide (u = w) := by
      show (u.s == w.s) = decide (u = w)
      by_cases e : u = w
      · rw [e, decide_eq_true rfl, beq_self_eq_true]
      · rw [decide_eq_false e]
        exact beq_eq_false_iff_ne.mpr fun q => e (Wd.inj q)
    rw [e1]
    by_cases e : u = w <;> by_cases e' : us = ws <;> simp [e, e']
theorem eqv_row (us ws : Rw) : PyData.eqv (dRow us) (dRow ws) = decide (us = ws) := by
  show PyData.eqvAll (us.map dW) (ws.map dW) = decide (us = ws)
  exact eqv_ws us ws
theorem shaped_of {d : PyData} (h1 : d.canLay0 = true) (h2 : d.depth ≤ 64) : SeqAt.shaped d = true := by
  show (d.canLay0 && decide (d.depth ≤ 64)) = true
  rw [h1, decide_eq_true h2]
  rfl
theorem w_ok (w : Wd) : PyData.strOk w.s = true := by cases w <;> decide +kernel
theorem lay_ws : ∀ us : Rw, PyData.canLayAll0 (us.map dW) = true
  | [] => rfl
  | u :: us => by
    show ((PyData.str u.s).canLay0 && PyData.canLayAll0 (us.map dW)) = true
    rw [lay_ws us]
    simp only [PyData.canLay0, w_ok, Bool.and_self]
theorem depth_ws : ∀ us : Rw, PyData.depthAll (us.map dW) ≤ 0
  | [] => Nat.le_refl _
  | u :: us => by
    show max (dW u).depth (PyData.depthAll (us.map dW)) ≤ 0
    exact Nat.max_le.mpr ⟨Nat.le_refl _, depth_ws us⟩
theorem row_lay (us : Rw) : (dRow us).canLay0 = true := lay_ws us
theorem row_depth (us : Rw) : (dRow us).depth ≤ 1 := by
  have := depth_ws us
  show (PyData.tuple (us.map dW)).depth ≤ 1
  simp only [PyData.depth]
  omega
theorem row_shaped (us : Rw) : SeqAt.shaped (dRow us) = true := shaped_of (row_lay us) (Nat.le_trans (row_depth us) (by decide))
theorem rows_lay : ∀ rs : List Rw, PyData.canLayAll0 (rs.map dRow) = true
  | [] => rfl
  | u :: us => by
    show ((dRow u).canLay0 && PyData.canLayAll0 (us.map dRow)) = true
    rw [rows_lay us, row_lay]
    rfl
theorem rows_depth : ∀ rs : List Rw, PyData.depthAll (rs.map dRow) ≤ 1
  | [] => Nat.zero_le _
  | u :: us => by
    show max (dRow u).depth (PyData.depthAll (us.map dRow)) ≤ 1
    exact Nat.max_le.mpr ⟨row_depth u, rows_depth us⟩
theorem rowsT_shaped (rs : List Rw) : SeqAt.shaped (.tuple (rs.map dRow)) = true := shaped_of (rows_lay rs) (by
  have := rows_depth rs
  simp only [PyData.depth]
  omega)
theorem any_row (us : Rw) (rs : List Rw) : ((rs.map dRow).any fun z => PyData.eqv z (dRow us)) = decide (us ∈ rs) := by
  rw [List.any_map]
  induction rs with
  | nil => rfl
  | cons r rs ih =>
    rw [List.any_cons, ih]
    show (PyData.eqv (dRow r) (dRow us) || decide (us ∈ rs)) = decide (us ∈ r :: rs)
    rw [eqv_row]
    by_cases e : r = us
    · subst e
      simp
    · have e' : ¬ us = r := fun q => e q.symm
      simp [e, e']
end
/-! lists of rows -/
inductive RowsAt (K : PySem.W.Frag) (H : Hp) : List V → List Rw → Prop where
  | nil : RowsAt K H [] []
  | cons {a : Addr} {us : Rw} {vs : List V} {rs : List Rw} (h : RowX K H a us) (t : RowsAt K H vs rs) : RowsAt K H (.ref a :: vs) (us :: rs)
section
variable {K : PySem.W.Frag} {H H' : Hp} {vs ws : List V} {rs qs : List Rw}
theorem RowsAt.ex (h : RowsAt K H vs rs) (e : Ex H H') : RowsAt K H' vs rs := by
  induction h with
  | nil => exact .nil
  | cons h _ ih => exact .cons (h.ex e) ih
theorem RowsAt.len (h : RowsAt K H vs rs) : vs.length = rs.length := by
  induction h with
  | nil => rfl
  | cons _ _ ih => rw [List.length_cons, List.length_cons, ih]
theorem RowsAt.app (h : RowsAt K H vs rs) (h2 : RowsAt K H ws qs) : RowsAt K H (vs ++ ws) (rs ++ qs) := by
  induction h with
  | nil => exact h2
  | cons h _ ih => exact .cons h ih
theorem RowsAt.at (h : RowsAt K H vs rs) {i : Nat} {v : V} (hv : vs[i]? = some v) : ∃ a us, v = .ref a ∧ rs[i]? = some us ∧ RowX K H a us := by
  induction h generalizing i with
  | nil => simp at hv
  | @cons a us vs rs h _ ih =>
    cases i with
    | zero =>
      rw [List.getElem?_cons_zero] at hv
      exact ⟨a, us, (Option.some.inj hv).symm, rfl, h⟩
    | succ i =>
      rw [List.getElem?_cons_succ] at hv
      obtain ⟨b, ws, e, e2, hb⟩ := ih hv
      exact ⟨b, ws, e, by rw [List.getElem?_cons_succ]; exact e2, hb⟩
theorem RowsAt.mem (h : RowsAt K H vs rs) {v : V} (hv : v ∈ vs) : ∃ a us, v = .ref a ∧ us ∈ rs ∧ RowX K H a us := by
  obtain ⟨i, hi⟩ := List.getElem?_of_mem hv
  obtain ⟨a, us, e, e2, h2⟩ := h.at hi
  exact ⟨a, us, e, List.mem_of_getElem? e2, h2⟩
theorem RowsAt.dp (h : RowsAt K H vs rs) : DpAll K H vs (rs.map dRow) := by
  induction h with
  | nil => exact .nil
  | cons h _ ih => exact .cons h.dp ih
end
/-! parts -/
def Pv.At (K : PySem.W.Frag) (H : Hp) : Pv → V → Prop
  | .row us, v => ∃ a, v = .ref a ∧ RowX K H a us
  | .hold us, v => ∃ a, v = .ref a ∧ RowAt K H a us
  | .wd w, v => v = wV w
  | .bl b, v => v = .bl b
  | .int n, v => v = nV n
def Pv.d : Pv → PyData
  | .row us => dRow us
  | .hold us => dRow us
  | .wd w => dW w
  | .bl b => .bool b
  | .int n => .int n
section
variable {K : PySem.W.Frag} {H H' : Hp} {p q : Pv} {v : V} {b : Addr}
theorem Pv.At.ex (h : p.At K H v) (e : Ex H H') : p.At K H' v := by
  cases p with
  | row us =>
    obtain ⟨a, rfl, h⟩ := h
    exact ⟨a, rfl, h.ex e⟩
  | hold us =>
    obtain ⟨a, rfl, h⟩ := h
    exact ⟨a, rfl, h.ex e⟩
  | _ => exact h
theorem Pv.At.exB (h : p.At K H v) (e : ExB b H H') (n : NoTup H b) : p.At K H' v := by
  cases p with
  | row us =>
    obtain ⟨a, rfl, h⟩ := h
    exact ⟨a, rfl, h.exB e n⟩
  | hold us =>
    obtain ⟨a, rfl, h⟩ := h
    exact ⟨a, rfl, h.exB e n⟩
  | _ => exact h
theorem Pv.At.dp (h : p.At K H v) : Dp K H v p.d := by
  cases p with
  | row us =>
    obtain ⟨a, rfl, h⟩ := h
    exact h.dp
  | hold us =>
    obtain ⟨a, rfl, h⟩ := h
    exact h.dp
  | wd w =>
    cases h
    exact .str _
  | bl b =>
    cases h
    exact .bl b
  | int n =>
    cases h
    exact .int _
theorem Pv.shaped (p : Pv) : SeqAt.shaped p.d = true := by
  cases p with
  | row us => exact row_shaped us
  | hold us => exact row_shaped us
  | wd w => exact shaped_of (d := .str w.s) (by simp only [PyData.canLay0, w_ok]) (by simp only [PyData.depth]; omega)
  | bl b => exact shaped_of (d := .bool b) (by simp only [PyData.canLay0]) (by simp only [PyData.depth]; omega)
  | int n => exact shaped_of (d := .int n) (by simp only [PyData.canLay0]) (by simp only [PyData.depth]; omega)
end
/-- two parts of one kind -/
theorem eqv_get (r l : Ru) (p : Pt) : PyData.eqv (r.get p).d (l.get p).d = decide (r.get p = l.get p) := by
  have hw : ∀ u w : Wd, PyData.eqv (dW u) (dW w) = decide (Pv.wd u = Pv.wd w) := fun u w => by
    have z := eqv_ws [u] [w]
    have z2 : PyData.eqvAll ([u].map dW) ([w].map dW) = PyData.eqv (dW u) (dW w) := by
      show (PyData.eqv (dW u) (dW w) && true) = _
      rw [Bool.and_true]
    rw [← z2, z]
    exact decide_eq_decide.mpr ⟨fun e => by cases e; rfl, fun e => by cases e; rfl⟩
  have hr : ∀ u w : Rw, PyData.eqv (dRow u) (dRow w) = decide (Pv.row u = Pv.row w) := fun u w => by
    rw [eqv_row]
    exact decide_eq_decide.mpr ⟨fun e => e ▸ rfl, fun e => Pv.row.inj e⟩
  have hh : ∀ u w : Rw, PyData.eqv (dRow u) (dRow w) = decide (Pv.hold u = Pv.hold w) := fun u w => by
    rw [eqv_row]
    exact decide_eq_decide.mpr ⟨fun e => e ▸ rfl, fun e => Pv.hold.inj e⟩
  have hb : ∀ a b : Bool, PyData.eqv (.bool a) (.bool b) = decide (Pv.bl a = Pv.bl b) := fun a b => by cases a <;> cases b <;> rfl
  have hn : ∀ a b : Nat, PyData.eqv (.int a) (.int b) = decide (Pv.int a = Pv.int b) := fun a b => by
    show ((a : Int) == (b : Int)) = _
    by_cases e : a = b
    · subst e
      rw [beq_self_eq_true, decide_eq_true rfl]
    · rw [beq_eq_false_iff_ne.mpr (by omega), decide_eq_false fun q => e (Pv.int.inj q)]
  cases p <;> first | exact hr _ _ | exact hh _ _ | exact hw _ _ | exact hb _ _ | exact hn _ _
/-! dicts of rules -/
abbrev kvs (ks : List Pt) (f : Pt → V) : List (Key × V) := ks.map fun p => (.inr p.s, f p)
theorem pkey {p q : Pt} : ((Sum.inr p.s : Key) = Sum.inr q.s) ↔ p = q := ⟨fun e => Pt.inj (Sum.inr.inj e), fun e => e ▸ rfl⟩
theorem val_at {f : Pt → V} {p : Pt} : ∀ {ks : List Pt}, p ∈ ks → valV (kvs ks f) (.inr p.s) = some (f p)
  | q :: ks, h => by
    by_cases e : q = p
    · subst e
      exact valV_pos rfl
    · have hp : p ∈ ks := (List.mem_cons.mp h).resolve_left fun z => e z.symm
      have ih := val_at (f := f) hp
      unfold valV at ih ⊢
      rw [show kvs (q :: ks) f = (.inr q.s, f q) :: kvs ks f from rfl, List.find?_cons, decide_eq_false (fun z => e (pkey.mp z))]
      exact ih
def put (f : Pt → V) (p : Pt) (v : V) : Pt → V := fun q => if q = p then v else f q
theorem any_kvs (ks : List Pt) (f : Pt → V) (p : Pt) : ((kvs ks f).any fun kv => decide (kv.1 = Sum.inr p.s)) = decide (p ∈ ks) := by
  rw [List.any_map]
  induction ks with
  | nil => rfl
  | cons q ks ih =>
    rw [List.any_cons, ih]
    show (decide ((Sum.inr q.s : Key) = Sum.inr p.s) || decide (p ∈ ks)) = _
    by_cases e : q = p
    · subst e
      simp
    · have e' : ¬ p = q := fun z => e z.symm
      rw [decide_eq_false (fun z => e (pkey.mp z))]
      simp [e']
theorem put_old {ks : List Pt} {f : Pt → V} {p : Pt} {v : V} (h : p ∈ ks) : putK (kvs ks f) (.inr p.s) v = kvs ks (put f p v) := by
  unfold putK
  rw [any_kvs, decide_eq_true h, if_pos rfl, List.map_map]
  refine List.map_congr_left fun q _ => ?_
  show (if (Sum.inr q.s : Key) = Sum.inr p.s then (Sum.inr q.s, v) else (Sum.inr q.s, f q)) = (Sum.inr q.s, put f p v q)
  unfold put
  by_cases e : q = p
  · rw [if_pos (pkey.mpr e), if_pos e]
  · rw [if_neg (fun z => e (pkey.mp z)), if_neg e]
theorem put_new {ks : List Pt} {f : Pt → V} {p : Pt} {v : V} (h : p ∉ ks) : putK (kvs ks f) (.inr p.s) v = kvs (ks ++ [p]) (put f p v) := by
  unfold putK
  rw [any_kvs, decide_eq_false h, if_neg (by decide)]
  unfold kvs
  rw [List.map_append]
  congr 1
  · refine List.map_congr_left fun q hq => ?_
    unfold put
    rw [if_neg (fun e : q = p => h (e ▸ hq))]
  · show [(Sum.inr p.s, v)] = [(Sum.inr p.s, put f p v p)]
    unfold put
    rw [if_pos rfl]
/-- at d a dict with these keys, whose values are r's parts -/
def DictAt (K : PySem.W.Frag) (H : Hp) (d : Addr) (ks : List Pt) (r : Ru) : Prop := ∃ f : Pt → V, H d = some (.dK (kvs ks f)) ∧ ∀ p ∈ ks, (r.get p).At K H (f p)
section
variable {K : PySem.W.Frag} {H H' : Hp} {d b : Addr} {ks : List Pt} {r : Ru}
theorem DictAt.ex (h : DictAt K H d ks r) (e : Ex H H') : DictAt K H' d ks r := by
  obtain ⟨f, h1, h2⟩ := h
  exact ⟨f, e _ _ h1, fun p hp => (h2 p hp).ex e⟩
theorem DictAt.exB (h : DictAt K H d ks r) (e : ExB b H H') (nd : d ≠ b) (n : NoTup H b) : DictAt K H' d ks r := by
  obtain ⟨f, h1, h2⟩ := h
  exact ⟨f, e _ _ nd h1, fun p hp => (h2 p hp).exB e n⟩
end
end My
namespace My
open PySem PySem.Spec PyProof.Rows L2 GL Evl StX SkE
def fd : V → PyData
  | .int i => .int i
  | .str x => .str x
  | .bl b => .bool b
  | _ => .none
theorem fd_dp {K : PySem.W.Frag} {H : Hp} : ∀ {x : V}, flatV x = true → Dp K H x (fd x)
  | .non, _ => .non
  | .bl b, _ => .bl b
  | .int i, _ => .int i
  | .str x, _ => .str x
  | .byt _, h => by cases h
  | .flt _, h => by cases h
  | .ref _, h => by cases h
  | .ty _, h => by cases h
theorem fd_all {K : PySem.W.Frag} {H : Hp} : ∀ {xs : List V}, xs.all flatV = true → DpAll K H xs (xs.map fd)
  | [], _ => .nil
  | x :: xs, h => by
    rw [List.all_cons, Bool.and_eq_true] at h
    exact .cons (fd_dp h.1) (fd_all h.2)
def Shrt (x : V) : Prop := flatV x = true ∧ (fd x).showable = true ∧ (fd x).hasDict = false ∧ (fd x).depth ≤ 0 ∧ (fd x).shown.length ≤ 40
theorem shrt_nat {n : Nat} (h : n ≤ 100000) : Shrt (nV n) := by
  refine ⟨rfl, ?_, ?_, ?_, ?_⟩
  · show (PyData.int (n : Int)).showable = true
    simp only [PyData.showable]
    refine decide_eq_true ?_
    rw [Int.natAbs_natCast]
    by_cases e : n = 0
    · subst e
      decide
    · exact (Nat.log2_lt e).mpr (Nat.lt_of_le_of_lt h (by
        have : 2 ^ 17 ≤ 2 ^ 1920 := Nat.pow_le_pow_right (by decide) (by decide)
        omega))
  · show (PyData.int (n : Int)).hasDict = false
    simp only [PyData.hasDict]
  · show (PyData.int (n : Int)).depth ≤ 0
    simp only [PyData.depth]
    omega
  · have := PyData.shown_int_le2 (i := (n : Int)) (by omega) (by omega)
    show (PyData.int (n : Int)).shown.length ≤ 40
    omega
theorem text_len (B : Nat) : ∀ (ts : List Str) (k : Nat) (acc : Str), (∀ t ∈ ts, t.length ≤ B) → (textFrom k acc ts).length ≤ acc.length + ts.length * (B + 2)
  | [], k, acc, _ => by
    show acc.length ≤ acc.length + 0 * (B + 2)
    omega
  | t :: r, k, acc, h => by
    have ih := text_len B r (k + 1) (acc ++ (if k > 0 then ", " else "" : String) ++ t) fun y hy => h y (List.mem_cons_of_mem _ hy)
    have ht := h t List.mem_cons_self
    have e2 : (Str.ofString (if k > 0 then ", " else "")).length ≤ 2 := by
      split <;> decide
    rw [Str.length_append, Str.length_append] at ih
    show (textFrom (k + 1) (acc ++ (if k > 0 then ", " else "" : String) ++ t) r).length ≤ acc.length + (r.length + 1) * (B + 2)
    rw [Nat.add_mul, Nat.one_mul]
    omega
theorem list_text_len {B : Nat} {ts : List Str} (h : ∀ t ∈ ts, t.length ≤ B) : (listText ts).length ≤ ts.length * (B + 2) + 2 := by
  have q := text_len B ts 0 "[" h
  have e1 : (Str.ofString "[").length = 1 := by decide
  have e2 : (Str.ofString "]").length = 1 := by decide
  unfold listText
  rw [Str.length_append, e2]
  omega
theorem shownAll_mem : ∀ {ds : List PyData} {t : Str}, t ∈ PyData.shownAll ds → ∃ d ∈ ds, t = d.shown
  | [], t, h => by
    simp only [PyData.shownAll] at h
    cases h
  | d :: ds, t, h => by
    simp only [PyData.shownAll] at h
    rcases List.mem_cons.mp h with z | z
    · exact ⟨d, List.mem_cons_self, z⟩
    · obtain ⟨e, he, q⟩ := shownAll_mem z
      exact ⟨e, List.mem_cons_of_mem _ he, q⟩
theorem shownAll_len : ∀ ds : List PyData, (PyData.shownAll ds).length = ds.length
  | [] => by simp only [PyData.shownAll, List.length_nil]
  | d :: ds => by
    simp only [PyData.shownAll, List.length_cons]
    rw [shownAll_len ds]
theorem showableAll_of : ∀ {ds : List PyData}, (∀ d ∈ ds, d.showable = true) → PyData.showableAll ds = true
  | [], _ => by simp only [PyData.showableAll]
  | d :: ds, h => by
    simp only [PyData.showableAll, Bool.and_eq_true]
    exact ⟨h d List.mem_cons_self, showableAll_of fun e he => h e (List.mem_cons_of_mem _ he)⟩
theorem hasDictAll_of : ∀ {ds : List PyData}, (∀ d ∈ ds, d.hasDict = false) → PyData.hasDictAll ds = false
  | [], _ => by simp only [PyData.hasDictAll]
  | d :: ds, h => by
    simp only [PyData.hasDictAll, Bool.or_eq_false_iff]
    exact ⟨h d List.mem_cons_self, hasDictAll_of fun e he => h e (List.mem_cons_of_mem _ he)⟩
theorem depthAll_of : ∀ {ds : List PyData} {k : Nat}, (∀ d ∈ ds, d.depth ≤ k) → PyData.depthAll ds ≤ k
  | [], _, _ => by
    simp only [PyData.depthAll]
    omega
  | d :: ds, k, h => by
    simp only [PyData.depthAll]
    have h1 := h d List.mem_cons_self
    have h2 := depthAll_of (ds := ds) (k := k) fun e he => h e (List.mem_cons_of_mem _ he)
    omega
section
variable {K : PySem.W.Frag} {σ : L2.St} {H : Hp} {te : TE} {xs : List V}
theorem et_same {ta tb : TE} {s : Str} (ha : Ev ta σ H (.str s)) (hb : Ev tb σ H (.str s)) : EvT (tTest (tOp rNe ta tb)) σ H false := et_test (ev_is (ev_op ha hb (rv_ne rfl)) (by rw [decide_eq_true rfl]; rfl))
end
structure Sm (d : PyData) (k B : Nat) : Prop where
  sh : d.showable = true
  nd : d.hasDict = false
  de : d.depth ≤ k
  ln : d.shown.length ≤ B
theorem Shrt.sm {x : V} (h : Shrt x) : Sm (fd x) 0 40 := ⟨h.2.1, h.2.2.1, h.2.2.2.1, h.2.2.2.2⟩
theorem Sm.mono {d : PyData} {k B k' B' : Nat} (h : Sm d k B) (hk : k ≤ k') (hB : B ≤ B') : Sm d k' B' := ⟨h.sh, h.nd, Nat.le_trans h.de hk, Nat.le_trans h.ln hB⟩
theorem sm_list {ds : List PyData} {k B : Nat} (h : ∀ d ∈ ds, Sm d k B) : Sm (.list ds) (k + 1) (ds.length * (B + 2) + 2) := by
  refine ⟨?_, ?_, ?_, ?_⟩
  · simp only [PyData.showable]
    exact showableAll_of fun d hd => (h d hd).sh
  · simp only [PyData.hasDict]
    exact hasDictAll_of fun d hd => (h d hd).nd
  · simp only [PyData.depth]
    have := depthAll_of (ds := ds) (k := k) fun d hd => (h d hd).de
    omega
  · simp only [PyData.shown]
    have := list_text_len (B := B) (ts := PyData.shownAll ds) fun t ht => by
      obtain ⟨d, hd, rfl⟩ := shownAll_mem ht
      exact (h d hd).ln
    rw [shownAll_len] at this
    exact this
/-! texts of tuples, of parts -/
theorem join_len {B : Nat} : ∀ {ts : List Str}, (∀ t ∈ ts, t.length ≤ B) → (Str.join ", " ts).length ≤ ts.length * (B + 2)
  | [], _ => by
    rw [List.length_nil, Nat.zero_mul]
    decide
  | t :: ts, h => by
    have e := join_length_add (t :: ts) (by simp)
    have p : ∀ {us : List Str}, (∀ u ∈ us, u.length ≤ B) → piled us ≤ us.length * (B + 2) := by
      intro us
      induction us with
      | nil => intro _; simp [piled]
      | cons u us ih =>
        intro hu
        have h1 := hu u List.mem_cons_self
        have h2 := ih fun x hx => hu x (List.mem_cons_of_mem _ hx)
        rw [List.length_cons, Nat.add_mul, Nat.one_mul, piled_cons]
        omega
    have := p h
    omega
theorem tuple_text_len {B : Nat} {ts : List Str} (h : ∀ t ∈ ts, t.length ≤ B) : (tupleText ts).length ≤ ts.length * (B + 2) + 3 := by
  have q := join_len h
  unfold tupleText
  rw [Str.length_append, Str.length_append]
  have e1 : (Str.ofString "(").length = 1 := by decide
  have e2 : (Str.ofString (if ts.length == 1 then ",)" else ")" : String)).length ≤ 2 := by split <;> decide
  omega
theorem w_text (w : Wd) : (dW w).shown.length ≤ 8 := by
  show (PyData.str w.s).shown.length ≤ 8
  simp only [PyData.shown]
  cases w <;> decide +kernel
end My
/-! ### tuple(list), told with its object -/
namespace GL
open PySem PySem.Spec PyProof.Rows L2
section
variable {X : Cx}
def rTupX (K : PySem.W.Frag) : List V → Hp → VK → Prop := fun xs H Q => ∃ p ys, xs = [.ref p] ∧ SqL K H p ys ∧ ∀ l o, H l = none → Bare o → Q (.ref l) (upd H l (.frz o (.tup ys)))
theorem call_tupleX : CallR X (.type "tuple") (rTupX X.K) := by
  intro pins s σ H xs us Q I r h
  obtain ⟨p, ys, rfl, hq, q⟩ := h
  obtain ⟨u, rfl, rx⟩ := vals1 r
  cases rx
  obtain ⟨its, r', pl, hz⟩ := I.list hq
  have hlen := r'.length
  refine call_tuple_list pl.isList (fun h' kp => ?_) (by simp only [List.size_toArray] <;> omega)
  have I1 : Inv X pins σ H { s with heap := h' } := I.kept (t' := s.toks) kp
  exact ⟨.ref h'.objs.size, _, bare_laid I1 r' hz, rfl, q _ _ (I1.hok.fresh (Nat.le_refl _)) ⟨rfl, rfl⟩⟩
end
end GL
namespace My
open PySem PySem.Spec PyProof.Rows L2 GL Evl StX SkE
/-! ### the laws' menus of rows -/
def menuTxt : Pt → Str
  | .take => "try live,look add live,add look live,add live,live add,look live add"
  | .give => "home off end,home end off,end home off,home end,end home,end"
  | .move => (((Str.ofString "home try set off,home look add set off,home off add set,home set add off,") ++ Str.ofString "home add look set off,home set,home try off set,home look set off add,") ++ Str.ofString "home add set,home look set,home set add,try home set off,set home off,") ++ Str.ofString "add home off set,set,look set,set add,try set home"
  | .lift => "both,set off,off set,set,off,"
  | _ => ""
def menuRows : Pt → List Rw
  | .take => [[.tri, .live], [.look, .add, .live], [.add, .look, .live], [.add, .live], [.live, .add], [.look, .live, .add]]
  | .give => [[.home, .off, .fin], [.home, .fin, .off], [.fin, .home, .off], [.home, .fin], [.fin, .home], [.fin]]
  | .move => [[.home, .tri, .set, .off], [.home, .look, .add, .set, .off], [.home, .off, .add, .set], [.home, .set, .add, .off], [.home, .add, .look, .set, .off], [.home, .set], [.home, .tri, .off, .set], [.home, .look, .set, .off, .add], [.home, .add, .set], [.home, .look, .set], [.home, .set, .add], [.tri, .home, .set, .off], [.set, .home, .off], [.add, .home, .off, .set], [.set], [.look, .set], [.set, .add], [.tri, .set, .home]]
  | .lift => [[.both], [.set, .off], [.off, .set], [.set], [.off], []]
  | _ => []
def rowPs : List Pt := [.take, .give, .move, .lift]
def cutRow (s : Str) : List Str := if s = Str.ofString "" then [] else Txt.split s (Str.ofString " ")
def menuStrs (p : Pt) : List Str := Txt.split (menuTxt p) (Str.ofString ",")
theorem menu_fact {p : Pt} (hp : p ∈ rowPs) : (menuStrs p).map cutRow = (menuRows p).map (fun us => us.map Wd.s) := by
  have go : (rowPs.all fun p => decide ((menuStrs p).map cutRow = (menuRows p).map (fun us => us.map Wd.s))) = true := by decide +kernel
  exact of_decide_eq_true (List.all_eq_true.mp go p hp)
theorem menu_len {p : Pt} (hp : p ∈ rowPs) : (menuTxt p).length ≤ 1000 ∧ (menuStrs p).length ≤ 20 ∧ ∀ s ∈ menuStrs p, s.length ≤ 100 := by
  have go : (rowPs.all fun p => decide ((menuTxt p).length ≤ 1000) && decide ((menuStrs p).length ≤ 20) && (menuStrs p).all fun s => decide (s.length ≤ 100)) = true := by decide +kernel
  have h := List.all_eq_true.mp go p hp
  simp only [Bool.and_eq_true] at h
  exact ⟨of_decide_eq_true h.1.1, of_decide_eq_true h.1.2, fun s hs => of_decide_eq_true (List.all_eq_true.mp h.2 s hs)⟩
theorem menu_row {p : Pt} (hp : p ∈ rowPs) {i : Nat} {s : Str} (hs : (menuStrs p)[i]? = some s) : ∃ us, (menuRows p)[i]? = some us ∧ cutRow s = us.map Wd.s := by
  have h := congrArg (fun l => l[i]?) (menu_fact hp)
  rw [List.getElem?_map, List.getElem?_map, hs] at h
  obtain ⟨us, h1, h2⟩ := Option.map_eq_some_iff.mp h.symm
  exact ⟨us, h1, h2.symm⟩
def goodRow (p : Pt) (us : Rw) : Bool := decide us.Nodup && decide (us.length ≤ 6) && (match p with | .take => pTake us && pBatch us 1 | .give => pGive us | .move => pMove us && pShared us true | .lift => pLift us | _ => false)
theorem menu_good {p : Pt} (hp : p ∈ rowPs) {us : Rw} (h : us ∈ menuRows p) : goodRow p us = true := by
  have go : (rowPs.all fun p => (menuRows p).all fun us => goodRow p us) = true := by decide +kernel
  exact List.all_eq_true.mp (List.all_eq_true.mp go p hp) us h
theorem menu_live {us : Rw} (h : us ∈ (menuRows .take).take 4) (n : Nat) : pBatch us n = true := by
  have go : (((menuRows .take).take 4).all fun us => decide (us.getLast? = some .live)) = true := by decide +kernel
  have h := of_decide_eq_true (List.all_eq_true.mp go us h)
  unfold pBatch
  rw [h]
  simp
theorem menu_home {us : Rw} (h : us ∈ (menuRows .move).take 11) (b : Bool) : pShared us b = true := by
  have go : (((menuRows .move).take 11).all fun us => pShared us false && pShared us true) = true := by decide +kernel
  have h := List.all_eq_true.mp go us h
  rw [Bool.and_eq_true] at h
  cases b
  · exact h.1
  · exact h.2
end My
/-! ### f(k = v, ..), by names alone -/
namespace GL
open PySem PySem.Spec PyProof.Rows L2
section
variable {X : Cx} {CX : CXT} {k : Nat} {f : Addr} {fd : FuncData} {ps ks : List Str} {sp : Sp} {E : XK} {x : Str} {p pos : Pos} {kws : List Keyword} {tk : TA} {g : List Value → List Value → List Value} {gV : List V → List V → List V} {pins : List (Addr × Obj)} {σ : L2.St} {H : Hp} {s : Shared} {Q : VK} {ws : List Value} {zs : List V}
theorem ranKn (G : Fre X.A) (F : FnG X.prog X.w X.K X.mg X.base CX k f fd ps sp) (hr : Room k X.A) (hb : KBn X.K fd ps 0 ks g gV) (hx : Passes CX X E) (I : Inv X pins σ H s) (rz : Vals zs ws) (l2 : zs.length = ks.length) (h : sp (gV [] zs) H Q E) :
    wpAny (model X.prog X.w) X.A (call (.ref f) [] (ks.zip ws)) (EP X pins σ Q) X.xe s :=
  ran (landed hx I (F.goes G hr I.env0 (hb.to s [] ws I.kIn rfl (rz.length.symm.trans l2)) (hb.rel .nil rz) h))
def tCallK (m : Nat) (sp : Sp) (gV : List V → List V → List V) (E : XK) (tk : TA) : TE := fun σ H Q => tk σ H fun zs H2 => zs.length = m ∧ sp (gV [] zs) H2 Q E
theorem pcK (G : Fre X.A) (F : FnG X.prog X.w X.K X.mg X.base CX k f fd ps sp) (hr : Room k X.A) (hg : Gl X x) (hm : X.mg x = some (.ref f)) (hk : PySem.W.keepIn X.K (.ref f) = true) (hb : KBn X.K fd ps 0 ks g gV) (hx : Passes CX X E)
    (hkw : PK X kws tk) (ndb : (x == ("__debug__" : Str)) = false := by decide) (hall : (backToKw pos (keywordEach kws X.env)).all (·.1.isSome) = true := by rfl) (hks : (backToKw pos (keywordEach kws X.env)).filterMap (·.1) = ks := by rfl)
    (hpl : (backToKw pos (keywordEach kws X.env)).any (·.1.isNone) = false := by rfl) :
    PE X (.Call (.Name x p) [] kws pos) (tCallK ks.length sp gV E tk) where
  run := fun pins s σ H Q I h => wpAny_Call_Name_kw (ld_glob I hg hm
    (PySem.W.callWith_KW0 (first := []) (h₀ := X.base) I.ok.mod.kin hk hall (thn (hkw.run pos pins s σ H _ I h) fun ws s2 ⟨zs, H2, I2, rz, l2, q2⟩ => by
      rw [hks]
      exact ⟨I2.kIn, ranKn G F hr hb hx I2 rz l2 q2⟩) hpl) ndb)
end
end GL
namespace GL
open PySem PySem.Spec PyProof.Rows L2
section
variable {P : Program} {w : World} {K : PySem.W.Frag} {mg mb : Str → Option Value} {k : Nat} {fa a : Addr} {fd : FuncData} {x : Str} {sp : Sp} {s₁ : Shared} {vs : List Value} {ns : List Int}
/-- the law's call, from an abstract heap H that tracks at most the script at a -/
theorem law_core {H : Hp} (KX : K.In s₁.heap) (hns : s₁.heap.Ns mainGlobals mg) (hb : s₁.heap.Ns builtinsNs mb) (hbb : ∀ x : Str, x ≠ "__name__" → mb x = bootBuiltins x) (hlim : s₁.heap.NoLimit) (hg : s₁.gens = #[])
    (ha : s₁.heap.get? a = some { cls := .type "list", data := .seq vs.toArray }) (hr : Room k callerA)
    (F : ∀ base : Heap, K.In base → base.Ns mainGlobals mg → FnG P w K mg base CX0 k fa fd [x] sp) (hbind : ∀ (s : Shared) (u : Value), BindsTo s fd ⟨[u], []⟩ [(x, u)])
    (hO : Only H) (hok : HOk P w H s₁.heap) (hA : ∀ b, H b ≠ none → b = a) (hK : H a ≠ none → K.lookup a = none) (hsp : sp [.ref a] H (fun v _ => v = .bl true) fun _ _ _ => False) :
    codeAny (model P w) callerA (.call (.ref fa) ⟨[.ref a], []⟩) (fun r s' => r = .ok (.ret (.bool true)) ∧ OldK s₁.heap s'.heap ∧ s'.os = s₁.os ∧ AllBare s'.gens) s₁ := by
  have free : ∀ {b : Addr} {o : Obj} {es : Array DictEntry} {ep : Nat}, s₁.heap.get? b = some o → o.data = .dict es ep → H b = none := by
    intro b o es ep e d
    by_cases q : H b = none
    · exact q
    · cases hA b q
      rw [ha] at e
      cases e
      cases (show Data.seq vs.toArray _ = Data.dict es ep from d)
  have hid : ∀ {b : Addr} {m : Str → Option Value}, s₁.heap.Ns b m → (hidT s₁.heap H).Ns b m := fun ⟨o, es, ep, e, d, r⟩ => ⟨o, es, ep, hidT_get e (free e d), d, r⟩
  have inK : K.In (hidT s₁.heap H) := by
    intro b o e
    refine hidT_get (KX b o e) ?_
    by_cases q : H b = none
    · exact q
    · cases hA b q
      rw [hK q] at e
      cases e
  have lim : (hidT s₁.heap H).NoLimit := by
    obtain ⟨mc, h1, h2⟩ := hlim
    exact ⟨mc, hid h1, h2⟩
  have e0 : Env0 P w K mg (hidT s₁.heap H) callerA [] s₁ H := by
    refine ⟨rfl, ⟨inK, hid hns, ⟨mb, hid hb, hbb⟩, lim⟩, fun b o e => of_hidT e, Nat.le_of_eq (hidT_size _ _), trivial, fun b z => ?_, hok, .of_eq hg⟩
    cases (show b ∈ ([] : List Addr) from z)
  have run := (F _ inK (hid hns)).goes (A := callerA) (outer := []) (vs := [.ref a]) (us := [.ref a]) rfl hr e0 (hbind s₁ (.ref a)) (.cons rfl .nil) hsp
  refine codeAny_mono run ?_
  intro r s' z
  match r, z with
  | .error e, z => exact z.elim
  | .ok .next, z => exact z.elim
  | .ok .brk, z => exact z.elim
  | .ok .cont, z => exact z.elim
  | .ok (.ret u), z =>
    obtain ⟨v, H', os, bare, un, hok', r', q⟩ := z
    cases (show v = .bl true from q)
    obtain rfl : u = Value.bool true := r'
    refine ⟨rfl, OldK.of_keep fun b o e => ?_, os, bare⟩
    rcases hO b with q | ⟨ob, xs, q⟩
    · exact un.keep b o e q (List.not_mem_nil) (List.not_mem_nil)
    · obtain ⟨e1, _⟩ := hok b _ q
      obtain ⟨e2, _⟩ := hok' b _ (un.frzs b ob _ q)
      rw [e] at e1
      cases e1
      exact e2
/-- a heap that tracks one object -/
def one (a : Addr) (o : HO) : Hp := fun b => if b = a then some o else none
theorem one_off {a b : Addr} {o : HO} (h : b ≠ a) : one a o b = none := if_neg h
theorem law_at (KX : K.In s₁.heap) (hns : s₁.heap.Ns mainGlobals mg) (hb : s₁.heap.Ns builtinsNs mb) (hbb : ∀ x : Str, x ≠ "__name__" → mb x = bootBuiltins x) (hlim : s₁.heap.NoLimit) (hg : s₁.gens = #[])
    (ha : s₁.heap.get? a = some { cls := .type "list", data := .seq vs.toArray }) (hi : IntsAre vs ns) (hl : ns.length ≤ sizeLine) (hr : Room k callerA)
    (F : ∀ base : Heap, K.In base → base.Ns mainGlobals mg → FnG P w K mg base CX0 k fa fd [x] sp) (hbind : ∀ (s : Shared) (u : Value), BindsTo s fd ⟨[u], []⟩ [(x, u)])
    (hsp : ∀ H : Hp, Only H → SqL K H a (ns.map V.int) → sp [.ref a] H (fun v _ => v = .bl true) fun _ _ _ => False) :
    codeAny (model P w) callerA (.call (.ref fa) ⟨[.ref a], []⟩) (fun r s' => r = .ok (.ret (.bool true)) ∧ OldK s₁.heap s'.heap ∧ s'.os = s₁.os ∧ AllBare s'.gens) s₁ := by
  have rv := vals_ints hi
  have lenV := hi.length
  cases hk : K.lookup a with
  | some o =>
    have e := KX a o hk
    rw [ha] at e
    cases e
    have O : Only fun _ => none := fun _ => .inl rfl
    exact law_core KX hns hb hbb hlim hg ha hr F hbind O (fun b u z => nomatch z) (fun b z => absurd rfl z) (fun z => absurd rfl z) (hsp _ O (.inr ⟨_, vs.toArray, _, hk, rfl, rfl, rfl, by rw [List.size_toArray, lenV]; exact hl, by simpa using rv⟩))
  | none =>
    have at_ : one a (.frz { cls := .type "list", data := .seq vs.toArray } (.lst (ns.map V.int))) a = some (.frz { cls := .type "list", data := .seq vs.toArray } (.lst (ns.map V.int))) := if_pos rfl
    have O : Only (one a (.frz { cls := .type "list", data := .seq vs.toArray } (.lst (ns.map V.int)))) := by
      intro b
      by_cases h : b = a
      · subst h
        exact .inr ⟨_, _, at_⟩
      · exact .inl (one_off h)
    refine law_core KX hns hb hbb hlim hg ha hr F hbind O (fun b u z => ?_) (fun b z => ?_) (fun _ => hk) (hsp _ O (.inl (.inr ⟨_, at_⟩)))
    · by_cases h : b = a
      · subst h
        cases at_.symm.trans z
        exact ⟨ha, by rw [List.length_map]; exact hl, vs, _, rv, ha⟩
      · cases (one_off h).symm.trans z
    · by_cases h : b = a
      · exact h
      · exact absurd (one_off h) z
end
end GL
namespace My
open PySem PySem.Spec PyProof.Rows L2 GL
def topS (i : Nat) : Stmt := PySem.Challenge.pw_chargeways_k25_whole_take_and_give_plans.main.body.getD i (.Pass ⟨0, 0, 0, 0⟩)
abbrev s_is_an_integer : Stmt := topS 2
abbrev N_is_an_integer : List Str := ["value"]
theorem sc_is_an_integer : FnScope N_is_an_integer ["value"] (defScope s_is_an_integer) := ⟨rfl, rfl, rfl, by decide +kernel, rfl, by decide +kernel, by decide +kernel⟩
abbrev s_is_list : Stmt := topS 3
abbrev N_is_list : List Str := ["value"]
theorem sc_is_list : FnScope N_is_list ["value"] (defScope s_is_list) := ⟨rfl, rfl, rfl, by decide +kernel, rfl, by decide +kernel, by decide +kernel⟩
abbrev s_check_group : Stmt := topS 39
abbrev N_check_group : List Str := ["tree", "value"]
theorem sc_check_group : FnScope N_check_group ["tree", "value"] (defScope s_check_group) := ⟨rfl, rfl, rfl, by decide +kernel, rfl, by decide +kernel, by decide +kernel⟩
abbrev s_check_parents : Stmt := topS 40
abbrev N_check_parents : List Str := ["parents", "position", "parent"]
theorem sc_check_parents : FnScope N_check_parents ["parents"] (defScope s_check_parents) := ⟨rfl, rfl, rfl, by decide +kernel, rfl, by decide +kernel, by decide +kernel⟩
abbrev s_check_struck : Stmt := topS 41
abbrev N_check_struck : List Str := ["parents", "struck", "seen", "position", "group", "needed", "child", "parent"]
theorem sc_check_struck : FnScope N_check_struck ["parents", "struck"] (defScope s_check_struck) := ⟨rfl, rfl, rfl, by decide +kernel, rfl, by decide +kernel, by decide +kernel⟩
abbrev s_Tinit : Stmt := inClass (topS 42) 0
abbrev N_Tinit : List Str := ["self", "parents", "struck"]
theorem sc_Tinit : FnScope N_Tinit ["self", "parents", "struck"] (defScope s_Tinit) := ⟨rfl, rfl, rfl, by decide +kernel, rfl, by decide +kernel, by decide +kernel⟩
abbrev s_Tlen : Stmt := inClass (topS 42) 1
abbrev N_Tlen : List Str := ["self"]
theorem sc_Tlen : FnScope N_Tlen ["self"] (defScope s_Tlen) := ⟨rfl, rfl, rfl, by decide +kernel, rfl, by decide +kernel, by decide +kernel⟩
abbrev s_Teq : Stmt := inClass (topS 42) 2
abbrev N_Teq : List Str := ["self", "other"]
theorem sc_Teq : FnScope N_Teq ["self", "other"] (defScope s_Teq) := ⟨rfl, rfl, rfl, by decide +kernel, rfl, by decide +kernel, by decide +kernel⟩
abbrev s_Tway : Stmt := inClass (topS 42) 8
abbrev N_Tway : List Str := ["self", "group", "found"]
theorem sc_Tway : FnScope N_Tway ["self", "group"] (defScope s_Tway) := ⟨rfl, rfl, rfl, by decide +kernel, rfl, by decide +kernel, by decide +kernel⟩
abbrev s_Tstruck : Stmt := inClass (topS 42) 5
abbrev N_Tstruck : List Str := ["self"]
theorem sc_Tstruck : FnScope N_Tstruck ["self"] (defScope s_Tstruck) := ⟨rfl, rfl, rfl, by decide +kernel, rfl, by decide +kernel, by decide +kernel⟩
abbrev s_Tapart : Stmt := inClass (topS 42) 15
abbrev N_Tapart : List Str := ["self", "group", "seen", "way", "other", "step"]
theorem sc_Tapart : FnScope N_Tapart ["self", "group", "seen"] (defScope s_Tapart) := ⟨rfl, rfl, rfl, by decide +kernel, rfl, by decide +kernel, by decide +kernel⟩
abbrev s_is_word : Stmt := topS 4
abbrev N_is_word : List Str := ["value", "words"]
theorem sc_is_word : FnScope N_is_word ["value", "words"] (defScope s_is_word) := ⟨rfl, rfl, rfl, by decide +kernel, rfl, by decide +kernel, by decide +kernel⟩
abbrev s_are_different_words : Stmt := topS 5
abbrev N_are_different_words : List Str := ["values", "words", "value"]
theorem sc_are_different_words : FnScope N_are_different_words ["values", "words"] (defScope s_are_different_words) := ⟨rfl, rfl, rfl, by decide +kernel, rfl, by decide +kernel, by decide +kernel⟩
abbrev s_has_words_of : Stmt := topS 10
abbrev N_has_words_of : List Str := ["value", "words"]
theorem sc_has_words_of : FnScope N_has_words_of ["value", "words"] (defScope s_has_words_of) := ⟨rfl, rfl, rfl, by decide +kernel, rfl, by decide +kernel, by decide +kernel⟩
abbrev s_tests_are_ahead : Stmt := topS 11
abbrev N_tests_are_ahead : List Str := ["row", "word", "behind"]
theorem sc_tests_are_ahead : FnScope N_tests_are_ahead ["row", "word"] (defScope s_tests_are_ahead) := ⟨rfl, rfl, rfl, by decide +kernel, rfl, by decide +kernel, by decide +kernel⟩
abbrev s_off_has_home : Stmt := topS 12
abbrev N_off_has_home : List Str := ["row"]
theorem sc_off_has_home : FnScope N_off_has_home ["row"] (defScope s_off_has_home) := ⟨rfl, rfl, rfl, by decide +kernel, rfl, by decide +kernel, by decide +kernel⟩
abbrev s_is_take_row : Stmt := topS 13
abbrev N_is_take_row : List Str := ["value"]
theorem sc_is_take_row : FnScope N_is_take_row ["value"] (defScope s_is_take_row) := ⟨rfl, rfl, rfl, by decide +kernel, rfl, by decide +kernel, by decide +kernel⟩
abbrev s_is_give_row : Stmt := topS 14
abbrev N_is_give_row : List Str := ["value"]
theorem sc_is_give_row : FnScope N_is_give_row ["value"] (defScope s_is_give_row) := ⟨rfl, rfl, rfl, by decide +kernel, rfl, by decide +kernel, by decide +kernel⟩
abbrev s_is_move_row : Stmt := topS 15
abbrev N_is_move_row : List Str := ["value"]
theorem sc_is_move_row : FnScope N_is_move_row ["value"] (defScope s_is_move_row) := ⟨rfl, rfl, rfl, by decide +kernel, rfl, by decide +kernel, by decide +kernel⟩
abbrev s_is_lift_row : Stmt := topS 16
abbrev N_is_lift_row : List Str := ["value"]
theorem sc_is_lift_row : FnScope N_is_lift_row ["value"] (defScope s_is_lift_row) := ⟨rfl, rfl, rfl, by decide +kernel, rfl, by decide +kernel, by decide +kernel⟩
abbrev s_is_row : Stmt := topS 18
abbrev N_is_row : List Str := ["kind", "value", "check"]
theorem sc_is_row : FnScope N_is_row ["kind", "value"] (defScope s_is_row) := ⟨rfl, rfl, rfl, by decide +kernel, rfl, by decide +kernel, by decide +kernel⟩
abbrev s_fits_batch : Stmt := topS 19
abbrev N_fits_batch : List Str := ["row", "batch"]
theorem sc_fits_batch : FnScope N_fits_batch ["row", "batch"] (defScope s_fits_batch) := ⟨rfl, rfl, rfl, by decide +kernel, rfl, by decide +kernel, by decide +kernel⟩
abbrev s_fits_shared : Stmt := topS 20
abbrev N_fits_shared : List Str := ["row", "shared"]
theorem sc_fits_shared : FnScope N_fits_shared ["row", "shared"] (defScope s_fits_shared) := ⟨rfl, rfl, rfl, by decide +kernel, rfl, by decide +kernel, by decide +kernel⟩
abbrev s_check_rows : Stmt := topS 50
abbrev N_check_rows : List Str := ["rows", "kind", "row"]
theorem sc_check_rows : FnScope N_check_rows ["rows"] (defScope s_check_rows) := ⟨rfl, rfl, rfl, by decide +kernel, rfl, by decide +kernel, by decide +kernel⟩
abbrev s_check_fails : Stmt := topS 51
abbrev N_check_fails : List Str := ["value"]
theorem sc_check_fails : FnScope N_check_fails ["value"] (defScope s_check_fails) := ⟨rfl, rfl, rfl, by decide +kernel, rfl, by decide +kernel, by decide +kernel⟩
abbrev s_check_bool : Stmt := topS 52
abbrev N_check_bool : List Str := ["name", "value"]
theorem sc_check_bool : FnScope N_check_bool ["name", "value"] (defScope s_check_bool) := ⟨rfl, rfl, rfl, by decide +kernel, rfl, by decide +kernel, by decide +kernel⟩
abbrev s_check_holds : Stmt := topS 53
abbrev N_check_holds : List Str := ["value"]
theorem sc_check_holds : FnScope N_check_holds ["value"] (defScope s_check_holds) := ⟨rfl, rfl, rfl, by decide +kernel, rfl, by decide +kernel, by decide +kernel⟩
abbrev s_check_batch : Stmt := topS 54
abbrev N_check_batch : List Str := ["value"]
theorem sc_check_batch : FnScope N_check_batch ["value"] (defScope s_check_batch) := ⟨rfl, rfl, rfl, by decide +kernel, rfl, by decide +kernel, by decide +kernel⟩
abbrev s_check_row_kind : Stmt := topS 55
abbrev N_check_row_kind : List Str := ["value"]
theorem sc_check_row_kind : FnScope N_check_row_kind ["value"] (defScope s_check_row_kind) := ⟨rfl, rfl, rfl, by decide +kernel, rfl, by decide +kernel, by decide +kernel⟩
abbrev s_Binit : Stmt := inClass (topS 56) 1
abbrev N_Binit : List Str := ["self", "take", "give", "move", "lift", "fails", "shared", "holds", "batch", "settles", "rows", "sorted_holds", "kind"]
theorem sc_Binit : FnScope N_Binit ["self", "take", "give", "move", "lift", "fails", "shared", "holds", "batch", "settles"] (defScope s_Binit) := ⟨rfl, rfl, rfl, by decide +kernel, rfl, by decide +kernel, by decide +kernel⟩
abbrev s_Beq : Stmt := inClass (topS 56) 2
abbrev N_Beq : List Str := ["self", "other"]
theorem sc_Beq : FnScope N_Beq ["self", "other"] (defScope s_Beq) := ⟨rfl, rfl, rfl, by decide +kernel, rfl, by decide +kernel, by decide +kernel⟩
abbrev s_Brow : Stmt := inClass (topS 56) 9
abbrev N_Brow : List Str := ["self", "kind"]
theorem sc_Brow : FnScope N_Brow ["self", "kind"] (defScope s_Brow) := ⟨rfl, rfl, rfl, by decide +kernel, rfl, by decide +kernel, by decide +kernel⟩
abbrev s_Cinit : Stmt := inClass (topS 22) 0
abbrev N_Cinit : List Str := ["self", "kind", "words", "group", "old", "leaves_out"]
theorem sc_Cinit : FnScope N_Cinit ["self", "kind", "words", "group", "old", "leaves_out"] (defScope s_Cinit) := ⟨rfl, rfl, rfl, by decide +kernel, rfl, by decide +kernel, by decide +kernel⟩
abbrev s_Cgroups : Stmt := inClass (topS 22) 1
abbrev N_Cgroups : List Str := ["self", "tree", "word", "begin", "other"]
theorem sc_Cgroups : FnScope N_Cgroups ["self", "tree", "word"] (defScope s_Cgroups) := ⟨rfl, rfl, rfl, by decide +kernel, rfl, by decide +kernel, by decide +kernel⟩
abbrev s_Csingle_deeds : Stmt := inClass (topS 22) 2
abbrev N_Csingle_deeds : List Str := ["self", "tree", "words", "word", "group"]
theorem sc_Csingle_deeds : FnScope N_Csingle_deeds ["self", "tree", "words"] (defScope s_Csingle_deeds) := ⟨rfl, rfl, rfl, by decide +kernel, rfl, by decide +kernel, by decide +kernel⟩
abbrev s_take_course : Stmt := topS 23
abbrev N_take_course : List Str := ["book", "group"]
theorem sc_take_course : FnScope N_take_course ["book", "group"] (defScope s_take_course) := ⟨rfl, rfl, rfl, by decide +kernel, rfl, by decide +kernel, by decide +kernel⟩
abbrev s_give_course : Stmt := topS 24
abbrev N_give_course : List Str := ["book", "old"]
theorem sc_give_course : FnScope N_give_course ["book", "old"] (defScope s_give_course) := ⟨rfl, rfl, rfl, by decide +kernel, rfl, by decide +kernel, by decide +kernel⟩
abbrev s_plan : Stmt := topS 44
abbrev N_plan : List Str := ["course", "tree"]
theorem sc_plan : FnScope N_plan ["course", "tree"] (defScope s_plan) := ⟨rfl, rfl, rfl, by decide +kernel, rfl, by decide +kernel, by decide +kernel⟩
abbrev s_take_plan : Stmt := topS 45
abbrev N_take_plan : List Str := ["book", "tree", "group"]
theorem sc_take_plan : FnScope N_take_plan ["book", "tree", "group"] (defScope s_take_plan) := ⟨rfl, rfl, rfl, by decide +kernel, rfl, by decide +kernel, by decide +kernel⟩
abbrev s_give_plan : Stmt := topS 46
abbrev N_give_plan : List Str := ["book", "tree", "home"]
theorem sc_give_plan : FnScope N_give_plan ["book", "tree", "home"] (defScope s_give_plan) := ⟨rfl, rfl, rfl, by decide +kernel, rfl, by decide +kernel, by decide +kernel⟩
abbrev s_Lpot : Stmt := topS 58
abbrev N_Lpot : List Str := ["_law_script", "_law_k", "_law_cell"]
theorem sc_Lpot : FnScope N_Lpot ["_law_script", "_law_k"] (defScope s_Lpot) := ⟨rfl, rfl, rfl, by decide +kernel, rfl, by decide +kernel, by decide +kernel⟩
abbrev s_Ldraw : Stmt := topS 59
abbrev N_Ldraw : List Str := ["_law_pot_here", "_law_sides", "_law_digit"]
theorem sc_Ldraw : FnScope N_Ldraw ["_law_pot_here", "_law_sides"] (defScope s_Ldraw) := ⟨rfl, rfl, rfl, by decide +kernel, rfl, by decide +kernel, by decide +kernel⟩
abbrev s_Lpick : Stmt := topS 60
abbrev N_Lpick : List Str := ["_law_pot_here", "_law_some"]
theorem sc_Lpick : FnScope N_Lpick ["_law_pot_here", "_law_some"] (defScope s_Lpick) := ⟨rfl, rfl, rfl, by decide +kernel, rfl, by decide +kernel, by decide +kernel⟩
abbrev s_Lups : Stmt := topS 61
abbrev N_Lups : List Str := ["_law_pot_here", "_law_most", "_law_found", "_law_turn"]
theorem sc_Lups : FnScope N_Lups ["_law_pot_here", "_law_most"] (defScope s_Lups) := ⟨rfl, rfl, rfl, by decide +kernel, rfl, by decide +kernel, by decide +kernel⟩
abbrev s_Lpath : Stmt := topS 62
abbrev N_Lpath : List Str := ["_law_ups_here", "_law_spot", "_law_found"]
theorem sc_Lpath : FnScope N_Lpath ["_law_ups_here", "_law_spot"] (defScope s_Lpath) := ⟨rfl, rfl, rfl, by decide +kernel, rfl, by decide +kernel, by decide +kernel⟩
abbrev s_Llifts : Stmt := topS 63
abbrev N_Llifts : List Str := []
theorem sc_Llifts : FnScope N_Llifts [] (defScope s_Llifts) := ⟨rfl, rfl, rfl, by decide +kernel, rfl, by decide +kernel, by decide +kernel⟩
abbrev s_Lmenu : Stmt := topS 64
abbrev N_Lmenu : List Str := ["_law_sort", "_law_some", "_law_near"]
theorem sc_Lmenu : FnScope N_Lmenu ["_law_sort"] (defScope s_Lmenu) := ⟨rfl, rfl, rfl, by decide +kernel, rfl, by decide +kernel, by decide +kernel⟩
abbrev s_Lrules : Stmt := topS 65
abbrev N_Lrules : List Str := ["_law_pot_here", "_law_way", "_law_most", "_law_found", "_law_sort"]
theorem sc_Lrules : FnScope N_Lrules ["_law_pot_here", "_law_way", "_law_most"] (defScope s_Lrules) := ⟨rfl, rfl, rfl, by decide +kernel, rfl, by decide +kernel, by decide +kernel⟩
abbrev s_Lbook : Stmt := topS 66
abbrev N_Lbook : List Str := ["_law_rules_here"]
theorem sc_Lbook : FnScope N_Lbook ["_law_rules_here"] (defScope s_Lbook) := ⟨rfl, rfl, rfl, by decide +kernel, rfl, by decide +kernel, by decide +kernel⟩
abbrev s_Lstruck_ones : Stmt := topS 67
abbrev N_Lstruck_ones : List Str := ["_law_pot_here", "_law_ups_here", "_law_found", "_law_spot", "_law_below", "_law_near", "_law_up"]
theorem sc_Lstruck_ones : FnScope N_Lstruck_ones ["_law_pot_here", "_law_ups_here"] (defScope s_Lstruck_ones) := ⟨rfl, rfl, rfl, by decide +kernel, rfl, by decide +kernel, by decide +kernel⟩
abbrev s_Ldeeds_due : Stmt := topS 68
abbrev N_Ldeeds_due : List Str := ["_law_words", "_law_path_here", "_law_found", "_law_word", "_law_near"]
theorem sc_Ldeeds_due : FnScope N_Ldeeds_due ["_law_words", "_law_path_here"] (defScope s_Ldeeds_due) := ⟨rfl, rfl, rfl, by decide +kernel, rfl, by decide +kernel, by decide +kernel⟩
abbrev s_Lspot_right : Stmt := topS 69
abbrev N_Lspot_right : List Str := ["_law_made", "_law_wood", "_law_ups_here", "_law_rules_here", "_law_spot", "_law_path_here", "_law_dues", "_law_told", "_law_some", "_law_again"]
theorem sc_Lspot_right : FnScope N_Lspot_right ["_law_made", "_law_wood", "_law_ups_here", "_law_rules_here", "_law_spot"] (defScope s_Lspot_right) := ⟨rfl, rfl, rfl, by decide +kernel, rfl, by decide +kernel, by decide +kernel⟩
abbrev s_Lothers : Stmt := topS 70
abbrev N_Lothers : List Str := ["_law_pot_here", "_law_rules_here", "_law_found"]
theorem sc_Lothers : FnScope N_Lothers ["_law_pot_here", "_law_rules_here"] (defScope s_Lothers) := ⟨rfl, rfl, rfl, by decide +kernel, rfl, by decide +kernel, by decide +kernel⟩
abbrev s_Lright : Stmt := topS 71
abbrev N_Lright : List Str := ["_law_pot_here", "_law_ups_here", "_law_struck_ones_here", "_law_wood", "_law_bare", "_law_spot", "_law_far_ups", "_law_far", "_law_row_ups", "_law_turn", "_law_rules_here", "_law_made", "_law_mate"]
theorem sc_Lright : FnScope N_Lright ["_law_pot_here"] (defScope s_Lright) := ⟨rfl, rfl, rfl, by decide +kernel, rfl, by decide +kernel, by decide +kernel⟩
abbrev s_law : Stmt := topS 72
abbrev N_law : List Str := ["_law_script", "_law_k"]
theorem sc_law : FnScope N_law ["_law_script"] (defScope s_law) := ⟨rfl, rfl, rfl, by decide +kernel, rfl, by decide +kernel, by decide +kernel⟩
def kbA {α : Type} (us ws : List α) : List α := us ++ ws
structure Txt (K : PySem.W.Frag) (mg : Str → Option Value) (w : World) where
  C : Addr
  c_Book : Cls K C
  m_Book : mg "Book" = some (.ref C)
  n_parts : NoAttr K C "_parts"
  x_class : PySem.W.findIn K (.ref C) "__class__" = some (some (.builtin "object.__class__"))
  x_get : PySem.W.specialIn K (.builtin "object.__class__") "__get__" = some (some (.builtin "getset_descriptor.__get__"))
  x_tk : PySem.W.takesIn K (.builtin "object.__class__") = some true
  x_mro : PySem.W.mroIn K C (.type "object") = some true
  x_ne : PySem.W.findIn K (.ref C) "__ne__" = some (some (.builtin "object.__ne__"))
  x_cls : PySem.W.isClsIn K C = true
  x_ty : PySem.W.typeIn K (.ref C) = some (.type "type")
  C_Tree : Addr
  c_Tree : Cls K C_Tree
  m_Tree : mg "Tree" = some (.ref C_Tree)
  n_above : NoAttr K C_Tree "_above"
  n_struck : NoAttr K C_Tree "_struck"
  x_class_Tree : PySem.W.findIn K (.ref C_Tree) "__class__" = some (some (.builtin "object.__class__"))
  x_get_Tree : PySem.W.specialIn K (.builtin "object.__class__") "__get__" = some (some (.builtin "getset_descriptor.__get__"))
  x_tk_Tree : PySem.W.takesIn K (.builtin "object.__class__") = some true
  x_mro_Tree : PySem.W.mroIn K C_Tree (.type "object") = some true
  x_ne_Tree : PySem.W.findIn K (.ref C_Tree) "__ne__" = some (some (.builtin "object.__ne__"))
  x_cls_Tree : PySem.W.isClsIn K C_Tree = true
  x_ty_Tree : PySem.W.typeIn K (.ref C_Tree) = some (.type "type")
  C_Course : Addr
  c_Course : Cls K C_Course
  m_Course : mg "Course" = some (.ref C_Course)
  nkind : NoAttr K C_Course "kind"
  nwords : NoAttr K C_Course "words"
  ngroup : NoAttr K C_Course "group"
  nold : NoAttr K C_Course "old"
  nleaves_out : NoAttr K C_Course "leaves_out"
  f_is_an_integer : Addr
  fd_is_an_integer : FuncData
  F_is_an_integer : L2.Fun K "is_an_integer" "is_an_integer" s_is_an_integer f_is_an_integer fd_is_an_integer
  b_is_an_integer : Binds K fd_is_an_integer ["value"] []
  m_is_an_integer : mg "is_an_integer" = some (.ref f_is_an_integer)
  f_is_list : Addr
  fd_is_list : FuncData
  F_is_list : L2.Fun K "is_list" "is_list" s_is_list f_is_list fd_is_list
  b_is_list : Binds K fd_is_list ["value"] []
  m_is_list : mg "is_list" = some (.ref f_is_list)
  f_check_group : Addr
  fd_check_group : FuncData
  F_check_group : L2.Fun K "check_group" "check_group" s_check_group f_check_group fd_check_group
  b_check_group : Binds K fd_check_group ["tree", "value"] []
  m_check_group : mg "check_group" = some (.ref f_check_group)
  f_check_parents : Addr
  fd_check_parents : FuncData
  F_check_parents : L2.Fun K "check_parents" "check_parents" s_check_parents f_check_parents fd_check_parents
  b_check_parents : Binds K fd_check_parents ["parents"] []
  m_check_parents : mg "check_parents" = some (.ref f_check_parents)
  f_check_struck : Addr
  fd_check_struck : FuncData
  F_check_struck : L2.Fun K "check_struck" "check_struck" s_check_struck f_check_struck fd_check_struck
  b_check_struck : Binds K fd_check_struck ["parents", "struck"] []
  m_check_struck : mg "check_struck" = some (.ref f_check_struck)
  f_Tinit : Addr
  fd_Tinit : FuncData
  d0_Tinit : Addr
  d1_Tinit : Addr
  e0_Tinit : ∀ H, SqT K H d0_Tinit []
  y0_Tinit : ∀ H, TyX K H (.ref d0_Tinit) (.type "tuple")
  e1_Tinit : ∀ H, SqT K H d1_Tinit []
  y1_Tinit : ∀ H, TyX K H (.ref d1_Tinit) (.type "tuple")
  F_Tinit : L2.FunD K "__init__" "Tree.__init__" (defArgs s_Tinit) (defBody s_Tinit) (defScope s_Tinit) [.ref d0_Tinit, .ref d1_Tinit] [] f_Tinit fd_Tinit
  w0_Tinit : List Value
  v0_Tinit : Vals [.ref d0_Tinit, .ref d1_Tinit] w0_Tinit
  b0_Tinit : Binds K fd_Tinit ["self", "parents", "struck"] w0_Tinit
  w1_Tinit : List Value
  v1_Tinit : Vals [.ref d1_Tinit] w1_Tinit
  b1_Tinit : Binds K fd_Tinit ["self", "parents", "struck"] w1_Tinit
  w2_Tinit : List Value
  v2_Tinit : Vals [] w2_Tinit
  b2_Tinit : Binds K fd_Tinit ["self", "parents", "struck"] w2_Tinit
  mk_Tree : Mk K C_Tree f_Tinit
  f_Tlen : Addr
  fd_Tlen : FuncData
  F_Tlen : L2.Fun K "__len__" "Tree.__len__" s_Tlen f_Tlen fd_Tlen
  b_Tlen : Binds K fd_Tlen ["self"] []
  M_Tlen : Meth K C_Tree "__len__" f_Tlen
  f_Teq : Addr
  fd_Teq : FuncData
  F_Teq : L2.Fun K "__eq__" "Tree.__eq__" s_Teq f_Teq fd_Teq
  b_Teq : Binds K fd_Teq ["self", "other"] []
  M_Teq : Meth K C_Tree "__eq__" f_Teq
  f_Tway : Addr
  fd_Tway : FuncData
  F_Tway : L2.Fun K "way" "Tree.way" s_Tway f_Tway fd_Tway
  b_Tway : Binds K fd_Tway ["self", "group"] []
  M_Tway : Meth K C_Tree "way" f_Tway
  f_Tstruck : Addr
  fd_Tstruck : FuncData
  F_Tstruck : L2.Fun K "struck" "Tree.struck" s_Tstruck f_Tstruck fd_Tstruck
  b_Tstruck : Binds K fd_Tstruck ["self"] []
  M_Tstruck : Meth K C_Tree "struck" f_Tstruck
  f_Tapart : Addr
  fd_Tapart : FuncData
  F_Tapart : L2.Fun K "apart" "Tree.apart" s_Tapart f_Tapart fd_Tapart
  b_Tapart : Binds K fd_Tapart ["self", "group", "seen"] []
  M_Tapart : Meth K C_Tree "apart" f_Tapart
  f_is_word : Addr
  fd_is_word : FuncData
  F_is_word : L2.Fun K "is_word" "is_word" s_is_word f_is_word fd_is_word
  b_is_word : Binds K fd_is_word ["value", "words"] []
  m_is_word : mg "is_word" = some (.ref f_is_word)
  f_are_different_words : Addr
  fd_are_different_words : FuncData
  F_are_different_words : L2.Fun K "are_different_words" "are_different_words" s_are_different_words f_are_different_words fd_are_different_words
  b_are_different_words : Binds K fd_are_different_words ["values", "words"] []
  m_are_different_words : mg "are_different_words" = some (.ref f_are_different_words)
  f_has_words_of : Addr
  fd_has_words_of : FuncData
  F_has_words_of : L2.Fun K "has_words_of" "has_words_of" s_has_words_of f_has_words_of fd_has_words_of
  b_has_words_of : Binds K fd_has_words_of ["value", "words"] []
  m_has_words_of : mg "has_words_of" = some (.ref f_has_words_of)
  f_tests_are_ahead : Addr
  fd_tests_are_ahead : FuncData
  F_tests_are_ahead : L2.Fun K "tests_are_ahead" "tests_are_ahead" s_tests_are_ahead f_tests_are_ahead fd_tests_are_ahead
  b_tests_are_ahead : Binds K fd_tests_are_ahead ["row", "word"] []
  m_tests_are_ahead : mg "tests_are_ahead" = some (.ref f_tests_are_ahead)
  f_off_has_home : Addr
  fd_off_has_home : FuncData
  F_off_has_home : L2.Fun K "off_has_home" "off_has_home" s_off_has_home f_off_has_home fd_off_has_home
  b_off_has_home : Binds K fd_off_has_home ["row"] []
  m_off_has_home : mg "off_has_home" = some (.ref f_off_has_home)
  f_is_take_row : Addr
  fd_is_take_row : FuncData
  F_is_take_row : L2.Fun K "is_take_row" "is_take_row" s_is_take_row f_is_take_row fd_is_take_row
  b_is_take_row : Binds K fd_is_take_row ["value"] []
  m_is_take_row : mg "is_take_row" = some (.ref f_is_take_row)
  f_is_give_row : Addr
  fd_is_give_row : FuncData
  F_is_give_row : L2.Fun K "is_give_row" "is_give_row" s_is_give_row f_is_give_row fd_is_give_row
  b_is_give_row : Binds K fd_is_give_row ["value"] []
  m_is_give_row : mg "is_give_row" = some (.ref f_is_give_row)
  f_is_move_row : Addr
  fd_is_move_row : FuncData
  F_is_move_row : L2.Fun K "is_move_row" "is_move_row" s_is_move_row f_is_move_row fd_is_move_row
  b_is_move_row : Binds K fd_is_move_row ["value"] []
  m_is_move_row : mg "is_move_row" = some (.ref f_is_move_row)
  f_is_lift_row : Addr
  fd_is_lift_row : FuncData
  F_is_lift_row : L2.Fun K "is_lift_row" "is_lift_row" s_is_lift_row f_is_lift_row fd_is_lift_row
  b_is_lift_row : Binds K fd_is_lift_row ["value"] []
  m_is_lift_row : mg "is_lift_row" = some (.ref f_is_lift_row)
  f_is_row : Addr
  fd_is_row : FuncData
  F_is_row : L2.Fun K "is_row" "is_row" s_is_row f_is_row fd_is_row
  b_is_row : Binds K fd_is_row ["kind", "value"] []
  m_is_row : mg "is_row" = some (.ref f_is_row)
  f_fits_batch : Addr
  fd_fits_batch : FuncData
  F_fits_batch : L2.Fun K "fits_batch" "fits_batch" s_fits_batch f_fits_batch fd_fits_batch
  b_fits_batch : Binds K fd_fits_batch ["row", "batch"] []
  m_fits_batch : mg "fits_batch" = some (.ref f_fits_batch)
  f_fits_shared : Addr
  fd_fits_shared : FuncData
  F_fits_shared : L2.Fun K "fits_shared" "fits_shared" s_fits_shared f_fits_shared fd_fits_shared
  b_fits_shared : Binds K fd_fits_shared ["row", "shared"] []
  m_fits_shared : mg "fits_shared" = some (.ref f_fits_shared)
  f_check_rows : Addr
  fd_check_rows : FuncData
  F_check_rows : L2.Fun K "check_rows" "check_rows" s_check_rows f_check_rows fd_check_rows
  b_check_rows : Binds K fd_check_rows ["rows"] []
  m_check_rows : mg "check_rows" = some (.ref f_check_rows)
  f_check_fails : Addr
  fd_check_fails : FuncData
  F_check_fails : L2.Fun K "check_fails" "check_fails" s_check_fails f_check_fails fd_check_fails
  b_check_fails : Binds K fd_check_fails ["value"] []
  m_check_fails : mg "check_fails" = some (.ref f_check_fails)
  f_check_bool : Addr
  fd_check_bool : FuncData
  F_check_bool : L2.Fun K "check_bool" "check_bool" s_check_bool f_check_bool fd_check_bool
  b_check_bool : Binds K fd_check_bool ["name", "value"] []
  m_check_bool : mg "check_bool" = some (.ref f_check_bool)
  f_check_holds : Addr
  fd_check_holds : FuncData
  F_check_holds : L2.Fun K "check_holds" "check_holds" s_check_holds f_check_holds fd_check_holds
  b_check_holds : Binds K fd_check_holds ["value"] []
  m_check_holds : mg "check_holds" = some (.ref f_check_holds)
  f_check_batch : Addr
  fd_check_batch : FuncData
  F_check_batch : L2.Fun K "check_batch" "check_batch" s_check_batch f_check_batch fd_check_batch
  b_check_batch : Binds K fd_check_batch ["value"] []
  m_check_batch : mg "check_batch" = some (.ref f_check_batch)
  f_check_row_kind : Addr
  fd_check_row_kind : FuncData
  F_check_row_kind : L2.Fun K "check_row_kind" "check_row_kind" s_check_row_kind f_check_row_kind fd_check_row_kind
  b_check_row_kind : Binds K fd_check_row_kind ["value"] []
  m_check_row_kind : mg "check_row_kind" = some (.ref f_check_row_kind)
  f_Binit : Addr
  fd_Binit : FuncData
  F_Binit : L2.Fun K "__init__" "Book.__init__" s_Binit f_Binit fd_Binit
  mk_Book : Mk K C f_Binit
  k_Binit : KBn K fd_Binit ["self", "take", "give", "move", "lift", "fails", "shared", "holds", "batch", "settles"] 1 ["take", "give", "move", "lift", "fails", "shared", "holds", "batch", "settles"] kbA kbA
  f_Beq : Addr
  fd_Beq : FuncData
  F_Beq : L2.Fun K "__eq__" "Book.__eq__" s_Beq f_Beq fd_Beq
  b_Beq : Binds K fd_Beq ["self", "other"] []
  M_Beq : Meth K C "__eq__" f_Beq
  f_Brow : Addr
  fd_Brow : FuncData
  F_Brow : L2.Fun K "row" "Book.row" s_Brow f_Brow fd_Brow
  b_Brow : Binds K fd_Brow ["self", "kind"] []
  M_Brow : Meth K C "row" f_Brow
  f_Cinit : Addr
  fd_Cinit : FuncData
  F_Cinit : L2.FunD K "__init__" "Course.__init__" (defArgs s_Cinit) (defBody s_Cinit) (defScope s_Cinit) [.non, .non, .bl false] [] f_Cinit fd_Cinit
  w0_Cinit : List Value
  v0_Cinit : Vals [.non, .non, .bl false] w0_Cinit
  b0_Cinit : Binds K fd_Cinit ["self", "kind", "words", "group", "old", "leaves_out"] w0_Cinit
  w1_Cinit : List Value
  v1_Cinit : Vals [.non, .bl false] w1_Cinit
  b1_Cinit : Binds K fd_Cinit ["self", "kind", "words", "group", "old", "leaves_out"] w1_Cinit
  w2_Cinit : List Value
  v2_Cinit : Vals [.bl false] w2_Cinit
  b2_Cinit : Binds K fd_Cinit ["self", "kind", "words", "group", "old", "leaves_out"] w2_Cinit
  w3_Cinit : List Value
  v3_Cinit : Vals [] w3_Cinit
  b3_Cinit : Binds K fd_Cinit ["self", "kind", "words", "group", "old", "leaves_out"] w3_Cinit
  mk_Course : Mk K C_Course f_Cinit
  f_Cgroups : Addr
  fd_Cgroups : FuncData
  F_Cgroups : L2.Fun K "groups" "Course.groups" s_Cgroups f_Cgroups fd_Cgroups
  b_Cgroups : Binds K fd_Cgroups ["self", "tree", "word"] []
  M_Cgroups : Meth K C_Course "groups" f_Cgroups
  f_Csingle_deeds : Addr
  fd_Csingle_deeds : FuncData
  F_Csingle_deeds : L2.Fun K "single_deeds" "Course.single_deeds" s_Csingle_deeds f_Csingle_deeds fd_Csingle_deeds
  b_Csingle_deeds : Binds K fd_Csingle_deeds ["self", "tree", "words"] []
  M_Csingle_deeds : Meth K C_Course "single_deeds" f_Csingle_deeds
  f_take_course : Addr
  fd_take_course : FuncData
  F_take_course : L2.Fun K "take_course" "take_course" s_take_course f_take_course fd_take_course
  b_take_course : Binds K fd_take_course ["book", "group"] []
  m_take_course : mg "take_course" = some (.ref f_take_course)
  f_give_course : Addr
  fd_give_course : FuncData
  F_give_course : L2.FunD K "give_course" "give_course" (defArgs s_give_course) (defBody s_give_course) (defScope s_give_course) [.non] [] f_give_course fd_give_course
  w0_give_course : List Value
  v0_give_course : Vals [.non] w0_give_course
  b0_give_course : Binds K fd_give_course ["book", "old"] w0_give_course
  w1_give_course : List Value
  v1_give_course : Vals [] w1_give_course
  b1_give_course : Binds K fd_give_course ["book", "old"] w1_give_course
  m_give_course : mg "give_course" = some (.ref f_give_course)
  f_plan : Addr
  fd_plan : FuncData
  F_plan : L2.Fun K "plan" "plan" s_plan f_plan fd_plan
  b_plan : Binds K fd_plan ["course", "tree"] []
  m_plan : mg "plan" = some (.ref f_plan)
  f_take_plan : Addr
  fd_take_plan : FuncData
  F_take_plan : L2.Fun K "take_plan" "take_plan" s_take_plan f_take_plan fd_take_plan
  b_take_plan : Binds K fd_take_plan ["book", "tree", "group"] []
  m_take_plan : mg "take_plan" = some (.ref f_take_plan)
  k_take_plan_group_tree_book : KBn K fd_take_plan ["book", "tree", "group"] 0 ["group", "tree", "book"] (fun us ws => sel us [] ws [(2, 2), (2, 1), (2, 0)]) (fun vs zs => sel vs [] zs [(2, 2), (2, 1), (2, 0)])
  f_give_plan : Addr
  fd_give_plan : FuncData
  F_give_plan : L2.Fun K "give_plan" "give_plan" s_give_plan f_give_plan fd_give_plan
  b_give_plan : Binds K fd_give_plan ["book", "tree", "home"] []
  m_give_plan : mg "give_plan" = some (.ref f_give_plan)
  k_give_plan_home_book_tree : KBn K fd_give_plan ["book", "tree", "home"] 0 ["home", "book", "tree"] (fun us ws => sel us [] ws [(2, 1), (2, 2), (2, 0)]) (fun vs zs => sel vs [] zs [(2, 1), (2, 2), (2, 0)])
  f_Lpot : Addr
  fd_Lpot : FuncData
  F_Lpot : L2.Fun K "_law_pot" "_law_pot" s_Lpot f_Lpot fd_Lpot
  b_Lpot : Binds K fd_Lpot ["_law_script", "_law_k"] []
  m_Lpot : mg "_law_pot" = some (.ref f_Lpot)
  f_Ldraw : Addr
  fd_Ldraw : FuncData
  F_Ldraw : L2.Fun K "_law_draw" "_law_draw" s_Ldraw f_Ldraw fd_Ldraw
  b_Ldraw : Binds K fd_Ldraw ["_law_pot_here", "_law_sides"] []
  m_Ldraw : mg "_law_draw" = some (.ref f_Ldraw)
  f_Lpick : Addr
  fd_Lpick : FuncData
  F_Lpick : L2.Fun K "_law_pick" "_law_pick" s_Lpick f_Lpick fd_Lpick
  b_Lpick : Binds K fd_Lpick ["_law_pot_here", "_law_some"] []
  m_Lpick : mg "_law_pick" = some (.ref f_Lpick)
  f_Lups : Addr
  fd_Lups : FuncData
  F_Lups : L2.Fun K "_law_ups" "_law_ups" s_Lups f_Lups fd_Lups
  b_Lups : Binds K fd_Lups ["_law_pot_here", "_law_most"] []
  m_Lups : mg "_law_ups" = some (.ref f_Lups)
  f_Lpath : Addr
  fd_Lpath : FuncData
  F_Lpath : L2.Fun K "_law_path" "_law_path" s_Lpath f_Lpath fd_Lpath
  b_Lpath : Binds K fd_Lpath ["_law_ups_here", "_law_spot"] []
  m_Lpath : mg "_law_path" = some (.ref f_Lpath)
  f_Llifts : Addr
  fd_Llifts : FuncData
  F_Llifts : L2.Fun K "_law_lifts" "_law_lifts" s_Llifts f_Llifts fd_Llifts
  b_Llifts : Binds K fd_Llifts [] []
  m_Llifts : mg "_law_lifts" = some (.ref f_Llifts)
  f_Lmenu : Addr
  fd_Lmenu : FuncData
  F_Lmenu : L2.Fun K "_law_menu" "_law_menu" s_Lmenu f_Lmenu fd_Lmenu
  b_Lmenu : Binds K fd_Lmenu ["_law_sort"] []
  m_Lmenu : mg "_law_menu" = some (.ref f_Lmenu)
  f_Lrules : Addr
  fd_Lrules : FuncData
  F_Lrules : L2.Fun K "_law_rules" "_law_rules" s_Lrules f_Lrules fd_Lrules
  b_Lrules : Binds K fd_Lrules ["_law_pot_here", "_law_way", "_law_most"] []
  m_Lrules : mg "_law_rules" = some (.ref f_Lrules)
  f_Lbook : Addr
  fd_Lbook : FuncData
  F_Lbook : L2.Fun K "_law_book" "_law_book" s_Lbook f_Lbook fd_Lbook
  b_Lbook : Binds K fd_Lbook ["_law_rules_here"] []
  m_Lbook : mg "_law_book" = some (.ref f_Lbook)
  f_Lstruck_ones : Addr
  fd_Lstruck_ones : FuncData
  F_Lstruck_ones : L2.Fun K "_law_struck_ones" "_law_struck_ones" s_Lstruck_ones f_Lstruck_ones fd_Lstruck_ones
  b_Lstruck_ones : Binds K fd_Lstruck_ones ["_law_pot_here", "_law_ups_here"] []
  m_Lstruck_ones : mg "_law_struck_ones" = some (.ref f_Lstruck_ones)
  f_Ldeeds_due : Addr
  fd_Ldeeds_due : FuncData
  F_Ldeeds_due : L2.Fun K "_law_deeds_due" "_law_deeds_due" s_Ldeeds_due f_Ldeeds_due fd_Ldeeds_due
  b_Ldeeds_due : Binds K fd_Ldeeds_due ["_law_words", "_law_path_here"] []
  m_Ldeeds_due : mg "_law_deeds_due" = some (.ref f_Ldeeds_due)
  f_Lspot_right : Addr
  fd_Lspot_right : FuncData
  F_Lspot_right : L2.Fun K "_law_spot_right" "_law_spot_right" s_Lspot_right f_Lspot_right fd_Lspot_right
  b_Lspot_right : Binds K fd_Lspot_right ["_law_made", "_law_wood", "_law_ups_here", "_law_rules_here", "_law_spot"] []
  m_Lspot_right : mg "_law_spot_right" = some (.ref f_Lspot_right)
  f_Lothers : Addr
  fd_Lothers : FuncData
  F_Lothers : L2.Fun K "_law_others" "_law_others" s_Lothers f_Lothers fd_Lothers
  b_Lothers : Binds K fd_Lothers ["_law_pot_here", "_law_rules_here"] []
  m_Lothers : mg "_law_others" = some (.ref f_Lothers)
  f_Lright : Addr
  fd_Lright : FuncData
  F_Lright : L2.Fun K "_law_right" "_law_right" s_Lright f_Lright fd_Lright
  b_Lright : Binds K fd_Lright ["_law_pot_here"] []
  m_Lright : mg "_law_right" = some (.ref f_Lright)
  f_law : Addr
  fd_law : FuncData
  F_law : L2.Fun K "law" "law" s_law f_law fd_law
  b_law : Binds K fd_law ["_law_script"] []
  m_law : mg "law" = some (.ref f_law)
  z_abs : mg "abs" = none
  z_all : mg "all" = none
  z_bool : mg "bool" = none
  z_dict : mg "dict" = none
  z_divmod : mg "divmod" = none
  z_enumerate : mg "enumerate" = none
  z_int : mg "int" = none
  z_isinstance : mg "isinstance" = none
  z_len : mg "len" = none
  z_list : mg "list" = none
  z_max : mg "max" = none
  z_min : mg "min" = none
  z_range : mg "range" = none
  z_repr : mg "repr" = none
  z_set : mg "set" = none
  z_sorted : mg "sorted" = none
  z_str : mg "str" = none
  z_tuple : mg "tuple" = none
  t_MOST_BATCH : Tok
  m_MOST_BATCH : mg "MOST_BATCH" = some (.int 50 t_MOST_BATCH)
  t_MOST_GROUPS : Tok
  m_MOST_GROUPS : mg "MOST_GROUPS" = some (.int 200 t_MOST_GROUPS)
  g_FAILS : Addr
  m_FAILS : mg "FAILS" = some (.ref g_FAILS)
  s_FAILS : ∀ H, SqT K H g_FAILS [.str "undo", .str "leave", .str "wait"]
  g_ROW_KINDS : Addr
  m_ROW_KINDS : mg "ROW_KINDS" = some (.ref g_ROW_KINDS)
  s_ROW_KINDS : ∀ H, SqT K H g_ROW_KINDS [.str "take", .str "give", .str "move", .str "lift"]
  g_WAY_WORDS : Addr
  m_WAY_WORDS : mg "WAY_WORDS" = some (.ref g_WAY_WORDS)
  s_WAY_WORDS : ∀ H, SqT K H g_WAY_WORDS [.str "look", .str "add", .str "try", .str "off"]
  g_LIFT_ROWS : Addr
  m_LIFT_ROWS : mg "LIFT_ROWS" = some (.ref g_LIFT_ROWS)
  g0_LIFT_ROWS : Addr
  s0_LIFT_ROWS : ∀ H, SqT K H g0_LIFT_ROWS []
  g1_LIFT_ROWS : Addr
  s1_LIFT_ROWS : ∀ H, SqT K H g1_LIFT_ROWS [.str "set"]
  g2_LIFT_ROWS : Addr
  s2_LIFT_ROWS : ∀ H, SqT K H g2_LIFT_ROWS [.str "off"]
  g3_LIFT_ROWS : Addr
  s3_LIFT_ROWS : ∀ H, SqT K H g3_LIFT_ROWS [.str "set", .str "off"]
  g4_LIFT_ROWS : Addr
  s4_LIFT_ROWS : ∀ H, SqT K H g4_LIFT_ROWS [.str "off", .str "set"]
  g5_LIFT_ROWS : Addr
  s5_LIFT_ROWS : ∀ H, SqT K H g5_LIFT_ROWS [.str "both"]
  s_LIFT_ROWS : ∀ H, SqT K H g_LIFT_ROWS [.ref g0_LIFT_ROWS, .ref g1_LIFT_ROWS, .ref g2_LIFT_ROWS, .ref g3_LIFT_ROWS, .ref g4_LIFT_ROWS, .ref g5_LIFT_ROWS]
  g_ROW_CHECKS : Addr
  m_ROW_CHECKS : mg "ROW_CHECKS" = some (.ref g_ROW_CHECKS)
  k_ROW_CHECKS_take : KDct K w g_ROW_CHECKS "take" (.ref f_is_take_row)
  k_ROW_CHECKS_give : KDct K w g_ROW_CHECKS "give" (.ref f_is_give_row)
  k_ROW_CHECKS_move : KDct K w g_ROW_CHECKS "move" (.ref f_is_move_row)
  k_ROW_CHECKS_lift : KDct K w g_ROW_CHECKS "lift" (.ref f_is_lift_row)
end My
/-! parents, ways, zones -/
namespace My
/-- the parents of the groups 1, 2, .. : each one ahead of its child -/
def Good (ps : List Nat) : Prop := ∀ i, i < ps.length → ps.getD i 0 ≤ i
def up (ps : List Nat) (g : Nat) : Nat := ps.getD (g - 1) 0
def pathF (ps : List Nat) : Nat → Nat → List Nat
  | 0, g => [g]
  | f + 1, g => if g = 0 then [0] else g :: pathF ps f (up ps g)
def path (ps : List Nat) (g : Nat) : List Nat := pathF ps g g
theorem up_lt {ps : List Nat} (h : Good ps) {g : Nat} (h0 : 0 < g) (h1 : g ≤ ps.length) : up ps g < g := by
  have q := h (g - 1) (by omega)
  unfold up
  omega
theorem pathF_eq {ps : List Nat} (h : Good ps) : ∀ (f f' g : Nat), g ≤ f → g ≤ f' → g ≤ ps.length → pathF ps f g = pathF ps f' g
  | 0, 0, g, _, _, _ => rfl
  | 0, f' + 1, g, h1, _, _ => by
    have e : g = 0 := by omega
    subst e
    rfl
  | f + 1, 0, g, _, h2, _ => by
    have e : g = 0 := by omega
    subst e
    rfl
  | f + 1, f' + 1, g, h1, h2, h3 => by
    unfold pathF
    by_cases e : g = 0
    · rw [if_pos e, if_pos e]
    · have u := up_lt h (by omega) h3
      rw [if_neg e, if_neg e, pathF_eq h f f' (up ps g) (by omega) (by omega) (by omega)]
theorem path_zero (ps : List Nat) : path ps 0 = [0] := rfl
theorem path_step {ps : List Nat} (h : Good ps) {g : Nat} (h0 : 0 < g) (h1 : g ≤ ps.length) : path ps g = g :: path ps (up ps g) := by
  have u := up_lt h h0 h1
  obtain ⟨f, rfl⟩ : ∃ f, g = f + 1 := ⟨g - 1, by omega⟩
  show (if f + 1 = 0 then [0] else (f + 1) :: pathF ps f (up ps (f + 1))) = _
  rw [if_neg (by omega), pathF_eq h f (up ps (f + 1)) (up ps (f + 1)) (by omega) (Nat.le_refl _) (by omega)]
  rfl
theorem path_mem {ps : List Nat} (h : Good ps) : ∀ (n g : Nat), g ≤ n → g ≤ ps.length → ∀ x ∈ path ps g, x ≤ g := by
  intro n
  induction n with
  | zero =>
    intro g h1 _ x hx
    have e : g = 0 := by omega
    subst e
    have q : x = 0 := List.mem_singleton.mp hx
    omega
  | succ n ih =>
    intro g h1 h2 x hx
    by_cases e : g = 0
    · subst e
      have q : x = 0 := List.mem_singleton.mp hx
      omega
    · have u := up_lt h (by omega) h2
      rw [path_step h (by omega) h2] at hx
      rcases List.mem_cons.mp hx with r | r
      · omega
      · have := ih (up ps g) (by omega) (by omega) x r
        omega
theorem path_le {ps : List Nat} (h : Good ps) {g : Nat} (h2 : g ≤ ps.length) {x : Nat} (hx : x ∈ path ps g) : x ≤ g := path_mem h g g (Nat.le_refl _) h2 x hx
theorem path_len {ps : List Nat} (h : Good ps) : ∀ (n g : Nat), g ≤ n → g ≤ ps.length → (path ps g).length ≤ g + 1 := by
  intro n
  induction n with
  | zero =>
    intro g h1 _
    have e : g = 0 := by omega
    subst e
    exact Nat.le_refl _
  | succ n ih =>
    intro g h1 h2
    by_cases e : g = 0
    · subst e
      exact Nat.le_refl _
    · have u := up_lt h (by omega) h2
      have q := ih (up ps g) (by omega) (by omega)
      rw [path_step h (by omega) h2, List.length_cons]
      omega
theorem Good.snoc {ps : List Nat} (h : Good ps) {g : Nat} (hg : g ≤ ps.length) : Good (ps ++ [g]) := by
  intro i hi
  rw [List.length_append, List.length_singleton] at hi
  rw [List.getD_eq_getElem?_getD]
  by_cases e : i < ps.length
  · rw [List.getElem?_append_left e, ← List.getD_eq_getElem?_getD]
    exact h i e
  · have e2 : i = ps.length := by omega
    subst e2
    rw [List.getElem?_append_right (Nat.le_refl _), Nat.sub_self]
    exact hg
theorem Good.nil : Good [] := fun i h => absurd h (Nat.not_lt_zero i)
theorem Good.range (n : Nat) : Good (List.range n) := by
  intro i hi
  rw [List.length_range] at hi
  rw [List.getD_eq_getElem?_getD, List.getElem?_range hi]
  exact Nat.le_refl _
end My
namespace MyT
open My PySem PySem.Spec PyProof.Rows L2 GL Evl StX SkE
section
variable {K : PySem.W.Frag} {σ : L2.St} {H : Hp} {te : TE} {x y v : V} {r : R2}
theorem rc_isi {u t : Value} {b : Bool} {c : V} (k : ClsV c u) (ty : ∀ H1, TyX K H1 x t) (h : PySem.W.kitOne K t u = some b) : RC (rIsi K) [x, c] H (.bl b) := fun H1 e Q q => ⟨x, c, t, u, b, rfl, k, ty H1, h, q H1 (Ex.refl H1)⟩
theorem et_is' {b : Bool} (h : Ev te σ H (.bl b)) : Ev te σ H (.bl b) := h
theorem rv_bl {a b : Bool} (h : RV r x y H (.bl a)) (e : a = b) : RV r x y H (.bl b) := by
  rw [← e]
  exact h
end
/-! ### helpers -/
abbrev nV (n : Nat) : V := .int (n : Int)
def upsV (ps : List Nat) : List V := V.non :: ps.map nV
theorem upsV_len (ps : List Nat) : (upsV ps).length = ps.length + 1 := by
  unfold upsV
  rw [List.length_cons, List.length_map]
theorem inV_nat (a : Nat) : ∀ l : List Nat, inV (nV a) (l.map nV) = decide (a ∈ l)
  | [] => rfl
  | b :: l => by
    have ih := inV_nat a l
    show (((b : Int) == (a : Int)) || inV (nV a) (l.map nV)) = decide (a ∈ b :: l)
    rw [ih]
    by_cases e : a = b
    · subst e
      simp
    · have z : ((b : Int) == (a : Int)) = false := beq_eq_false_iff_ne.mpr (by omega)
      rw [z, Bool.false_or]
      by_cases m : a ∈ l
      · rw [decide_eq_true m, decide_eq_true (List.mem_cons_of_mem _ m)]
      · rw [decide_eq_false m, decide_eq_false (fun q => (List.mem_cons.mp q).elim e m)]
theorem flat_nat (l : List Nat) : (l.map nV).all flatV = true := by
  rw [List.all_eq_true]
  intro x hx
  obtain ⟨n, _, rfl⟩ := List.mem_map.mp hx
  rfl
theorem at_nat {l : List Nat} {i : Nat} (h : i < l.length) : (l.map nV)[i]? = some (nV (l.getD i 0)) := by
  rw [List.getElem?_map, List.getElem?_eq_getElem h, List.getD_eq_getElem?_getD, List.getElem?_eq_getElem h]
  rfl
theorem ups_at {ps : List Nat} {g : Nat} (h0 : 0 < g) (h : g ≤ ps.length) : (upsV ps)[g]? = some (nV (up ps g)) := by
  obtain ⟨f, rfl⟩ : ∃ f, g = f + 1 := ⟨g - 1, by omega⟩
  unfold upsV up
  rw [List.getElem?_cons_succ, at_nat (by omega), Nat.add_sub_cancel]
section
variable {K : PySem.W.Frag} {σ : L2.St} {H H' : Hp} {ta tb te : TE} {t u : TT} {x y z v : V} {C : Addr}
theorem ev_fld {p dx : Addr} {fs : List (Str × V)} {f : Str} (ha : Ev ta σ H (.ref p)) (h : H p = some (.ins C dx fs)) (c : Cls K C) (n : NoAttr K C f) (l : fs.lookup f = some v) : Ev (tFld K ta f) σ H v :=
  fun H1 e Q q => ha H1 e _ fun H2 e2 => ⟨p, C, dx, fs, v, rfl, e2 _ _ (e _ _ h), c, n, l, q H2 e2⟩
theorem el_meth {m : Str} {sp : Sp} {dvs vs xs : List V} {Er : XK} {tb : TA} {p dx : Addr} {fs : List (Str × V)} (ha : Ev ta σ H (.ref p)) (h : H p = some (.ins C dx fs)) (l : fs.lookup m = none) (hb : EvA tb σ H vs) (hs : SpL sp (.ref p :: (vs ++ dvs)) H xs) : EvL (tMeth C m sp dvs Er ta tb) σ H xs :=
  fun H1 e Q q => ha H1 e _ fun H2 e2 => ⟨p, dx, fs, rfl, e2 _ _ (e _ _ h), l, hb H2 (e.trans e2) _ fun H3 e3 => hs H3 ((e.trans e2).trans e3) Q (fun r H4 hr e4 h4 => q r H4 (fresh_back (e2.trans e3) hr) ((e2.trans e3).trans e4) h4) Er⟩
theorem ev_chain {r r' : R2} {tc : TE} {w : V} {b c : Bool} (ha : Ev ta σ H x) (hb : Ev tb σ H y) (hr : RV r x y H (.bl b)) (hc : b = true → Ev tc σ H w) (hr' : b = true → RV r' y w H (.bl c)) : Ev (tChain r r' ta tb tc) σ H (.bl (b && c)) := fun H1 e Q q =>
  ha H1 e _ fun H2 e2 => hb H2 (e.trans e2) _ fun H3 e3 => hr H3 ((e.trans e2).trans e3) _ fun H4 e4 => ⟨b, rfl, by
    have f4 := (e2.trans e3).trans e4
    cases b with
    | false => exact q H4 f4
    | true => exact hc rfl H4 (e.trans f4) _ fun H5 e5 => hr' rfl H5 ((e.trans f4).trans e5) Q fun H6 e6 => q H6 ((f4.trans e5).trans e6)⟩
end
/-! ### a tree -/
def tf (la ls : Addr) : List (Str × V) := putF "_struck" (.ref ls) (putF "_above" (.ref la) [])
theorem tf_above (la ls : Addr) : (tf la ls).lookup ("_above" : Str) = some (.ref la) := by
  unfold tf
  rw [lookup_putF, if_neg (by decide +kernel), lookup_putF, if_pos rfl]
theorem tf_struck (la ls : Addr) : (tf la ls).lookup ("_struck" : Str) = some (.ref ls) := by
  unfold tf
  rw [lookup_putF, if_pos rfl]
theorem tf_no (la ls : Addr) {m : Str} (h1 : ¬ m = "_struck") (h2 : ¬ m = "_above") : (tf la ls).lookup m = none := by
  unfold tf
  rw [lookup_putF, if_neg h1, lookup_putF, if_neg h2]
  rfl
/-- at t a tree with these parents and struck groups -/
structure TreeP (C : Addr) (H : Hp) (t dx la ls : Addr) (ps st : List Nat) : Prop where
  ob : H t = some (.ins C dx (tf la ls))
  ab : H la = some (.lst (upsV ps))
  sk : H ls = some (.lst (st.map nV))
def TreeAt (C : Addr) (H : Hp) (t : Addr) (ps st : List Nat) : Prop := ∃ dx la ls, TreeP C H t dx la ls ps st
theorem TreeP.ex {C : Addr} {H H' : Hp} {t dx la ls : Addr} {ps st : List Nat} (h : TreeP C H t dx la ls ps st) (e : Ex H H') : TreeP C H' t dx la ls ps st := ⟨e _ _ h.ob, e _ _ h.ab, e _ _ h.sk⟩
theorem TreeAt.ex {C : Addr} {H H' : Hp} {t : Addr} {ps st : List Nat} (h : TreeAt C H t ps st) (e : Ex H H') : TreeAt C H' t ps st := by
  obtain ⟨dx, la, ls, p⟩ := h
  exact ⟨dx, la, ls, p.ex e⟩
/-- the same, all of it made behind H0 -/
def TreeNew (C : Addr) (H0 H : Hp) (t : Addr) (ps st : List Nat) : Prop := ∃ dx la ls, TreeP C H t dx la ls ps st ∧ H0 t = none ∧ H0 la = none ∧ H0 ls = none
theorem TreeNew.ex {C : Addr} {H0 H H' : Hp} {t : Addr} {ps st : List Nat} (h : TreeNew C H0 H t ps st) (e : Ex H H') : TreeNew C H0 H' t ps st := by
  obtain ⟨dx, la, ls, p, q⟩ := h
  exact ⟨dx, la, ls, p.ex e, q⟩
/-! ### promises: the program -/
/-- a list, a tuple, a tuple of the text -/
inductive Seq (K : PySem.W.Frag) (H : Hp) (a : Addr) (xs : List V) : Prop where
  | lst (h : H a = some (.lst xs))
  | tup (h : H a = some (.tup xs))
  | kst (h : ∀ H, SqT K H a xs) (y : ∀ H, TyX K H (.ref a) (.type "tuple"))
theorem Seq.ex {K : PySem.W.Frag} {H H' : Hp} {a : Addr} {xs : List V} (h : Seq K H a xs) (e : Ex H H') : Seq K H' a xs := by
  cases h with
  | lst h => exact .lst (e _ _ h)
  | tup h => exact .tup (e _ _ h)
  | kst h y => exact .kst h y
theorem Seq.sq {K : PySem.W.Frag} {H : Hp} {a : Addr} {xs : List V} (h : Seq K H a xs) : SqL K H a xs ∨ SqT K H a xs := by
  cases h with
  | lst h => exact .inl (sq_of h)
  | tup h => exact .inr (st_of h)
  | kst h y => exact .inr (h H)
theorem Seq.ty {K : PySem.W.Frag} {H : Hp} {a : Addr} {xs : List V} (h : Seq K H a xs) : TyX K H (.ref a) (.type "list") ∨ TyX K H (.ref a) (.type "tuple") := by
  cases h with
  | lst h => exact .inl (.base (.lst h))
  | tup h => exact .inr (.base (.tup h))
  | kst h y => exact .inr (y H)
theorem pi_or {X : Cx} {tg it : Expr} {w1 w2 : TI} (h1 : PI X tg it w1) (h2 : PI X tg it w2) : PI X tg it (fun σ H R => w1 σ H R ∨ w2 σ H R) :=
  ⟨fun pins s σ H R I h => h.elim (h1.run pins s σ H R I) (h2.run pins s σ H R I)⟩
section
variable {K : PySem.W.Frag} {σ : L2.St} {H : Hp} {a : Addr} {xs : List V} {ta : TA} {D : Ends} {tb : TS}
/-- for i, x in enumerate(seq) -/
theorem s_forE {i j : Nat} {Hb : Hp} (h : EvA ta σ H [.ref a]) (hs : Seq K Hb a xs) (hb : Ex Hb H) (Pv : Nat → L2.St → Hp → Prop) (h0 : ∀ H1, Ex H H1 → Pv 0 σ H1) (hE : ∀ n σ' H', Pv n σ' H' → Ex Hb H')
    (step : ∀ n x σ' H' H2, xs[n]? = some x → Pv n σ' H' → Ex H' H2 → tb { D with nx := Pv (n + 1), ct := Pv (n + 1), bk := D.nx } ((σ'.set i (some (.int (n : Nat)))).set j (some x)) H2) (hd : ∀ σ' H', Pv xs.length σ' H' → D.nx σ' H') :
    tFor (fun σ H R => iEnum K ta σ H R ∨ iEnT K ta σ H R) (gTup K 2 (gCons (gName i) (gCons (gName j) gNil))) tb D σ H := by
  have turn : ∀ n v σ' H' H2, Pv n σ' H' → YPair (fun i => some (.int (i : Nat))) (fun i => xs[i]?) n H' v H2 → gTup K 2 (gCons (gName i) (gCons (gName j) gNil)) v σ' H2 fun σ2 H2 => tb { D with nx := Pv (n + 1), ct := Pv (n + 1), bk := D.nx } σ2 H2 := by
    rintro n v σ' H' H2 p ⟨T, x, z, rfl, nT, rfl, e1, e2⟩
    cases e1
    exact ⟨T, _, rfl, st_of upd_same, rfl, _, _, rfl, _, _, rfl, rfl, step n z σ' H' _ e2 p (Ex.new nT)⟩
  have tupled : (∀ H', Ex Hb H' → SqT K H' a xs) → tFor (fun σ H R => iEnum K ta σ H R ∨ iEnT K ta σ H R) (gTup K 2 (gCons (gName i) (gCons (gName j) gNil))) tb D σ H := fun st =>
    .inr (h H (Ex.refl H) _ fun H1 e => ⟨a, xs, rfl, st H1 (hb.trans e), for_it (walk_enumE) Pv (h0 H1 e) (fun n σ' H' _ p => st H' (hE n σ' H' p)) (fun n v σ' H' H2 _ p y => turn n v σ' H' H2 p (by simpa using y)) hd⟩)
  cases hs with
  | lst hl => exact .inl (h H (Ex.refl H) _ fun H1 e => ⟨a, xs, rfl, sq_of (e _ _ (hb _ _ hl)), for_it walk_enum Pv (h0 H1 e) (fun n σ' H' _ p => sq_of (hE n σ' H' p _ _ hl)) (fun n v σ' H' H2 _ p y => turn n v σ' H' H2 p y) hd⟩)
  | tup hl => exact tupled fun H' e => st_of (e _ _ hl)
  | kst hl _ => exact tupled fun H' _ => hl H'
end
def sp_is_an_integer : Sp := fun vs H Q _ => ∃ i : Int, vs = [.int i] ∧ RetV (.bl true) H Q
def sp_is_list (K : PySem.W.Frag) : Sp := fun vs H Q _ => ∃ a xs, vs = [.ref a] ∧ Seq K H a xs ∧ RetV (.bl true) H Q
def sp_Tlen (C : Addr) : Sp := fun vs H Q _ => ∃ t ps st, vs = [.ref t] ∧ TreeAt C H t ps st ∧ ps.length ≤ 199 ∧ RetV (nV (ps.length + 1)) H Q
def sp_check_group (C : Addr) : Sp := fun vs H Q _ => ∃ t ps st, ∃ g : Nat, vs = [.ref t, nV g] ∧ TreeAt C H t ps st ∧ ps.length ≤ 199 ∧ g ≤ ps.length ∧ RetV .non H Q
section
variable {P : Program} {w : World} {K : PySem.W.Frag} {mg : Str → Option Value} {base : Heap}
theorem ok_is_an_integer (T : Txt K mg w) : FnG P w K mg base CX0 1 T.f_is_an_integer T.fd_is_an_integer ["value"] sp_is_an_integer := by
  refine okG T.F_is_an_integer sc_is_an_integer (fun vs H Q E h => ?_) (fun cdv A outer s H vs Q E gd hr h => ?_)
  · obtain ⟨i, rfl, _⟩ := h
    rfl
  · obtain ⟨i, rfl, q⟩ := h
    refine ⟨_, (pss_one (ps_ret (pe_and (pe_callB call_isi (by rfl) T.z_isinstance boot_isinstance (pa_cons (pv 0) (pa_cons (pe_bltn (v := .ty "int") (u := .type "int") (by rfl) T.z_int (by decide +kernel) rfl) pa_nil))) (pe_one (pe_not (pe_callB call_isi (by rfl) T.z_isinstance boot_isinstance (pa_cons (pv 0) (pa_cons (pe_bltn (v := .ty "bool") (u := .type "bool") (by rfl) T.z_bool (by decide +kernel) rfl) pa_nil)))))))), ?_⟩
    refine s_ret (v := .bl true) (ev_andV (a := true) (b := true) (ev_cb (ea_cons (ev_var rfl) (ea_cons ev_c ea_nil)) (rc_isi (.ty "int") (fun _ => .base (.int i)) (kit_ty (by decide +kernel)))) fun _ => ?_) q
    exact ev_notV (a := false) (ev_cb (ea_cons (ev_var rfl) (ea_cons ev_c ea_nil)) (rc_isi (.ty "bool") (fun _ => .base (.int i)) (kit_ty (by decide +kernel))))
theorem ok_is_list (T : Txt K mg w) : FnG P w K mg base CX0 1 T.f_is_list T.fd_is_list ["value"] (sp_is_list K) := by
  refine okG T.F_is_list sc_is_list (fun vs H Q E h => ?_) (fun cdv A outer s H vs Q E gd hr h => ?_)
  · obtain ⟨a, xs, rfl, _⟩ := h
    rfl
  · obtain ⟨a, xs, rfl, hs, q⟩ := h
    refine ⟨_, (pss_one (ps_ret (pe_callB call_isiT (by rfl) T.z_isinstance boot_isinstance (pa_cons (pv 0) (pa_cons (pe_tup (pa_cons (pe_bltn (v := .ty "list") (u := .type "list") (by rfl) T.z_list (by decide +kernel) rfl) (pa_cons (pe_bltn (v := .ty "tuple") (u := .type "tuple") (by rfl) T.z_tuple (by decide +kernel) rfl) pa_nil))) pa_nil))))), ?_⟩
    refine ⟨_, rfl, (by show 2 ≤ sizeLine; decide), fun p hp => ?_⟩
    have e := Ex.new (o := .tup [.ty "list", .ty "tuple"]) hp
    rcases (hs.ex e).ty with ty | ty
    · exact ⟨.ref a, p, _, _, _, true, rfl, upd_same, .cons (.ty "list") (.cons (.ty "tuple") .nil), ty, kitAny_cons (b := true) (kit_ty (by decide +kernel)) (fun z => nomatch z) (fun _ => rfl), q _ e⟩
    · exact ⟨.ref a, p, _, _, _, true, rfl, upd_same, .cons (.ty "list") (.cons (.ty "tuple") .nil), ty, kitAny_cons (b := false) (kit_ty (by decide +kernel)) (fun _ => kitAny_cons (b := true) (kit_ty (by decide +kernel)) (fun z => nomatch z) (fun _ => rfl)) (fun z => nomatch z), q _ e⟩
theorem ok_Tlen (T : Txt K mg w) : FnG P w K mg base CX0 1 T.f_Tlen T.fd_Tlen ["self"] (sp_Tlen T.C_Tree) := by
  refine okG T.F_Tlen sc_Tlen (fun vs H Q E h => ?_) (fun cdv A outer s H vs Q E gd hr h => ?_)
  · obtain ⟨t, ps, st, rfl, _⟩ := h
    rfl
  · obtain ⟨t, ps, st, rfl, ⟨dx, la, ls, p⟩, hl, q⟩ := h
    refine ⟨_, (pss_one (ps_ret (pe_callB call_len_seq (by rfl) T.z_len PySem.boot_len (pa_cons (pe_fld (pv 0) rfl) pa_nil)))), ?_⟩
    refine s_ret (ev_is (ev_len (ev_fld (ev_var rfl) p.ob T.c_Tree T.n_above (tf_above la ls)) (sq_of p.ab)) ?_) q
    rw [upsV_len]
/-- len(tree) by its own method -/
theorem rc_lenT {C : Addr} {H : Hp} {t : Addr} {ps st : List Nat} {E : XK} (h : TreeAt C H t ps st) (hl : ps.length ≤ 199) :
    RC (fun xs H Q => ∃ a dx fs, xs = [V.ref a] ∧ H a = some (.ins C dx fs) ∧ sp_Tlen C [V.ref a] H (fun v H' => ∃ n : Nat, v = V.int (n : Int) ∧ n < 1000000 ∧ Q (V.int (n : Int)) H') E) [V.ref t] H (nV (ps.length + 1)) := by
  intro H1 e Q q
  obtain ⟨dx, la, ls, p⟩ := h.ex e
  exact ⟨t, dx, _, rfl, p.ob, t, ps, st, rfl, ⟨dx, la, ls, p⟩, hl, fun H2 e2 => ⟨ps.length + 1, rfl, by omega, q H2 e2⟩⟩
theorem ok_check_group (T : Txt K mg w) (G_is_an_integer : FnG P w K mg base CX0 1 T.f_is_an_integer T.fd_is_an_integer ["value"] sp_is_an_integer) (G_Tlen : FnG P w K mg base CX0 1 T.f_Tlen T.fd_Tlen ["self"] (sp_Tlen T.C_Tree)) : FnG P w K mg base CX0 3 T.f_check_group T.fd_check_group ["tree", "value"] (sp_check_group T.C_Tree) := by
  refine okG T.F_check_group sc_check_group (fun vs H Q E h => ?_) (fun cdv A outer s H vs Q E gd hr h => ?_)
  · obtain ⟨t, ps, st, g, rfl, _⟩ := h
    rfl
  · obtain ⟨t, ps, st, g, rfl, ht, hl, hg, q⟩ := h
    refine ⟨_, (pss_one (ps_if ((pw_or (pt_not (pt_val (pc gd G_is_an_integer (hr.mono (by decide)) (by rfl) T.m_is_an_integer T.F_is_an_integer.kp T.b_is_an_integer .nil pass0 (pa_cons (pv 1) pa_nil)))) (pw_or1 (pt_not (pt_chain op_le op_lt pe_int (pv 1) (pe_callB (call_lenG gd G_Tlen (hr.mono (by decide)) T.b_Tlen T.M_Tlen.at_ T.M_Tlen.fn pass0) (by rfl) T.z_len PySem.boot_len (pa_cons (pv 0) pa_nil))))))).pt (pss_one ps_never) pss_nil)), ?_⟩
    refine s_when (b := false) (et_is (et_or (a := false) (b := false) (et_is (et_not (et_B (b := true) (ev_call (ea_cons (ev_var rfl) ea_nil) fun H1 e Q q E => ⟨g, rfl, q⟩))) rfl) fun _ => ?_) rfl) (fun z => nomatch z) fun _ H1 e1 => q H1 e1
    refine et_is (et_not (a := true) (et_test (et_is' (ev_chain (b := true) (c := true) ev_c (ev_var rfl) ?_ (fun _ => ev_cb (ea_cons (ev_var rfl) ea_nil) (rc_lenT ht hl)) ?_)))) rfl
    · exact rv_bl rv_I0 (decide_eq_true (by omega))
    · exact fun _ => rv_bl rv_I0 (decide_eq_true (by omega))
end
end MyT
namespace MyT
open My PySem PySem.Spec PyProof.Rows L2 GL Evl StX SkE
section
variable {K : PySem.W.Frag} {σ : L2.St} {H : Hp} {a : Addr} {xs : List V} {ta : TA} {te tb : TE} {D : Ends} {tz : TS} {C : Addr}
theorem ea_star {tr : TA} {ys : List V} (h : Ev te σ H (.ref a)) (hs : Seq K H a xs) (hr : EvA tr σ H ys) : EvA (tStar K te tr) σ H (xs ++ ys) := fun H1 e Q q =>
  h H1 e _ fun H2 e2 => ⟨a, xs, rfl, (hs.ex (e.trans e2)).sq.symm, hr H2 (e.trans e2) _ fun H3 e3 => q H3 (e2.trans e3)⟩
theorem q_fldL {f : Str} {p dx : Addr} {fs : List (Str × V)} (h : EvL te σ H xs) (ho : Ev tb σ H (.ref p)) (hp : H p = some (.ins C dx fs)) (c : Cls K C) (n : NoAttr K C f) (hl : fs.length < 1000)
    (k : ∀ l H1, H l = none → Ex H H1 → H1 l = some (.lst xs) → tz D σ (upd H1 p (.ins C dx (putF f (.ref l) fs)))) : tSeq (sFld K tb te f) tz D σ H :=
  h H (Ex.refl H) _ fun l H1 hl0 e1 h1 => ho H1 e1 _ fun H2 e2 => ⟨p, C, dx, fs, rfl, e2 _ _ (e1 _ _ hp), c, n, hl, k l H2 hl0 (e1.trans e2) (e2 _ _ h1)⟩
/-- [.. for i, x in enumerate(seq, start=k) if ..] -/
theorem el_lcEK {tk : TA} {i j : Nat} {vs : List Nat} {k : Int} {tt : TT} (f : Nat → Bool) (v : Nat → V) (h : EvA ta σ H [.ref a]) (hk : EvA tk σ H [.int k]) (hk0 : -1000 ≤ k ∧ k ≤ 1000) (hx : Seq K H a xs) (hz : xs.length ≤ 40000)
    (hw : ∀ x y, wipe (((wipe σ vs).set i (some x)).set j (some y)) vs = wipe σ vs)
    (ht : ∀ (n : Nat) (x : V) H1, Ex H H1 → xs[n]? = some x → EvT tt (((wipe σ vs).set i (some (.int (k + (n : Nat))))).set j (some x)) H1 (f n)) (he : ∀ (n : Nat) (x : V) H1, Ex H H1 → xs[n]? = some x → f n = true → Ev te (((wipe σ vs).set i (some (.int (k + (n : Nat))))).set j (some x)) H1 (v n)) :
    EvL (tLc (fun σ H R => iEnK K ta tk σ H R ∨ iEnKT K ta tk σ H R) (gTup K 2 (gCons (gName i) (gCons (gName j) gNil))) tt te vs) σ H (given xs.length f v) := fun H0 e Q q => by
  have turn : ∀ (SQ : Hp → Addr → List V → Prop) (H2 : Hp), Ex H H2 → ∀ (n : Nat) (w : V) (H' H3 : Hp) (Dl : Addr), n < xs.length → Cw H2 f v Dl n H' → YPair (fun i => some (.int (k + (i : Nat)))) (fun i => xs[i]?) n H' w H3 → gTup K 2 (gCons (gName i) (gCons (gName j) gNil)) w (wipe σ vs) H3 fun σ2 H4 => wipe σ2 vs = wipe σ vs ∧ tt σ2 H4 fun b H5 => if b = true then te σ2 H5 fun y H6 => ∃ acc, H6 Dl = some (.lst acc) ∧ acc.length < sizeLine ∧ Cw H2 f v Dl (n + 1) (upd H6 Dl (.lst (acc ++ [y]))) else Cw H2 f v Dl (n + 1) H5 := by
    rintro SQ H2 eH n w H' H3 Dl hn p ⟨T, y, z, rfl, nT, rfl, q1, q2⟩
    cases q1
    have p' : Cw H2 f v Dl n (upd H' T (.tup [.int (k + (n : Nat)), z])) := ⟨p.1, p.2.1.trans (Ex.new nT), Ex.new nT _ _ p.2.2⟩
    exact ⟨T, _, rfl, st_of upd_same, rfl, _, _, rfl, _, _, rfl, rfl, hw _ _, cw_turn p' (by omega) (ht n z H2 eH q2) (fun hf => he n z H2 eH q2 hf)⟩
  have tupled : (∀ H', Ex H H' → SqT K H' a xs) → tLc (fun σ H R => iEnK K ta tk σ H R ∨ iEnKT K ta tk σ H R) (gTup K 2 (gCons (gName i) (gCons (gName j) gNil))) tt te vs σ H0 Q := fun st => .inr (h H0 e _ fun H1 e1 => hk H1 (e.trans e1) _ fun H2 e2 => ⟨a, xs, k, rfl, rfl, by omega, by omega, st H2 ((e.trans e1).trans e2), fun Dl hD =>
    lc_it (walk_enumE (SQ := SqT K)) (Cw H2 f v Dl) ⟨hD, Ex.new hD, upd_same⟩ (fun n H' _ p => st H' (((e.trans e1).trans e2).trans p.2.1)) (fun n w H' H3 hn p y => turn (SqT K) H2 ((e.trans e1).trans e2) n w H' H3 Dl hn p y) (fun H' p => q Dl H' (fresh_back (e1.trans e2) p.1) ((e1.trans e2).trans p.2.1) p.2.2)⟩)
  cases hx with
  | lst hx => exact .inl (h H0 e _ fun H1 e1 => hk H1 (e.trans e1) _ fun H2 e2 => ⟨a, xs, k, rfl, rfl, by omega, by omega, sq_of (((e.trans e1).trans e2) _ _ hx), fun Dl hD =>
    lc_it (walk_enumE (SQ := SqL K)) (Cw H2 f v Dl) ⟨hD, Ex.new hD, upd_same⟩ (fun n H' _ p => sq_of (p.2.1 a _ (((e.trans e1).trans e2) _ _ hx))) (fun n w H' H3 hn p y => turn (SqL K) H2 ((e.trans e1).trans e2) n w H' H3 Dl hn p y) (fun H' p => q Dl H' (fresh_back (e1.trans e2) p.1) ((e1.trans e2).trans p.2.1) p.2.2)⟩)
  | tup hx => exact tupled fun H' e' => st_of (e' _ _ hx)
  | kst hx y => exact tupled fun H' _ => hx H'
end
theorem given_nat (n : Nat) (f : Nat → Bool) (v : Nat → Nat) : given n f (fun i => nV (v i)) = (((List.range n).filter f).map v).map nV := by
  unfold given
  rw [List.map_map]
  rfl
structure StOk (ps st : List Nat) : Prop where
  nd : st.Nodup
  bd : ∀ g ∈ st, 1 ≤ g ∧ g ≤ ps.length
  cl : ∀ c, 1 ≤ c → c ≤ ps.length → up ps c ∈ st → c ∈ st
theorem StOk.nil (ps : List Nat) : StOk ps [] := ⟨List.nodup_nil, fun _ h => absurd h List.not_mem_nil, fun _ _ _ h => absurd h List.not_mem_nil⟩
theorem StOk.len {ps st : List Nat} (h : StOk ps st) : st.length ≤ ps.length := by
  have q : ∀ (n : Nat) (l : List Nat), l.Nodup → (∀ x ∈ l, 1 ≤ x ∧ x ≤ n) → l.length ≤ n := by
    intro n
    induction n with
    | zero =>
      intro l _ hb
      cases l with
      | nil => exact Nat.le_refl _
      | cons x l =>
        have := hb x List.mem_cons_self
        omega
    | succ n ih =>
      intro l hn hb
      by_cases m : n + 1 ∈ l
      · have z := ih (l.erase (n + 1)) (hn.erase _) (fun x hx => by
          have h1 := (hn.mem_erase_iff).mp hx
          have := hb x h1.2
          exact ⟨this.1, by omega⟩)
        rw [List.length_erase_of_mem m] at z
        omega
      · have z := ih l hn (fun x hx => by
          have := hb x hx
          have : x ≠ n + 1 := fun e => m (e ▸ hx)
          exact ⟨by omega, by omega⟩)
        omega
  exact q _ _ h.nd h.bd
def sp_check_parents (K : PySem.W.Frag) : Sp := fun vs H Q _ => ∃ a ps, vs = [.ref a] ∧ Seq K H a (ps.map nV) ∧ Good ps ∧ ps.length ≤ 199 ∧ RetV .non H Q
def sp_check_struck (K : PySem.W.Frag) (w : World) : Sp := fun vs H Q _ => ∃ a b ps st, vs = [.ref a, .ref b] ∧ Seq K H a (ps.map nV) ∧ Seq K H b (st.map nV) ∧ ps.length ≤ 199 ∧ StOk ps st ∧ RetV .non H Q
section
variable {P : Program} {w : World} {K : PySem.W.Frag} {mg : Str → Option Value} {base : Heap}
theorem rv_sin {H : Hp} {p : Addr} {k : Int} {S : Int → Bool} {n : Nat} (h : H p = some (SetO w p S n)) : RV (rSIn w) (.int k) (.ref p) H (.bl (S k)) := fun H1 e Q q => ⟨k, p, S, n, rfl, rfl, e _ _ h, q H1 (Ex.refl H1)⟩
theorem rv_snin {H : Hp} {p : Addr} {k : Int} {S : Int → Bool} {n : Nat} (h : H p = some (SetO w p S n)) : RV (rSNotIn w) (.int k) (.ref p) H (.bl (!S k)) := fun H1 e Q q => ⟨k, p, S, n, rfl, rfl, e _ _ h, q H1 (Ex.refl H1)⟩
theorem sv_int {H : Hp} (i : Int) : SpV sp_is_an_integer [.int i] H (.bl true) := fun _ _ _ q _ => ⟨i, rfl, q⟩
theorem sv_list {H : Hp} {a : Addr} {xs : List V} (h : Seq K H a xs) : SpV (sp_is_list K) [.ref a] H (.bl true) := fun _ e _ q _ => ⟨a, xs, rfl, h.ex e, q⟩
theorem rc_len {H : Hp} {a : Addr} {xs : List V} (h : Seq K H a xs) : RC (rLenS K) [.ref a] H (.int (xs.length : Int)) := fun H1 e Q q => ⟨a, xs, rfl, (h.ex e).sq, q H1 (Ex.refl H1)⟩
theorem rc_lenN {H : Hp} {a : Addr} {ps : List Nat} (h : Seq K H a (ps.map nV)) : RC (rLenS K) [.ref a] H (nV ps.length) := by
  have q := rc_len h
  rwa [List.length_map] at q
theorem nat_item {ps : List Nat} {n : Nat} {x : V} (h : (ps.map nV)[n]? = some x) : n < ps.length ∧ x = nV (ps.getD n 0) := by
  have hl : n < ps.length := by
    have q := (List.getElem?_eq_some_iff.mp h).1
    rwa [List.length_map] at q
  exact ⟨hl, Option.some.inj (h.symm.trans (at_nat hl))⟩
theorem ok_check_parents (T : Txt K mg w) (G_is_list : FnG P w K mg base CX0 1 T.f_is_list T.fd_is_list ["value"] (MyT.sp_is_list K)) (G_is_an_integer : FnG P w K mg base CX0 1 T.f_is_an_integer T.fd_is_an_integer ["value"] MyT.sp_is_an_integer) : FnG P w K mg base CX0 2 T.f_check_parents T.fd_check_parents ["parents"] (MyT.sp_check_parents K) := by
  refine okG T.F_check_parents sc_check_parents (fun vs H Q E h => ?_) (fun cdv A outer s H vs Q E gd hr h => ?_)
  · obtain ⟨a, ps, rfl, _⟩ := h
    all_goals rfl
  · obtain ⟨a, ps, rfl, hs, hg, hl, q⟩ := h
    refine ⟨_, (pss_cons (ps_if (pt_not (pt_val (pc gd G_is_list (hr.mono (by decide)) (by rfl) T.m_is_list T.F_is_list.kp T.b_is_list .nil pass0 (pa_cons (pv 0) pa_nil)))) (pss_one ps_never) pss_nil) (pss_cons (ps_for PassesOwn.never rfl (pi_or (pi_enum (by rfl) T.z_enumerate (pa_cons (pv 0) pa_nil)) (pi_enumT (by rfl) T.z_enumerate (pa_cons (pv 0) pa_nil))) (pg_tup rfl (pgs_cons (pg_name (i := 1) sc_check_parents.nd rfl (Or.inl rfl) (Or.inr rfl)) (pgs_cons (pg_name (i := 2) sc_check_parents.nd rfl (Or.inl rfl) (Or.inr rfl)) pgs_nil))) (pss_one (ps_if ((pw_or (pt_not (pt_val (pc gd G_is_an_integer (hr.mono (by decide)) (by rfl) T.m_is_an_integer T.F_is_an_integer.kp T.b_is_an_integer .nil pass0 (pa_cons (pv 2) pa_nil)))) (pw_or1 (pt_not (pt_chain op_le op_le pe_int (pv 2) (pv 1)))))).pt (pss_one ps_never) pss_nil))) (pss_one (ps_if (pt_cmpR op_gt (pe_op op_add (pe_callB call_len_seq (by rfl) T.z_len PySem.boot_len (pa_cons (pv 0) pa_nil)) pe_int) (pe_glob (v := .int 200) (by rfl) T.m_MOST_GROUPS ⟨_, rfl⟩) (nomark _)) (pss_one ps_never) pss_nil)))), ?_⟩
    refine q_when (b := false) (et_is (et_not (et_B (b := true) (ev_call (ea_cons (ev_var rfl) ea_nil) (sv_list hs)))) rfl) (fun z => nomatch z) fun _ H1 e1 => ?_
    have hs1 := hs.ex e1
    refine s_forE (D := { nx := _, rt := _ }) (ea_cons (ev_var rfl) ea_nil) hs1 (Ex.refl H1) (fun n σ' H' => Ex H1 H' ∧ ∃ y1 y2, σ' = [some (.ref a), y1, y2]) (fun H2 e2 => ⟨e2, _, _, rfl⟩) (fun n σ' H' p => p.1) (fun n x σ' H' H2 hx p e2 => ?_) (fun σ' H' p => ?_)
    · obtain ⟨e', y1, y2, rfl⟩ := p
      obtain ⟨hn, rfl⟩ := nat_item hx
      have hle := hg n hn
      refine s_when (b := false) (et_is (et_or (a := false) (b := false) (et_is (et_not (et_B (b := true) (ev_call (ea_cons (ev_var rfl) ea_nil) (sv_int _)))) rfl) fun _ => et_is (et_not (a := true) (et_test (ev_chain (b := true) (c := true) ev_c (ev_var rfl) (rv_bl rv_I0 (decide_eq_true ?_)) (fun _ => ev_var rfl) (fun _ => rv_bl rv_I0 (decide_eq_true ?_))))) rfl) rfl) (fun z => nomatch z) fun _ H3 e3 => ?_
      · omega
      · omega
      · exact ⟨e'.trans (e2.trans e3), _, _, rfl⟩
    · obtain ⟨e', y1, y2, rfl⟩ := p
      refine s_when (b := false) (et_test (ev_op (ev_op (ev_cb (ea_cons (ev_var rfl) ea_nil) (rc_lenN (hs1.ex e'))) ev_c rv_I0) ev_c (rv_bl rv_I0 (decide_eq_false ?_)))) (fun z => nomatch z) fun _ H3 e3 => q _ (e1.trans (e'.trans e3))
      omega
theorem ok_check_struck (T : Txt K mg w) (G_is_list : FnG P w K mg base CX0 1 T.f_is_list T.fd_is_list ["value"] (MyT.sp_is_list K)) (G_is_an_integer : FnG P w K mg base CX0 1 T.f_is_an_integer T.fd_is_an_integer ["value"] MyT.sp_is_an_integer) : FnG P w K mg base CX0 2 T.f_check_struck T.fd_check_struck ["parents", "struck"] (MyT.sp_check_struck K w) := by
  refine okG T.F_check_struck sc_check_struck (fun vs H Q E h => ?_) (fun cdv A outer s H vs Q E gd hr h => ?_)
  · obtain ⟨a, b, ps, st, rfl, _⟩ := h
    all_goals rfl
  · obtain ⟨a, b, ps, st, rfl, ha, hb, hl, ok, q⟩ := h
    refine ⟨_, (pss_cons (ps_if (pt_not (pt_val (pc gd G_is_list (hr.mono (by decide)) (by rfl) T.m_is_list T.F_is_list.kp T.b_is_list .nil pass0 (pa_cons (pv 1) pa_nil)))) (pss_one ps_never) pss_nil) (pss_cons (ps_set (i := 2) sc_check_struck.nd rfl (Or.inr rfl) (pe_callTy0 cr_set0 (by rfl) T.z_set (by decide +kernel))) (pss_cons (ps_for PassesOwn.never rfl (pi_or (pi_enum (by rfl) T.z_enumerate (pa_cons (pv 1) pa_nil)) (pi_enumT (by rfl) T.z_enumerate (pa_cons (pv 1) pa_nil))) (pg_tup rfl (pgs_cons (pg_name (i := 3) sc_check_struck.nd rfl (Or.inl rfl) (Or.inr rfl)) (pgs_cons (pg_name (i := 4) sc_check_struck.nd rfl (Or.inl rfl) (Or.inr rfl)) pgs_nil))) (pss_cons (ps_if ((pw_or (pt_not (pt_val (pc gd G_is_an_integer (hr.mono (by decide)) (by rfl) T.m_is_an_integer T.F_is_an_integer.kp T.b_is_an_integer .nil pass0 (pa_cons (pv 4) pa_nil)))) (pw_or (pt_not (pt_chain op_le op_le pe_int (pv 4) (pe_callB call_len_seq (by rfl) T.z_len PySem.boot_len (pa_cons (pv 0) pa_nil)))) (pw_or1 (pt_cmpR or_sin (pv 4) (pv 2) (by rfl)))))).pt (pss_one ps_never) pss_nil) (pss_one (ps_expr (pe_sadd (pv 2) (pa_cons (pv 4) pa_nil)))))) (pss_cons (ps_setLc (i := 5) (own := [("child", 6), ("parent", 7)]) (g := gTup K 2 (gCons (gName 6) (gCons (gName 7) gNil))) rfl sc_check_struck.nd rfl rfl (sw_true rfl rfl rfl (by decide +kernel)) (pi_or (pi_enumK (by rfl) T.z_enumerate (pa_cons (pv 0) pa_nil) (pk_cons pe_int pk_nil)) (pi_enumKT (by rfl) T.z_enumerate (pa_cons (pv 0) pa_nil) (pk_cons pe_int pk_nil))) (blkOk_by (N := N_check_struck) (sc := defScope s_check_struck) (by decide +kernel)) (fun _ _ _ _ _ => (pg_tup rfl (pgs_cons (pg_name (i := 6) sc_check_struck.nd rfl (Or.inl rfl) (Or.inr rfl)) (pgs_cons (pg_name (i := 7) sc_check_struck.nd rfl (Or.inl rfl) (Or.inr rfl)) pgs_nil)))) (fun _ _ _ _ _ => pts_one (pt_cmpR (show OpR _ (compareOp .NotIn) (rSNotIn w) from or_snotin) (pv 6) (pv 2) (by rfl))) (fun _ _ _ _ _ => (pv 7))) (pss_one (ps_for PassesOwn.never rfl (pi_or (pi_enum (by rfl) T.z_enumerate (pa_cons (pv 1) pa_nil)) (pi_enumT (by rfl) T.z_enumerate (pa_cons (pv 1) pa_nil))) (pg_tup rfl (pgs_cons (pg_name (i := 3) sc_check_struck.nd rfl (Or.inl rfl) (Or.inr rfl)) (pgs_cons (pg_name (i := 4) sc_check_struck.nd rfl (Or.inl rfl) (Or.inr rfl)) pgs_nil))) (pss_one (ps_if (pt_cmpR op_in_seq (pv 4) (pv 5) (by rfl)) (pss_one ps_never) pss_nil)))))))), ?_⟩
    refine q_when (b := false) (et_is (et_not (et_B (b := true) (ev_call (ea_cons (ev_var rfl) ea_nil) (sv_list hb)))) rfl) (fun z => nomatch z) fun _ H1 e1 => ?_
    -- seen = set()
    refine ⟨rfl, fun p hp => ?_⟩
    have ha1 := ha.ex e1
    have hb1 := hb.ex e1
    refine s_forE (D := { nx := _, rt := _ }) (Hb := H1) (ea_cons (ev_var rfl) ea_nil) hb1 (Ex.new hp)
      (fun n σ' H' => Ex H1 H' ∧ H' p = some (SetO w p (fun k => decide (k ∈ (st.take n).map fun g : Nat => (g : Int))) n) ∧ ∃ y3 y4, σ' = [some (.ref a), some (.ref b), some (.ref p), y3, y4, none, none, none])
      (fun H2 e2 => ⟨(Ex.new hp).trans e2, e2 _ _ (by rw [upd_same]; rfl), _, _, rfl⟩) (fun n σ' H' z => z.1) (fun n x σ' H' H2 hx z e2 => ?_) (fun σ' H' z => ?_)
    · obtain ⟨e', hp', y3, y4, rfl⟩ := z
      obtain ⟨hn, rfl⟩ := nat_item hx
      have hmem : st.getD n 0 ∈ st := by
        rw [List.getD_eq_getElem?_getD, List.getElem?_eq_getElem hn]
        exact List.getElem_mem hn
      have hbd := ok.bd _ hmem
      have hnew : ¬ ((st.getD n 0 : Nat) : Int) ∈ (st.take n).map fun g : Nat => (g : Int) := by
        intro m
        obtain ⟨g, hg, eg⟩ := List.mem_map.mp m
        have eg' : g = st.getD n 0 := by omega
        obtain ⟨i, hi, ei⟩ := List.getElem_of_mem hg
        rw [List.length_take] at hi
        rw [List.getElem_take] at ei
        have hin : i < n := by omega
        have en : st[i] = st[n] := by
          rw [ei, eg', List.getD_eq_getElem?_getD, List.getElem?_eq_getElem hn]
          rfl
        exact List.pairwise_iff_getElem.mp ok.nd i n (by omega) hn hin en
      refine q_when (b := false) (et_is (et_or (a := false) (b := false) (et_is (et_not (et_B (b := true) (ev_call (ea_cons (ev_var rfl) ea_nil) (sv_int _)))) rfl) fun _ => et_is (et_or (a := false) (b := false) (et_is (et_not (a := true) (et_test (ev_chain (b := true) (c := true) ev_c (ev_var rfl) (rv_bl rv_I0 (decide_eq_true ?_)) (fun _ => ev_cb (ea_cons (ev_var rfl) ea_nil) (rc_lenN ((ha1.ex e').ex e2))) (fun _ => rv_bl rv_I0 (decide_eq_true ?_))))) rfl) fun _ => et_test (ev_op (ev_var rfl) (ev_var rfl) (rv_bl (rv_sin (e2 _ _ hp')) (decide_eq_false hnew)))) rfl) rfl) (fun z => nomatch z) fun _ H3 e3 => ?_
      · omega
      · omega
      · refine ⟨.ref p, rfl, ⟨p, _, _, rfl, e3 _ _ (e2 _ _ hp')⟩, _, rfl, p, _, _, n, rfl, rfl, e3 _ _ (e2 _ _ hp'), (by have := ok.len; show n + 1 < 4096; omega), ?_⟩
        refine ⟨Ex.mut (e'.trans (e2.trans e3)) hp, ?_, _, _, rfl⟩
        rw [upd_same, decide_eq_false hnew]
        show some (SetO w p (fun j => decide (j ∈ (st.take n).map fun g : Nat => (g : Int)) || decide (j = ((st.getD n 0 : Nat) : Int))) (n + 1)) = _
        congr 2
        funext j
        rw [List.take_add_one, List.getElem?_eq_getElem hn, List.map_append, List.getD_eq_getElem?_getD, List.getElem?_eq_getElem hn]
        show (decide (j ∈ (st.take n).map fun g : Nat => (g : Int)) || decide (j = ((st[n] : Nat) : Int))) = decide (j ∈ ((st.take n).map fun g : Nat => (g : Int)) ++ [((st[n] : Nat) : Int)])
        simp only [List.mem_append, List.mem_singleton, Bool.decide_or]
    · obtain ⟨e', hp', y3, y4, rfl⟩ := z
      have hlen : (st.map nV).length = st.length := List.length_map ..
      rw [hlen, List.take_length] at hp'
      have ha3 := ha1.ex e'
      -- needed = [..]
      have hneed := el_lcEK (K := K) (σ := [some (.ref a), some (.ref b), some (.ref p), y3, y4, none, none, none]) (H := H') (a := a) (xs := ps.map nV) (i := 6) (j := 7) (vs := [6, 7]) (k := 1) (ta := tCons (tVar 0) tNil) (tk := tCons (tC (.int 1)) tNil) (te := tVar 7) (tt := tTest (tOp (rSNotIn w) (tVar 6) (tVar 2)))
        (fun n => !decide (n + 1 ∈ st)) (fun n => nV (ps.getD n 0)) (ea_cons (ev_var rfl) ea_nil) (ea_cons ev_c ea_nil) (by omega) ha3 (by rw [List.length_map]; omega) (fun _ _ => rfl) (fun n x H1 e1 hx => ?_) (fun n x H1 e1 hx _ => ?_)
      · refine q_asgL (D := { nx := _, rt := _ }) hneed fun r H4 hr e4 hr4 => ?_
        rw [List.length_map, given_nat] at hr4
        refine s_forE (D := { nx := _, rt := _ }) (Hb := H4) (ea_cons (ev_var rfl) ea_nil) ((hb1.ex e').ex e4) (Ex.refl H4) (fun n σ2 H2 => Ex H4 H2 ∧ ∃ y3 y4, σ2 = [some (.ref a), some (.ref b), some (.ref p), y3, y4, some (.ref r), none, none]) (fun H2 e2 => ⟨e2, _, _, rfl⟩) (fun n σ2 H2 z => z.1) (fun n x σ2 H2 H3 hx z e3 => ?_) (fun σ2 H2 z => ?_)
        · obtain ⟨e5, y3, y4, rfl⟩ := z
          obtain ⟨hn, rfl⟩ := nat_item hx
          have hmem : st.getD n 0 ∈ st := by
            rw [List.getD_eq_getElem?_getD, List.getElem?_eq_getElem hn]
            exact List.getElem_mem hn
          refine s_when (b := false) (et_test (ev_op (ev_var rfl) (ev_var rfl) (rv_bl (rv_isL (sq_of ((e5.trans e3) _ _ hr4)) rfl (flat_nat _)) ?_))) (fun z => nomatch z) fun _ H6 e6 => ⟨e5.trans (e3.trans e6), _, _, rfl⟩
          rw [inV_nat]
          refine decide_eq_false fun m => ?_
          obtain ⟨i, hi, ei⟩ := List.mem_map.mp m
          obtain ⟨hi1, hi2⟩ := List.mem_filter.mp hi
          have hi1' := List.mem_range.mp hi1
          have hup : up ps (i + 1) = st.getD n 0 := by
            unfold up
            rw [Nat.add_sub_cancel]
            exact ei
          have := ok.cl (i + 1) (by omega) (by omega) (by rw [hup]; exact hmem)
          rw [decide_eq_true this] at hi2
          cases hi2
        · obtain ⟨e5, _⟩ := z
          exact q _ (e1.trans (e'.trans (e4.trans e5)))
      · refine et_test (ev_op (ev_var rfl) (ev_var rfl) (rv_bl (rv_snin (e1 _ _ hp')) ?_))
        congr 1
        have e0 : (1 : Int) + (n : Nat) = ((n + 1 : Nat) : Int) := by omega
        rw [e0]
        by_cases m : n + 1 ∈ st
        · rw [decide_eq_true m, decide_eq_true (List.mem_map.mpr ⟨n + 1, m, rfl⟩)]
        · rw [decide_eq_false m, decide_eq_false fun z => ?_]
          obtain ⟨g, hg, eg⟩ := List.mem_map.mp z
          have : g = n + 1 := by omega
          exact m (this ▸ hg)
      · obtain ⟨hn, rfl⟩ := nat_item hx
        exact ev_var rfl
end
end MyT
namespace MyT
open My PySem PySem.Spec PyProof.Rows L2 GL Evl StX SkE
def srt (st : List Nat) : List Nat := st.mergeSort fun a b => decide (a ≤ b)
theorem srt_perm (st : List Nat) : (srt st).Perm st := List.mergeSort_perm _ _
theorem srt_nil : srt [] = [] := List.Perm.eq_nil (srt_perm [])
theorem srt_eq {st : List Nat} {ns : List Int} (h : ns.Perm (st.map fun g : Nat => (g : Int))) (h2 : ns.Pairwise (· ≤ ·)) : ns.map V.int = (srt st).map nV := by
  have hs : ((srt st).map fun g : Nat => (g : Int)).Pairwise (· ≤ ·) := by
    refine List.pairwise_map.mpr ?_
    have q := List.pairwise_mergeSort (le := fun a b : Nat => decide (a ≤ b)) (fun a b c h1 h2 => decide_eq_true (Nat.le_trans (of_decide_eq_true h1) (of_decide_eq_true h2))) (fun a b => by
      rcases Nat.le_total a b with z | z
      · rw [decide_eq_true z, Bool.true_or]
      · rw [decide_eq_true z, Bool.or_true]) st
    exact q.imp fun {a b} z => Int.ofNat_le.mpr (of_decide_eq_true z)
  have e : ns = (srt st).map fun g : Nat => (g : Int) := List.Perm.eq_of_pairwise (le := fun a b : Int => a ≤ b) (fun x y _ _ h1 h2 => Int.le_antisymm h1 h2) h2 hs (h.trans ((srt_perm st).map _).symm)
  rw [e, List.map_map]
  rfl
theorem nat_int (st : List Nat) : (st.map fun g : Nat => (g : Int)).map V.int = st.map nV := by
  rw [List.map_map]
  rfl
def sp_Tinit (K : PySem.W.Frag) (C : Addr) : Sp := fun vs H Q _ => ∃ H0 t dx a b ps st, vs = [.ref t, .ref a, .ref b] ∧ Ex H0 H ∧ H0 t = none ∧ H t = some (.ins C dx []) ∧ Seq K H0 a (ps.map nV) ∧ Seq K H0 b (st.map nV) ∧ Good ps ∧ ps.length ≤ 199 ∧ StOk ps st ∧ st.length < 64 ∧
  ∀ H', Ex H0 H' → TreeNew C H0 H' t ps (srt st) → Q .non H'
def sp_Tway (C : Addr) : Sp := fun vs H Q _ => ∃ t ps st, ∃ g : Nat, vs = [.ref t, nV g] ∧ TreeAt C H t ps st ∧ Good ps ∧ ps.length ≤ 199 ∧ g ≤ ps.length ∧ RetL ((path ps g).map nV) H Q
theorem up_snoc {ps : List Nat} {g c : Nat} (h1 : 1 ≤ c) (h : c ≤ ps.length) : up (ps ++ [g]) c = up ps c := by
  unfold up
  rw [List.getD_eq_getElem?_getD, List.getD_eq_getElem?_getD, List.getElem?_append_left (by omega)]
theorem up_last (ps : List Nat) (g : Nat) : up (ps ++ [g]) (ps.length + 1) = g := by
  unfold up
  rw [Nat.add_sub_cancel, List.getD_eq_getElem?_getD, List.getElem?_append_right (Nat.le_refl _), Nat.sub_self]
  rfl
theorem StOk.snoc {ps st : List Nat} {g : Nat} (ok : StOk ps st) (h : g ∉ st) : StOk (ps ++ [g]) st := by
  refine ⟨ok.nd, fun x hx => ?_, fun c h1 h2 h3 => ?_⟩
  · have := ok.bd x hx
    rw [List.length_append, List.length_singleton]
    omega
  · rw [List.length_append, List.length_singleton] at h2
    by_cases e : c ≤ ps.length
    · rw [up_snoc h1 e] at h3
      exact ok.cl c h1 e h3
    · have e2 : c = ps.length + 1 := by omega
      subst e2
      rw [up_last] at h3
      exact absurd h3 h
theorem el_cat {σ : L2.St} {H : Hp} {ta tb : TE} {xs zs : List V} (ha : EvL ta σ H xs) (hb : ∀ H1, Ex H H1 → EvL tb σ H1 zs) (hl : xs.length + zs.length ≤ 100000) : EvL (tOp rCat ta tb) σ H (xs ++ zs) := fun H1 e Q q =>
  ha H1 e _ fun l H2 hl2 e2 h2 => hb H2 (e.trans e2) H2 (Ex.refl H2) _ fun b H3 hb3 e3 h3 => ⟨l, b, xs, zs, rfl, rfl, e3 _ _ h2, h3, sz_of hl, fun p hp => q p _ (fresh_back (e2.trans e3) hp) ((e2.trans e3).trans (Ex.new hp)) upd_same⟩
theorem ne_of_none' {H : Hp} {a b : Addr} {o : HO} (h : H b = some o) (h' : H a = none) : a ≠ b := fun e => by
  rw [e, h] at h'
  cases h'
theorem el_is {te : TE} {σ : L2.St} {H : Hp} {xs ys : List V} (h : EvL te σ H xs) (e : xs = ys) : EvL te σ H ys := by
  rw [← e]
  exact h
section
variable {P : Program} {w : World} {K : PySem.W.Frag} {mg : Str → Option Value} {base : Heap} {C : Addr} {H : Hp}
theorem sv_group {t : Addr} {ps st : List Nat} {g : Nat} (h : TreeAt C H t ps st) (hl : ps.length ≤ 199) (hg : g ≤ ps.length) : SpV (sp_check_group C) [.ref t, nV g] H .non := fun _ e _ q _ => ⟨t, ps, st, g, rfl, h.ex e, hl, hg, q⟩
theorem sv_parents {a : Addr} {ps : List Nat} (h : Seq K H a (ps.map nV)) (hg : Good ps) (hl : ps.length ≤ 199) : SpV (sp_check_parents K) [.ref a] H .non := fun _ e _ q _ => ⟨a, ps, rfl, h.ex e, hg, hl, q⟩
theorem sv_struck {a b : Addr} {ps st : List Nat} (h : Seq K H a (ps.map nV)) (hb : Seq K H b (st.map nV)) (hl : ps.length ≤ 199) (ok : StOk ps st) : SpV (sp_check_struck K w) [.ref a, .ref b] H .non := fun _ e _ q _ => ⟨a, b, ps, st, rfl, h.ex e, hb.ex e, hl, ok, q⟩
theorem ok_Tinit (T : Txt K mg w) (G_check_parents : FnG P w K mg base CX0 2 T.f_check_parents T.fd_check_parents ["parents"] (MyT.sp_check_parents K)) (G_check_struck : FnG P w K mg base CX0 2 T.f_check_struck T.fd_check_struck ["parents", "struck"] (MyT.sp_check_struck K w)) : FnG P w K mg base CX0 3 T.f_Tinit T.fd_Tinit ["self", "parents", "struck"] (MyT.sp_Tinit K T.C_Tree) := by
  refine okGD T.F_Tinit sc_Tinit (fun vs H Q E h => ?_) (fun cdv A outer s H vs Q E gd hr h => ?_)
  · obtain ⟨_, _, _, _, _, _, _, rfl, _⟩ := h
    all_goals rfl
  · obtain ⟨H0, t, dx, a, b, ps, st, rfl, e0, ht0, ht, ha, hb, hg, hl, ok, h64, q⟩ := h
    refine ⟨_, (pss_cons (ps_expr (pc gd G_check_parents (hr.mono (by decide)) (by rfl) T.m_check_parents T.F_check_parents.kp T.b_check_parents .nil pass0 (pa_cons (pv 1) pa_nil))) (pss_cons (ps_expr (pc gd G_check_struck (hr.mono (by decide)) (by rfl) T.m_check_struck T.F_check_struck.kp T.b_check_struck .nil pass0 (pa_cons (pv 1) (pa_cons (pv 2) pa_nil)))) (pss_cons (ps_fld (pv 0) (pe_lst (pa_cons pe_non (pa_star (pv 1) pa_nil))) rfl) (pss_one (ps_fld (pv 0) (pe_callB call_sortedU (by rfl) T.z_sorted boot_sorted (pa_cons (pv 2) pa_nil)) rfl))))), ?_⟩
    refine q_drop (ev_call (ea_cons (ev_var rfl) ea_nil) (sv_parents (ha.ex e0) hg hl)) fun H1 e1 => ?_
    have x1 := e0.trans e1
    refine q_drop (ev_call (ea_cons (ev_var rfl) (ea_cons (ev_var rfl) ea_nil)) (sv_struck (ha.ex x1) (hb.ex x1) hl ok)) fun H2 e2 => ?_
    have x2 := x1.trans e2
    refine q_fldL (C := T.C_Tree) (fs := []) (dx := dx) (el_lst (ea_cons ev_c (ea_star (ev_var rfl) (ha.ex x2) ea_nil)) ?_) (ev_var rfl) (e2 _ _ (e1 _ _ ht)) T.c_Tree T.n_above (by show 0 < 1000; omega) fun la H3 hla e3 h3 => ?_
    · rw [List.append_nil, List.length_cons, List.length_map]
      omega
    · rw [List.append_nil] at h3
      have x3 : Ex H0 (upd H3 t (.ins T.C_Tree dx (putF "_above" (.ref la) []))) := Ex.mut (x2.trans e3) ht0
      have nla : la ≠ t := ne_of_none' (e2 _ _ (e1 _ _ ht)) hla
      -- self._struck = sorted(struck)
      refine ⟨_, rfl, b, st.map fun g : Nat => (g : Int), rfl, ?_, ?_, fun ns' ls hperm hpw hls => ?_⟩
      · rw [nat_int]
        exact (hb.ex x3).sq
      · rw [List.length_map]
        exact h64
      · rw [srt_eq hperm hpw]
        have nls : t ≠ ls := ne_of_none upd_same hls
        have nls2 : la ≠ ls := ne_of_none (show (upd H3 t _) la = some _ by rw [upd_ne nla]; exact h3) hls
        have hls0 : H0 ls = none := fresh_back x3 hls
        refine ⟨_, rfl, t, T.C_Tree, dx, _, rfl, (by rw [upd_ne nls, upd_same]), T.c_Tree, T.n_struck, (by show 1 < 1000; omega), ?_⟩
        refine q _ (Ex.mut (Ex.mut x3 hls0) ht0) ⟨dx, la, ls, ⟨upd_same, ?_, ?_⟩, ht0, fresh_back x2 hla, hls0⟩
        · rw [upd_ne nla, upd_ne nls2, upd_ne nla]
          exact h3
        · rw [upd_ne nls.symm, upd_same]
theorem ok_Tway (T : Txt K mg w) (G_check_group : FnG P w K mg base CX0 3 T.f_check_group T.fd_check_group ["tree", "value"] (MyT.sp_check_group T.C_Tree)) : FnG P w K mg base CX0 4 T.f_Tway T.fd_Tway ["self", "group"] (MyT.sp_Tway T.C_Tree) := by
  refine okG T.F_Tway sc_Tway (fun vs H Q E h => ?_) (fun cdv A outer s H vs Q E gd hr h => ?_)
  · obtain ⟨_, _, _, _, rfl, _⟩ := h
    all_goals rfl
  · obtain ⟨t, ps, st, g, rfl, ht, hp, hl, hg, q⟩ := h
    refine ⟨_, (pss_cons (ps_expr (pc gd G_check_group (hr.mono (by decide)) (by rfl) T.m_check_group T.F_check_group.kp T.b_check_group .nil pass0 (pa_cons (pv 0) (pa_cons (pv 1) pa_nil)))) (pss_cons (ps_set (i := 2) sc_Tway.nd rfl (Or.inl rfl) (pe_lst (pa_cons (pv 1) pa_nil))) (pss_cons (ps_while PassesOwn.never (pt_cmpR op_gt (pe_ix ix_list (pv 2) (pe_un un_neg pe_int) (fun _ _ => rfl)) pe_int (nomark _)) (pss_one (ps_expr (pe_bm PySem.F.plainAttrs_list PySem.F.slot_list_append PySem.F.type_list_append mt_append (pv 2) (pa_cons (pe_ix ix_list (pe_fld (pv 0) rfl) (pe_ix ix_list (pv 2) (pe_un un_neg pe_int) (fun _ _ => rfl)) (fun _ _ => rfl)) pa_nil))))) (pss_one (ps_ret (pv 2)))))), ?_⟩
    refine q_drop (ev_call (ea_cons (ev_var rfl) (ea_cons (ev_var rfl) ea_nil)) (sv_group ht hl hg)) fun H1 e1 => ?_
    refine q_asgL (xs := [nV g]) (el_lst (ea_cons (ev_var rfl) ea_nil) (by show 1 ≤ 100000; omega)) fun r H2 hr e2 h2 => ?_
    have hr0 : H r = none := fresh_back e1 hr
    have x2 := e1.trans e2
    refine q_while (fun m σ' H' => ∃ pre : List Nat, m ≤ ps.length ∧ σ' = [some (.ref t), some (nV g), some (.ref r)] ∧ Ex H H' ∧ H' r = some (.lst (pre.map nV ++ [nV m])) ∧ pre ++ path ps m = path ps g ∧ pre.length + m ≤ g) g ⟨[], hg, rfl, x2, h2, rfl, by show 0 + g ≤ g; omega⟩ (fun m σ' H' hw => ?_)
    obtain ⟨pre, hm, rfl, x3, h3, ep, el⟩ := hw
    obtain ⟨dx, la, ls, p⟩ := ht.ex x3
    have last : ∀ H1, Ex H' H1 → Ev (tOp (rIxL K) (tVar 2) (tUn (rU fun i => .int (-i)) (tC (.int 1)))) [some (.ref t), some (nV g), some (.ref r)] H1 (nV m) := fun H1 e1 => ev_op (ev_var rfl) (ev_un ev_c ru_neg) (rv_ixL (sq_of (e1 _ _ h3)) (atI_last _ _))
    refine ⟨decide ((0 : Int) < (m : Int)), et_test (ev_op (last _ (Ex.refl _)) ev_c rv_I0), fun hb H1 e1 => ?_, fun hb H1 e1 => ?_⟩
    · have h0 : 0 < m := by have := of_decide_eq_true hb; omega
      have hu := up_lt hp h0 hm
      refine ⟨fun σ2 H2 => σ2 = [some (.ref t), some (nV g), some (.ref r)] ∧ Ex H H2 ∧ H2 r = some (.lst ((pre ++ [m]).map nV ++ [nV (up ps m)])), fun σ2 H2 z => ⟨up ps m, hu, pre ++ [m], by omega, z.1, z.2.1, z.2.2, ?_, ?_⟩, ?_⟩
      · rw [List.append_assoc, ← ep, path_step hp h0 hm]
        rfl
      · rw [List.length_append, List.length_singleton]
        omega
      · refine s_app (e1 _ _ h3) (ev_var rfl) (ev_op (ev_fld (ev_var rfl) (e1 _ _ p.ob) T.c_Tree T.n_above (tf_above la ls)) (last H1 e1) (rv_ixL (sq_of (e1 _ _ p.ab)) (atI_nat (ups_at h0 hm)))) ?_ fun H2 e2 => ⟨rfl, Ex.mut (x3.trans (e1.trans e2)) hr0, ?_⟩
        · rw [List.length_append, List.length_map, List.length_singleton]
          omega
        · rw [upd_same, List.map_append]
          rfl
    · have h0 : m = 0 := by have := of_decide_eq_false hb; omega
      subst h0
      refine s_ret (ev_var rfl) fun H2 e2 => q r H2 hr0 (x3.trans (e1.trans e2)) ?_
      rw [(e1.trans e2) _ _ h3, ← ep, path_zero, List.map_append]
      rfl
end
end MyT
namespace MyT
open My PySem PySem.Spec PyProof.Rows L2 GL Evl StX SkE
/-! ### the law's draws -/
/-- all but what stands at a is as it was -/
def ExB (a : Addr) (H H' : Hp) : Prop := ∀ b o, b ≠ a → H b = some o → H' b = some o
theorem ExB.of {a : Addr} {H H' : Hp} (e : Ex H H') : ExB a H H' := fun b o _ h => e b o h
theorem ExB.refl (a : Addr) (H : Hp) : ExB a H H := fun _ _ _ h => h
theorem ExB.trans {a : Addr} {H H1 H2 : Hp} (x : ExB a H H1) (y : ExB a H1 H2) : ExB a H H2 := fun b o n h => y b o n (x b o n h)
theorem ExB.set {a : Addr} {H : Hp} {o : HO} : ExB a H (upd H a o) := fun b u n h => by
  rw [upd_ne n]
  exact h
/-- what was made behind H may change as well -/
theorem ExB.mut {a b : Addr} {H H' : Hp} {o : HO} (e : ExB a H H') (h : H b = none) : ExB a H (upd H' b o) := fun c u n hc => by
  rw [upd_ne (ne_of_none hc h)]
  exact e c u n hc
theorem ExB.free {a : Addr} {H H' : Hp} {p : Addr} {o : HO} (e : ExB a H H') (ha : H' a = some o) (h : H' p = none) : H p = none := by
  cases q : H p with
  | none => rfl
  | some u =>
    have n : p ≠ a := fun z => by rw [z, ha] at h; cases h
    rw [e p u n q] at h
    cases h
/-- the pot was made behind H: nothing of H has changed -/
theorem ExB.all {a : Addr} {H0 H H' : Hp} (e0 : Ex H0 H) (h : H0 a = none) (e : ExB a H H') : Ex H0 H' := fun b o hb => e b o (ne_of_none hb h) (e0 b o hb)
def PotAt (H : Hp) (a : Addr) : Prop := ∃ x y : Int, H a = some (.lst [.int x, .int y]) ∧ 0 ≤ x ∧ 0 ≤ y ∧ y < 2147483600
theorem PotAt.ex {H H' : Hp} {a : Addr} (h : PotAt H a) (e : Ex H H') : PotAt H' a := by
  obtain ⟨x, y, h1, h2⟩ := h
  exact ⟨x, y, e _ _ h1, h2⟩
theorem PotAt.exB {H H' : Hp} {a b : Addr} (h : PotAt H a) (e : ExB b H H') (n : a ≠ b) : PotAt H' a := by
  obtain ⟨x, y, h1, h2⟩ := h
  exact ⟨x, y, e _ _ n h1, h2⟩
def sp_Lpot (K : PySem.W.Frag) : Sp := fun vs H Q _ => ∃ (a : Addr) (ns : List Int) (k : Nat), vs = [.ref a, .int (k : Int)] ∧ SqL K H a (ns.map V.int) ∧ ns.length ≤ 63 ∧ k < 3 ∧ ∀ H' p, H p = none → Ex H H' → PotAt H' p → Q (.ref p) H'
def sp_Ldraw : Sp := fun vs H Q _ => ∃ a, ∃ n : Nat, vs = [.ref a, nV n] ∧ PotAt H a ∧ 1 ≤ n ∧ n ≤ 1000 ∧ ∀ H' (d : Nat), ExB a H H' → PotAt H' a → d < n → Q (nV d) H'
def sp_Lups : Sp := fun vs H Q _ => ∃ a, ∃ n : Nat, vs = [.ref a, nV n] ∧ PotAt H a ∧ n ≤ 100 ∧ ∀ H' p ps, H p = none → ExB a H H' → PotAt H' a → H' p = some (.lst (upsV ps)) → Good ps → ps.length ≤ n → Q (.ref p) H'
def sp_Lpath (K : PySem.W.Frag) : Sp := fun vs H Q _ => ∃ u ps, ∃ g : Nat, vs = [.ref u, nV g] ∧ SqL K H u (upsV ps) ∧ Good ps ∧ ps.length ≤ 199 ∧ g ≤ ps.length ∧ RetL ((path ps g).map nV) H Q
theorem rv_notN {x : V} {H : Hp} {b : Bool} (h : (!decide (x = V.non)) = b) : RV (fun x y H Q => y = V.non ∧ Q (.bl (!decide (x = .non))) H) x .non H (.bl b) := fun H1 _ _ q => ⟨rfl, by rw [h]; exact q H1 (Ex.refl H1)⟩
section
variable {P : Program} {w : World} {K : PySem.W.Frag} {mg : Str → Option Value} {base : Heap} {C : Addr} {H : Hp}
theorem sl_path {u : Addr} {ps : List Nat} {g : Nat} (h : SqL K H u (upsV ps)) (hp : Good ps) (hl : ps.length ≤ 199) (hg : g ≤ ps.length) : SpL (sp_Lpath K) [.ref u, nV g] H ((path ps g).map nV) := fun _ e _ q _ => ⟨u, ps, g, rfl, ex_l e h, hp, hl, hg, fun p H2 hp e2 h2 => q p H2 hp e2 h2⟩
theorem ok_Lpath (T : Txt K mg w)  : FnG P w K mg base CX0 1 T.f_Lpath T.fd_Lpath ["_law_ups_here", "_law_spot"] (MyT.sp_Lpath K) := by
  refine okG T.F_Lpath sc_Lpath (fun vs H Q E h => ?_) (fun cdv A outer s H vs Q E gd hr h => ?_)
  · obtain ⟨_, _, _, rfl, _⟩ := h
    all_goals rfl
  · obtain ⟨u, ps, g, rfl, hu, hp, hl, hg, q⟩ := h
    refine ⟨_, (pss_cons (ps_set (i := 2) sc_Lpath.nd rfl (Or.inl rfl) (pe_lst pa_nil)) (pss_cons (ps_while PassesOwn.never (pt_cmpR op_notN (pv 1) pe_non (nomark _)) (pss_cons (ps_expr (pe_bm PySem.F.plainAttrs_list PySem.F.slot_list_append PySem.F.type_list_append mt_append (pv 2) (pa_cons (pv 1) pa_nil))) (pss_one (ps_set (i := 1) sc_Lpath.nd rfl (Or.inl rfl) (pe_ix ix_list (pv 0) (pv 1) (fun _ _ => rfl)))))) (pss_one (ps_ret (pv 2))))), ?_⟩
    refine q_asgL (xs := []) (el_lst ea_nil (Nat.zero_le _)) fun r H2 hr e2 h2 => ?_
    -- turns: pre is found, then either the way of spot is left, or nothing
    refine q_while (fun m σ' H' => ∃ pre : List Nat, Ex H H' ∧ H' r = some (.lst (pre.map nV)) ∧ pre.length ≤ 200 ∧ ((m = 0 ∧ σ' = [some (.ref u), some .non, some (.ref r)] ∧ pre = path ps g) ∨ (∃ s, m = s + 1 ∧ s ≤ ps.length ∧ σ' = [some (.ref u), some (nV s), some (.ref r)] ∧ pre ++ path ps s = path ps g ∧ pre.length + s ≤ g))) (g + 1) ⟨[], e2, h2, Nat.zero_le _, .inr ⟨g, rfl, hg, rfl, rfl, by show 0 + g ≤ g; omega⟩⟩ (fun m σ' H' hw => ?_)
    obtain ⟨pre, x3, h3, hpl, (⟨rfl, rfl, ep⟩ | ⟨s0, rfl, hs, rfl, ep, el⟩)⟩ := hw
    · refine ⟨false, et_test (ev_op (ev_var rfl) ev_c (rv_notN rfl)), (fun z => nomatch z), fun _ H1 e1 => ?_⟩
      refine s_ret (ev_var rfl) fun H4 e4 => q r H4 hr (x3.trans (e1.trans e4)) ?_
      rw [(e1.trans e4) _ _ h3, ep]
    · refine ⟨true, et_test (ev_op (ev_var rfl) ev_c (rv_notN rfl)), fun _ H1 e1 => ?_, fun z => nomatch z⟩
      have hu1 : SqL K H1 u (upsV ps) := ex_l (x3.trans e1) hu
      refine ⟨fun σ2 H2 => ∃ v : V, σ2 = [some (.ref u), some v, some (.ref r)] ∧ Ex H H2 ∧ H2 r = some (.lst ((pre ++ [s0]).map nV)) ∧ (upsV ps)[s0]? = some v, fun σ2 H2 z => ?_, ?_⟩
      · obtain ⟨v, rfl, x4, h4, hv⟩ := z
        by_cases e0 : s0 = 0
        · subst e0
          have ev : v = .non := (Option.some.inj hv).symm
          subst ev
          exact ⟨0, by omega, pre ++ [0], x4, h4, by rw [List.length_append, List.length_singleton]; omega, .inl ⟨rfl, rfl, ep⟩⟩
        · have hu0 := up_lt hp (by omega) hs
          have ev : v = nV (up ps s0) := Option.some.inj (hv.symm.trans (ups_at (by omega) hs))
          subst ev
          refine ⟨up ps s0 + 1, by omega, pre ++ [s0], x4, h4, by rw [List.length_append, List.length_singleton]; omega, .inr ⟨up ps s0, rfl, by omega, rfl, ?_, by rw [List.length_append, List.length_singleton]; omega⟩⟩
          rw [List.append_assoc, ← ep, path_step hp (by omega) hs]
          rfl
      · have hlt : s0 < (upsV ps).length := by rw [upsV_len]; omega
        refine q_app (e1 _ _ h3) (ev_var rfl) (ev_var rfl) (by rw [List.length_map]; omega) fun H4 e4 => ?_
        have x5 : Ex H (upd H4 r (.lst (pre.map nV ++ [nV s0]))) := Ex.mut (x3.trans (e1.trans e4)) hr
        refine s_asg (ev_op (ev_var rfl) (ev_var rfl) (rv_ixL (ex_l x5 hu) (atI_nat (List.getElem?_eq_getElem hlt)))) fun H6 e6 => ⟨_, rfl, x5.trans e6, ?_, List.getElem?_eq_getElem hlt⟩
        rw [e6 _ _ upd_same, List.map_append]
        rfl
theorem ev_raw {te : TE} {σ : L2.St} {v : V} {Q : VK} (h : Ev te σ H v) (k : ∀ H1, Ex H H1 → Q v H1) : te σ H Q := h H (Ex.refl H) Q k
theorem cb_raw {r : List V → Hp → VK → Prop} {ta : TA} {σ : L2.St} {vs : List V} {Q : VK} (h : EvA ta σ H vs) (k : ∀ H1, Ex H H1 → r vs H1 Q) : tCB r ta σ H Q := h H (Ex.refl H) _ k
theorem q_asgR {te : TE} {g : TG} {tz : TS} {D : Ends} {σ : L2.St} (h : te σ H fun x H1 => g x σ H1 (tz D)) : tSeq (tAsg te g) tz D σ H := h
theorem no_pylong {x : Int} {n : Nat} (h : n ≤ 1000) : Builtin.divisionGoesByPylong x (n : Int) = false := by
  have hl : n.log2 < 10 := by
    by_cases e : n = 0
    · subst e
      decide
    · exact (Nat.log2_lt e).mpr (by omega)
  have hd : ¬ ((if ((n : Int) == 0) = true then 0 else (n : Int).natAbs.log2 / 30 + 1) > 300) := by
    rw [Int.natAbs_natCast]
    split <;> omega
  show (decide ((if ((n : Int) == 0) = true then 0 else (n : Int).natAbs.log2 / 30 + 1) > 300) && _) = false
  rw [decide_eq_false hd, Bool.false_and]
theorem rc_lenL {a : Addr} {xs : List V} (h : SqL K H a xs) : RC (rLenS K) [.ref a] H (.int (xs.length : Int)) := fun H1 e Q q => ⟨a, xs, rfl, .inl (ex_l e h), q H1 (Ex.refl H1)⟩
theorem rc_max2 {i j : Int} : RC rMax2 [.int i, .int j] H (.int (if j > i then j else i)) := fun H1 _ Q q => ⟨i, j, rfl, q H1 (Ex.refl H1)⟩
theorem rc_int {i : Int} : RC (fun xs H Q => (∃ i, xs = [V.int i] ∧ Q (.int i) H) ∨ ∃ k, xs = [V.bl k] ∧ Q (.int (if k then 1 else 0)) H) [.int i] H (.int i) := fun H1 _ Q q => .inl ⟨i, rfl, q H1 (Ex.refl H1)⟩
theorem rc_abs {i : Int} : RC (fun xs H Q => ∃ i, xs = [V.int i] ∧ Q (.int (if i < 0 then -i else i)) H) [.int i] H (.int (if i < 0 then -i else i)) := fun H1 _ Q q => ⟨i, rfl, q H1 (Ex.refl H1)⟩
theorem ok_Ldraw (T : Txt K mg w)  : FnG P w K mg base CX0 1 T.f_Ldraw T.fd_Ldraw ["_law_pot_here", "_law_sides"] MyT.sp_Ldraw := by
  refine okG T.F_Ldraw sc_Ldraw (fun vs H Q E h => ?_) (fun cdv A outer s H vs Q E gd hr h => ?_)
  · obtain ⟨_, _, rfl, _⟩ := h
    all_goals rfl
  · obtain ⟨a, n, rfl, ⟨x, y, hx, hx0, hy0, hy1⟩, hn, hn2, q⟩ := h
    refine ⟨_, (pss_cons (ps_if (pt_cmpR op_gt (pe_ix ix_list (pv 0) pe_int (fun _ _ => rfl)) pe_int (nomark _)) (pss_cons (ps_asg (pe_callB call_divmodW (by rfl) T.z_divmod boot_divmod (pa_cons (pe_ix ix_list (pv 0) pe_int (fun _ _ => rfl)) (pa_cons (pv 1) pa_nil))) (pg_tup rfl (pgs_cons (pg_sub (pv 0) pe_int set_list) (pgs_cons (pg_name (i := 2) sc_Ldraw.nd rfl (Or.inl rfl) (Or.inr rfl)) pgs_nil)))) (pss_one (ps_ret (pv 2)))) pss_nil) (pss_cons (ps_asg (pe_op op_mod (pe_callTy call_int1 (by rfl) T.z_int (by decide +kernel) (pa_cons (pe_op op_add (pe_op op_mul (pe_ix ix_list (pv 0) pe_int (fun _ _ => rfl)) pe_int) pe_int) pa_nil)) pe_int) (pg_sub (pv 0) pe_int set_list)) (pss_one (ps_ret (pe_op op_mod (pe_callTy call_int1 (by rfl) T.z_int (by decide +kernel) (pa_cons (pe_op op_fdiv (pe_op op_mod (pe_callTy call_int1 (by rfl) T.z_int (by decide +kernel) (pa_cons (pe_op op_mul (pe_ix ix_list (pv 0) pe_int (fun _ _ => rfl)) (pe_ix ix_list (pv 0) pe_int (fun _ _ => rfl))) pa_nil)) pe_int) pe_int) pa_nil)) (pv 1)))))), ?_⟩
    have at0 : ∀ H1, H1 a = some (.lst [.int x, .int y]) → Ev (tOp (rIxL K) (tVar 0) (tC (.int 0))) [some (.ref a), some (nV n), none] H1 (.int x) := fun H1 h => ev_op (ev_var rfl) ev_c (rv_ixL (sq_of h) (atI_nat (j := 0) rfl))
    refine q_when (et_test (ev_op (at0 _ hx) ev_c rv_I0)) (fun hb H1 e1 => ?_) fun hb H1 e1 => ?_
    · refine q_asgR (cb_raw (ea_cons (at0 _ (e1 _ _ hx)) (ea_cons (ev_var rfl) ea_nil)) fun H2 e2 => ⟨x, n, rfl, ⟨by omega, no_pylong hn2⟩, fun p hp => ?_⟩)
      have hx2 := e2 _ _ (e1 _ _ hx)
      have nap : a ≠ p := ne_of_none hx2 hp
      have hx3 : (upd H2 p (.tup [.int (x / n), .int (x % n)])) a = some (.lst [.int x, .int y]) := by
        rw [upd_ne nap]
        exact hx2
      refine ⟨p, _, rfl, st_of upd_same, rfl, _, _, rfl, _, rfl, a, _, 0, 0, rfl, rfl, hx3, rfl, _, _, rfl, rfl, ?_⟩
      have hlo := Int.emod_nonneg x (show (n : Int) ≠ 0 by omega)
      have hhi := Int.emod_lt_of_pos x (show (0 : Int) < n by omega)
      have hq := Int.ediv_nonneg hx0 (show (0 : Int) ≤ n by omega)
      refine s_ret (v := nV (x % n).toNat) (ev_is (ev_var rfl) (by show V.int _ = V.int _; congr 1; omega)) fun H4 e4 => q H4 _ ?_ ?_ (by omega)
      · exact (((ExB.of (e1.trans e2)).trans (ExB.of (Ex.new hp))).trans ExB.set).trans (ExB.of e4)
      · exact ⟨_, _, e4 _ _ upd_same, hq, hy0, hy1⟩
    · have at1 : ∀ H1 z, H1 a = some (.lst [.int x, .int z]) → Ev (tOp (rIxL K) (tVar 0) (tC (.int 1))) [some (.ref a), some (nV n), none] H1 (.int z) := fun H1 z h => ev_op (ev_var rfl) ev_c (rv_ixL (sq_of h) (atI_nat (j := 1) rfl))
      have h1 := e1 _ _ hx
      refine q_asgR (ev_raw (ev_op (ev_cb (ea_cons (ev_op (ev_op (at1 H1 y h1) ev_c (rv_I (.inl ⟨by omega, by omega⟩))) ev_c rv_I0) ea_nil) rc_int) ev_c (rv_I (by show (0 : Int) < 2147483549; omega))) fun H2 e2 => ?_)
      refine ⟨_, rfl, a, _, 1, 1, rfl, rfl, e2 _ _ h1, rfl, ?_⟩
      have b0 := Int.emod_nonneg (y * 40009 + 17011) (show (2147483549 : Int) ≠ 0 by omega)
      have b1 := Int.emod_lt_of_pos (y * 40009 + 17011) (show (0 : Int) < 2147483549 by omega)
      generalize (y * 40009 + 17011) % 2147483549 = z at b0 b1
      have h3 : (upd H2 a (.lst [.int x, .int z])) a = some (.lst [.int x, .int z]) := upd_same
      have x3 : ExB a H (upd H2 a (.lst [.int x, .int z])) := (ExB.of (e1.trans e2)).trans ExB.set
      show tRet _ _ _ _
      refine s_ret (v := nV ((z * z % 2147483587 / 11) % n).toNat) (ev_is (ev_op (ev_cb (ea_cons (ev_op (ev_op (ev_cb (ea_cons (ev_op (at1 _ z h3) (at1 _ z h3) (rv_I (.inl ⟨by omega, by omega⟩))) ea_nil) rc_int) ev_c (rv_I (by show (0 : Int) < 2147483587; omega))) ev_c (rv_I ⟨by decide, by decide⟩)) ea_nil) rc_int) (ev_var rfl) (rv_I (by show (0 : Int) < n; omega))) ?_) fun H4 e4 => q H4 _ (x3.trans (ExB.of e4)) ⟨x, z, e4 _ _ h3, hx0, b0, by omega⟩ ?_
      · have := Int.emod_nonneg (z * z % 2147483587 / 11) (show (n : Int) ≠ 0 by omega)
        show V.int _ = V.int _
        congr 1
        omega
      · have := Int.emod_lt_of_pos (z * z % 2147483587 / 11) (show (0 : Int) < n by omega)
        have := Int.emod_nonneg (z * z % 2147483587 / 11) (show (n : Int) ≠ 0 by omega)
        omega
theorem ok_Lpot (T : Txt K mg w)  : FnG P w K mg base CX0 1 T.f_Lpot T.fd_Lpot ["_law_script", "_law_k"] (MyT.sp_Lpot K) := by
  refine okG T.F_Lpot sc_Lpot (fun vs H Q E h => ?_) (fun cdv A outer s H vs Q E gd hr h => ?_)
  · obtain ⟨_, _, _, rfl, _⟩ := h
    all_goals rfl
  · obtain ⟨a, ns, k, rfl, hs, hl, hk, q⟩ := h
    refine ⟨_, (pss_cons (ps_set (i := 2) sc_Lpot.nd rfl (Or.inl rfl) (pe_op op_add (pe_op op_mul pe_int (pv 1)) pe_int)) (Evl.pss_cut (ps_if (pt_cmpR op_lt (pv 1) (pe_callB call_len_seq (by rfl) T.z_len PySem.boot_len (pa_cons (pv 0) pa_nil)) (nomark _)) (pss_one (ps_set (i := 2) sc_Lpot.nd rfl (Or.inl rfl) (pe_callB call_abs (by rfl) T.z_abs boot_abs (pa_cons (pe_ix ix_list (pv 0) (pv 1) (fun _ _ => rfl)) pa_nil)))) pss_nil) (pss_one (ps_ret (pe_lst (pa_cons (pe_callB (call_max2 rfl) (by rfl) T.z_max boot_max (pa_cons pe_int (pa_cons (pe_op op_sub (pv 2) (pe_op op_pow pe_int pe_int)) pa_nil))) (pa_cons (pe_op op_add (pe_op op_mod (pe_op op_mul (pe_callTy call_int1 (by rfl) T.z_int (by decide +kernel) (pa_cons (pe_op op_add (pe_op op_mod (pe_callTy call_int1 (by rfl) T.z_int (by decide +kernel) (pa_cons (pv 2) pa_nil)) pe_int) pe_int) pa_nil)) (pe_op op_pow (pe_op op_add (pe_op op_mul pe_int (pv 1)) pe_int) pe_int)) pe_int) pe_int) pa_nil))))))), ?_⟩
    refine q_asg (ev_op (ev_op ev_c (ev_var rfl) (rv_I (.inl ⟨by omega, by omega⟩))) ev_c rv_I0) fun H1 e1 => ?_
    refine q_cut (M := fun σ' H' => Ex H H' ∧ ∃ c : Int, 0 ≤ c ∧ σ' = [some (.ref a), some (.int (k : Int)), some (.int c)]) ?_ fun σ' H' z => ?_
    · refine s_when (et_test (ev_op (ev_var rfl) (ev_cb (ea_cons (ev_var rfl) ea_nil) (rc_lenL (ex_l e1 hs))) rv_I0)) (fun hb H2 e2 => ?_) fun hb H2 e2 => ⟨e1.trans e2, _, ?_, rfl⟩
      · have hlt : k < ns.length := by
          have := of_decide_eq_true hb
          rw [List.length_map] at this
          omega
        refine s_asg (ev_cb (ea_cons (ev_op (ev_var rfl) (ev_var rfl) (rv_ixL (ex_l (e1.trans e2) hs) (atI_nat (v := .int ns[k]) (by rw [List.getElem?_map, List.getElem?_eq_getElem hlt]; rfl)))) ea_nil) rc_abs) fun H3 e3 => ⟨e1.trans (e2.trans e3), _, ?_, rfl⟩
        split <;> omega
      · omega
    · obtain ⟨x2, c, hc, rfl⟩ := z
      have m0 := Int.emod_nonneg c (show (2147483543 : Int) ≠ 0 by omega)
      have m1 := Int.emod_lt_of_pos c (show (0 : Int) < 2147483543 by omega)
      refine s_retL (xs := [.int (if c - 10 ^ (18 : Int).toNat > 0 then c - 10 ^ (18 : Int).toNat else 0), .int ((c % 2147483543 + 7) * (2 * (k : Int) + 3) ^ (3 : Int).toNat % 2147483489 + 1)])
        (el_lst (ea_cons (ev_cb (ea_cons ev_c (ea_cons (ev_op (ev_var rfl) (ev_op ev_c ev_c (rv_I ⟨by decide, by decide, by decide⟩)) rv_I0) ea_nil)) rc_max2) (ea_cons (ev_op (ev_op (ev_op (ev_cb (ea_cons (ev_op (ev_op (ev_cb (ea_cons (ev_var rfl) ea_nil) rc_int) ev_c (rv_I (by show (0 : Int) < 2147483543; omega))) ev_c rv_I0) ea_nil) rc_int)
          (ev_op (ev_op (ev_op ev_c (ev_var rfl) (rv_I (.inl ⟨by omega, by omega⟩))) ev_c rv_I0) ev_c (rv_I ⟨by decide, by decide, by omega⟩)) (rv_I (.inl ⟨by omega, by omega⟩))) ev_c (rv_I (by show (0 : Int) < 2147483489; omega))) ev_c rv_I0) ea_nil)) (by show 2 ≤ 100000; omega)) fun p H3 hp e3 h3 => q H3 p (fresh_back x2 hp) (x2.trans e3) ⟨_, _, h3, ?_, ?_, ?_⟩
      · split <;> omega
      · have := Int.emod_nonneg ((c % 2147483543 + 7) * (2 * (k : Int) + 3) ^ (3 : Int).toNat) (show (2147483489 : Int) ≠ 0 by omega)
        omega
      · have := Int.emod_lt_of_pos ((c % 2147483543 + 7) * (2 * (k : Int) + 3) ^ (3 : Int).toNat) (show (0 : Int) < 2147483489 by omega)
        omega
end
end MyT
namespace MyT
open My PySem PySem.Spec PyProof.Rows L2 GL Evl StX SkE
theorem upsV_snoc (ps : List Nat) (d : Nat) : upsV ps ++ [nV d] = upsV (ps ++ [d]) := by
  unfold upsV
  rw [List.map_append, List.cons_append]
  rfl
section
variable {P : Program} {w : World} {K : PySem.W.Frag} {mg : Str → Option Value} {base : Heap} {C : Addr} {H : Hp}
/-- a draw -/
theorem dr {t : TA} {σ : L2.St} {Er : XK} {Q : VK} {a : Addr} {n : Nat} (h : EvA t σ H [.ref a, nV n]) (p : PotAt H a) (h1 : 1 ≤ n) (h2 : n ≤ 1000) (k : ∀ H' (d : Nat), ExB a H H' → PotAt H' a → d < n → Q (nV d) H') : tCall sp_Ldraw [] Er t σ H Q :=
  h H (Ex.refl H) _ fun H1 e1 => ⟨a, n, rfl, p.ex e1, h1, h2, fun H' d x p' hd => k H' d ((ExB.of e1).trans x) p' hd⟩
theorem app_raw {to te : TE} {σ : L2.St} {Q : VK} {l : Addr} (h : Ev to σ H (.ref l)) {xs : List V} (hl : H l = some (.lst xs)) (k : ∀ H1, Ex H H1 → te σ H1 fun v H2 => rAppend (.ref l) [v] H2 Q) : tBM K "list" rAppend to (tCons te tNil) σ H Q :=
  h H (Ex.refl H) _ fun H1 e1 => ⟨Or.inl ⟨rfl, xs, sq_of (e1 l _ hl)⟩, k H1 e1⟩
theorem ok_Lups (T : Txt K mg w) (G_Ldraw : FnG P w K mg base CX0 1 T.f_Ldraw T.fd_Ldraw ["_law_pot_here", "_law_sides"] MyT.sp_Ldraw) : FnG P w K mg base CX0 2 T.f_Lups T.fd_Lups ["_law_pot_here", "_law_most"] MyT.sp_Lups := by
  refine okG T.F_Lups sc_Lups (fun vs H Q E h => ?_) (fun cdv A outer s H vs Q E gd hr h => ?_)
  · obtain ⟨_, _, rfl, _⟩ := h
    all_goals rfl
  · obtain ⟨a, n, rfl, hp, hn, q⟩ := h
    refine ⟨_, (pss_cons (ps_set (i := 2) sc_Lups.nd rfl (Or.inl rfl) (pe_lst (pa_cons pe_non pa_nil))) (pss_cons (ps_for PassesOwn.never rfl (pi_range1 (by rfl) T.z_range (pa_cons (pc gd G_Ldraw (hr.mono (by decide)) (by rfl) T.m_Ldraw T.F_Ldraw.kp T.b_Ldraw .nil pass0 (pa_cons (pv 0) (pa_cons (pe_op op_add (pv 1) pe_int) pa_nil))) pa_nil)) (pg_name (i := 3) sc_Lups.nd rfl (Or.inl rfl) (Or.inr rfl)) (pss_one (ps_expr (pe_bm PySem.F.plainAttrs_list PySem.F.slot_list_append PySem.F.type_list_append mt_append (pv 2) (pa_cons (pc gd G_Ldraw (hr.mono (by decide)) (by rfl) T.m_Ldraw T.F_Ldraw.kp T.b_Ldraw .nil pass0 (pa_cons (pv 0) (pa_cons (pe_callB call_len_seq (by rfl) T.z_len PySem.boot_len (pa_cons (pv 2) pa_nil)) pa_nil))) pa_nil))))) (pss_one (ps_ret (pv 2))))), ?_⟩
    refine q_asgL (xs := [.non]) (el_lst (ea_cons ev_c ea_nil) (by show 1 ≤ 100000; omega)) fun r H2 hr e2 h2 => ?_
    have nar : r ≠ a := by
      obtain ⟨x, y, hx, _⟩ := hp
      exact ne_of_none' hx hr
    refine dr (n := n + 1) (ea_cons (ev_var rfl) (ea_cons (ev_is (ev_op (ev_var rfl) ev_c rv_I0) rfl) ea_nil)) (hp.ex e2) (by omega) (by omega) fun H3 d x3 p3 hd => ⟨d, rfl, by omega, by omega, ?_⟩
    refine for_range (lo := 0) (n := (d : Int).toNat) (fun i σ' H' => ∃ ps y, σ' = [some (.ref a), some (nV n), some (.ref r), y] ∧ ExB a H H' ∧ PotAt H' a ∧ H' r = some (.lst (upsV ps)) ∧ Good ps ∧ ps.length = i) ⟨[], _, rfl, (ExB.of e2).trans x3, p3, x3 _ _ nar h2, Good.nil, rfl⟩ (fun i σ' H' hi z => ?_) (fun σ' H' z => ?_)
    · obtain ⟨ps, y, rfl, x4, p4, h4, g4, rfl⟩ := z
      refine app_raw (l := r) (ev_var rfl) h4 fun H5 e5 => ?_
      refine dr (n := ps.length + 1) (ea_cons (ev_var rfl) (ea_cons (ev_is (ev_cb (ea_cons (ev_var rfl) ea_nil) (rc_len (Seq.lst (e5 _ _ h4)))) (by rw [upsV_len])) ea_nil)) (p4.ex e5) (by omega) (by omega) fun H6 d6 x6 p6 hd6 => ⟨r, _, _, rfl, rfl, x6 _ _ nar (e5 _ _ h4), sz_lt (by rw [upsV_len]; omega), ?_⟩
      refine ⟨ps ++ [d6], _, rfl, ?_, ?_, ?_, g4.snoc (by omega), by rw [List.length_append, List.length_singleton]⟩
      · exact ((x4.trans (ExB.of e5)).trans x6).mut hr
      · obtain ⟨x, y, hx, hh⟩ := p6
        exact ⟨x, y, by rw [upd_ne nar.symm]; exact hx, hh⟩
      · rw [upd_same, upsV_snoc]
    · obtain ⟨ps, y, rfl, x4, p4, h4, g4, hl⟩ := z
      exact s_ret (ev_var rfl) fun H5 e5 => q H5 r ps hr (x4.trans (ExB.of e5)) (p4.ex e5) (e5 _ _ h4) g4 (by omega)
theorem el_rg1 {te : TE} {σ : L2.St} {n : Nat} (h : Ev te σ H (nV n)) (hn : n ≤ 1000) : EvL (tLstRg (tRg1 te)) σ H ((List.range n).map nV) := fun H1 e Q q => h H1 e _ fun H2 e2 => ⟨n, rfl, RgOk.of_le (by omega) (by omega) (by omega) (by omega), fun p hp => q p _ (fresh_back e2 hp) (e2.trans (Ex.new hp)) (by
  rw [upd_same]
  unfold rgV
  rw [show ((n : Int) - 0).toNat = n by omega]
  congr 2
  refine List.map_congr_left fun i _ => ?_
  show V.int _ = V.int _
  congr 1
  omega)⟩
end
end MyT
namespace MyT
open My PySem PySem.Spec PyProof.Rows L2 GL Evl StX SkE
/-! ### what repr shows of a flat list -/
def fd : V → PyData
  | .int i => .int i
  | .str x => .str x
  | .bl b => .bool b
  | _ => .none
theorem fd_dp {K : PySem.W.Frag} {H : Hp} : ∀ {x : V}, flatV x = true → Dp K H x (fd x)
  | .non, _ => .non
  | .bl b, _ => .bl b
  | .int i, _ => .int i
  | .str x, _ => .str x
  | .byt _, h => by cases h
  | .flt _, h => by cases h
  | .ref _, h => by cases h
  | .ty _, h => by cases h
theorem fd_all {K : PySem.W.Frag} {H : Hp} : ∀ {xs : List V}, xs.all flatV = true → DpAll K H xs (xs.map fd)
  | [], _ => .nil
  | x :: xs, h => by
    rw [List.all_cons, Bool.and_eq_true] at h
    exact .cons (fd_dp h.1) (fd_all h.2)
/-- a short value: shown by at most 40 signs -/
def Shrt (x : V) : Prop := flatV x = true ∧ (fd x).showable = true ∧ (fd x).hasDict = false ∧ (fd x).depth ≤ 0 ∧ (fd x).shown.length ≤ 40
theorem depthAll_of : ∀ {ds : List PyData} {k : Nat}, (∀ d ∈ ds, d.depth ≤ k) → PyData.depthAll ds ≤ k
  | [], _, _ => by
    simp only [PyData.depthAll]
    omega
  | d :: ds, k, h => by
    simp only [PyData.depthAll]
    have h1 := h d List.mem_cons_self
    have h2 := depthAll_of (ds := ds) (k := k) fun e he => h e (List.mem_cons_of_mem _ he)
    omega
end MyT
namespace MyT
open My PySem PySem.Spec PyProof.Rows L2 GL Evl StX SkE
theorem roomU {k : Nat} {A : Around} (h : Room k A) : A.units + 64 < cLine := by
  have := h.un
  omega
theorem given_all (n : Nat) (v : Nat → V) : given n (fun _ => true) v = (List.range n).map v := by
  unfold given
  rw [List.filter_eq_self.mpr (fun _ _ => rfl)]
theorem canLay_nats : ∀ l : List Nat, PyData.canLayAll0 ((l.map nV).map fd) = true
  | [] => by simp only [List.map_nil, PyData.canLayAll0]
  | n :: l => by
    have ih := canLay_nats l
    simp only [List.map_cons, PyData.canLayAll0, Bool.and_eq_true]
    exact ⟨by show (PyData.int (n : Int)).canLay0 = true; simp only [PyData.canLay0], ih⟩
theorem depth_nats : ∀ l : List Nat, PyData.depthAll ((l.map nV).map fd) ≤ 0 := fun l => depthAll_of fun d hd => by
  obtain ⟨x, hx, rfl⟩ := List.mem_map.mp hd
  obtain ⟨n, _, rfl⟩ := List.mem_map.mp hx
  show (PyData.int (n : Int)).depth ≤ 0
  simp only [PyData.depth]
  omega
theorem shaped_nats (l : List Nat) : SeqAt.shaped (.list ((l.map nV).map fd)) = true := by
  have h1 := canLay_nats l
  have h2 := depth_nats l
  show (PyData.canLay0 (.list ((l.map nV).map fd)) && decide (PyData.depth (.list ((l.map nV).map fd)) ≤ 64)) = true
  rw [Bool.and_eq_true]
  refine ⟨by simp only [PyData.canLay0]; exact h1, decide_eq_true ?_⟩
  simp only [PyData.depth]
  omega
end MyT
namespace MyT
open My PySem PySem.Spec PyProof.Rows L2 GL Evl StX SkE
/-! ### data that is short when shown -/
structure Sm (d : PyData) (k B : Nat) : Prop where
  sh : d.showable = true
  nd : d.hasDict = false
  de : d.depth ≤ k
  ln : d.shown.length ≤ B
theorem Shrt.sm {x : V} (h : Shrt x) : Sm (fd x) 0 40 := ⟨h.2.1, h.2.2.1, h.2.2.2.1, h.2.2.2.2⟩
theorem Sm.mono {d : PyData} {k B k' B' : Nat} (h : Sm d k B) (hk : k ≤ k') (hB : B ≤ B') : Sm d k' B' := ⟨h.sh, h.nd, Nat.le_trans h.de hk, Nat.le_trans h.ln hB⟩
end MyT
namespace MyT
open My PySem PySem.Spec PyProof.Rows L2 GL Evl StX SkE
/-! ### what two ways share -/
def kids (ps : List Nat) (g : Nat) : List Nat := (List.range (ps.length + 1)).filter fun c => decide ((upsV ps)[c]? = some (nV g))
theorem mem_kids {ps : List Nat} {c : Nat} (h1 : 1 ≤ c) (h2 : c ≤ ps.length) : c ∈ kids ps (up ps c) := List.mem_filter.mpr ⟨List.mem_range.mpr (by omega), decide_eq_true (ups_at (by omega) h2)⟩
def shared (ps : List Nat) (g s : Nat) : List Nat := (path ps g).filter fun x => decide (x ∈ path ps s)
def own (ps : List Nat) (g s : Nat) : List Nat := (path ps g).filter fun x => !decide (x ∈ path ps s)
theorem range_getD (l : List Nat) : ((List.range l.length).map fun i => l.getD i 0) = l := by
  refine List.ext_getElem (by rw [List.length_map, List.length_range]) fun i h1 h2 => ?_
  rw [List.getElem_map, List.getElem_range, List.getD_eq_getElem?_getD, List.getElem?_eq_getElem h2]
  rfl
theorem StOk.more {ps st : List Nat} {g : Nat} (ok : StOk ps st) (h0 : 1 ≤ g) (h1 : g ≤ ps.length) (h : g ∉ st) (hk : ∀ c, 1 ≤ c → c ≤ ps.length → up ps c = g → c ∈ st) : StOk ps (st ++ [g]) := by
  refine ⟨?_, fun x hx => ?_, fun c a b hc => ?_⟩
  · exact List.nodup_append.mpr ⟨ok.nd, List.nodup_cons.mpr ⟨List.not_mem_nil, List.nodup_nil⟩, fun a ha b hb e => h (by rw [← List.mem_singleton.mp hb, ← e]; exact ha)⟩
  · rcases List.mem_append.mp hx with z | z
    · exact ok.bd x z
    · have := List.mem_singleton.mp z
      omega
  · rcases List.mem_append.mp hc with z | z
    · exact List.mem_append_left _ (ok.cl c a b z)
    · exact List.mem_append_left _ (hk c a b (List.mem_singleton.mp z))
section
variable {P : Program} {w : World} {K : PySem.W.Frag} {mg : Str → Option Value} {base : Heap} {C : Addr} {H H' : Hp} {σ : L2.St} {te tb : TE} {ta : TA} {xs ys : List V} {v : V} {D : Ends} {tz : TS} {a : Addr} {tt : TT}
/-- [.. for i, x in enumerate(list) if ..] -/
theorem el_lcE {i j : Nat} {vs : List Nat} (f : Nat → Bool) (v : Nat → V) (h : EvA ta σ H [.ref a]) (hx : H a = some (.lst xs)) (hz : xs.length ≤ 40000)
    (hw : ∀ x y, wipe (((wipe σ vs).set i (some x)).set j (some y)) vs = wipe σ vs)
    (ht : ∀ (n : Nat) (x : V) H1, Ex H H1 → xs[n]? = some x → EvT tt (((wipe σ vs).set i (some (nV n))).set j (some x)) H1 (f n)) (he : ∀ (n : Nat) (x : V) H1, Ex H H1 → xs[n]? = some x → f n = true → Ev te (((wipe σ vs).set i (some (nV n))).set j (some x)) H1 (v n)) :
    EvL (tLc (iEnum K ta) (gTup K 2 (gCons (gName i) (gCons (gName j) gNil))) tt te vs) σ H (given xs.length f v) := fun H0 e Q q => h H0 e _ fun H1 e1 => ⟨a, xs, rfl, sq_of ((e.trans e1) _ _ hx), fun Dl hD =>
  lc_it walk_enum (Cw H1 f v Dl) ⟨hD, Ex.new hD, upd_same⟩ (fun n H' _ p => sq_of (p.2.1 a _ ((e.trans e1) _ _ hx))) (by
    rintro n w H' H3 hn p ⟨T, y, z, rfl, nT, rfl, q1, q2⟩
    cases q1
    have p' : Cw H1 f v Dl n (upd H' T (.tup [nV n, z])) := ⟨p.1, p.2.1.trans (Ex.new nT), Ex.new nT _ _ p.2.2⟩
    exact ⟨T, _, rfl, st_of upd_same, rfl, _, _, rfl, _, _, rfl, rfl, hw _ _, cw_turn p' (by omega) (ht n z H1 (e.trans e1) q2) (fun hf => he n z H1 (e.trans e1) q2 hf)⟩) (fun H' p => q Dl H' (fresh_back e1 p.1) (e1.trans p.2.1) p.2.2)⟩
end
end MyT
namespace MyT
open My PySem PySem.Spec PyProof.Rows L2 GL Evl StX SkE
/-! ### what a value is, as data -/
def Das (K : PySem.W.Frag) (H : Hp) (v : V) (d : PyData) : Prop := ∀ H1, Ex H H1 → Dp K H1 v d
def DasL (K : PySem.W.Frag) (H : Hp) (vs : List V) (ds : List PyData) : Prop := ∀ H1, Ex H H1 → DpAll K H1 vs ds
def dN (l : List Nat) : PyData := .list ((l.map nV).map fd)
theorem dpAll_len {K : PySem.W.Frag} {H : Hp} : ∀ {xs : List V} {ds : List PyData}, DpAll K H xs ds → xs.length = ds.length
  | [], [], _ => rfl
  | _ :: xs, _ :: ds, .cons _ h => by
    rw [List.length_cons, List.length_cons, dpAll_len h]
/-- evaluates to something that is this data -/
def EvD (K : PySem.W.Frag) (te : TE) (σ : L2.St) (H : Hp) (d : PyData) : Prop := ∀ H1, Ex H H1 → ∀ Q : VK, (∀ v H2, Ex H1 H2 → Das K H2 v d → Q v H2) → te σ H1 Q
def EvDA (K : PySem.W.Frag) (ta : TA) (σ : L2.St) (H : Hp) (ds : List PyData) : Prop := ∀ H1, Ex H H1 → ∀ Q : List V → Hp → Prop, (∀ vs H2, Ex H1 H2 → DasL K H2 vs ds → Q vs H2) → ta σ H1 Q
section
variable {K : PySem.W.Frag} {σ : L2.St} {H H' : Hp} {te tb : TE} {ta : TA} {v : V} {d e : PyData} {ds : List PyData} {xs : List V} {p : Addr} {D : Ends} {tz : TS}
theorem Das.ex (h : Das K H v d) (x : Ex H H') : Das K H' v d := fun H1 e1 => h H1 (x.trans e1)
theorem DasL.ex (h : DasL K H xs ds) (x : Ex H H') : DasL K H' xs ds := fun H1 e1 => h H1 (x.trans e1)
theorem das_lst (h : SqL K H p xs) (hx : DasL K H xs ds) : Das K H (.ref p) (.list ds) := fun H1 e1 => .lst (ex_l e1 h) (hx H1 e1)
theorem das_flatL (h : SqL K H p xs) (hf : xs.all flatV = true) : Das K H (.ref p) (.list (xs.map fd)) := das_lst h fun _ _ => fd_all hf
theorem das_nats {l : List Nat} (h : SqL K H p (l.map nV)) : Das K H (.ref p) (dN l) := das_flatL h (flat_nat l)
theorem ed_r (h : Ev te σ H v) (hd : Das K H v d) : EvD K te σ H d := fun H1 e1 Q q => h H1 e1 Q fun H2 e2 => q v H2 e2 (hd.ex (e1.trans e2))
theorem ed_l (h : EvL te σ H xs) (hf : xs.all flatV = true) : EvD K te σ H (.list (xs.map fd)) := fun H1 e1 Q q => h H1 e1 Q fun r H2 _ e2 h2 => q _ H2 e2 (das_flatL (sq_of h2) hf)
theorem ed_n {l : List Nat} (h : EvL te σ H (l.map nV)) : EvD K te σ H (dN l) := ed_l h (flat_nat l)
theorem EvD.mono (x : Ex H H') (h : EvD K te σ H d) : EvD K te σ H' d := fun H1 a Q q => h H1 (x.trans a) Q q
theorem eda_nil : EvDA K tNil σ H [] := fun H1 _ _ q => q [] H1 (Ex.refl H1) fun _ _ => .nil
theorem ed_lst (h : EvDA K ta σ H ds) (hl : ds.length ≤ 100000) : EvD K (tLst ta) σ H (.list ds) := fun H1 e1 Q q =>
  h H1 e1 _ fun vs H2 e2 hvs => ⟨sz_of (by rw [dpAll_len (hvs H2 (Ex.refl H2))]; exact hl), fun p hp => q _ _ (e2.trans (Ex.new hp)) (das_lst (sq_of upd_same) (hvs.ex (Ex.new hp)))⟩
theorem ev_eqE (h : EvD K te σ H d) (hb : EvD K tb σ H e) (s1 : SeqAt.shaped d = true) (s2 : SeqAt.shaped e = true) : Ev (tOp (rEqD K) te tb) σ H (.bl (PyData.eqv d e)) := fun H1 e1 Q q =>
  h H1 e1 _ fun v H2 e2 hv => hb H2 (e1.trans e2) _ fun w H3 e3 hw => ⟨d, e, hv H3 e3, hw H3 (Ex.refl H3), s1, s2, q H3 (e2.trans e3)⟩
end
end MyT
namespace MyT
open My PySem PySem.Spec PyProof.Rows L2 GL Evl StX SkE
/-! ### lists and tuples as arguments, trees as values -/
/-- evaluates to a list of these, or a tuple of these -/
def EvS (K : PySem.W.Frag) (te : TE) (σ : L2.St) (H : Hp) (xs : List V) : Prop := ∀ H1, Ex H H1 → ∀ Q : VK, (∀ p H2, Ex H1 H2 → Seq K H2 p xs → Q (.ref p) H2) → te σ H1 Q
section
variable {K : PySem.W.Frag} {C : Addr} {σ : L2.St} {H H' : Hp} {te ta tb : TE} {xs : List V} {p t : Addr} {ps st : List Nat} {Er : XK}
theorem es_v (h : Ev te σ H (.ref p)) (hs : Seq K H p xs) : EvS K te σ H xs := fun H1 e Q q => h H1 e Q fun H2 e2 => q p H2 e2 (hs.ex (e.trans e2))
theorem es_l (h : EvL te σ H xs) : EvS K te σ H xs := fun H1 e Q q => h H1 e Q fun p H2 _ e2 h2 => q p H2 e2 (.lst h2)
/-- an instance is being made -/
theorem made_tr {a b dx : Addr} {Q : VK} (ht : H t = none) (hdx : H dx = none) (ha : Seq K H a (ps.map nV)) (hb : Seq K H b (st.map nV)) (hg : Good ps) (hl : ps.length ≤ 199) (ok : StOk ps st) (h64 : st.length < 64)
    (q : ∀ H3, Ex H H3 → TreeNew C H H3 t ps (srt st) → Q (.ref t) H3) : sp_Tinit K C [.ref t, .ref a, .ref b] (upd (upd H dx (.own t)) t (.ins C dx [])) (fun v H3 => v = .non ∧ Q (.ref t) H3) Er :=
  ⟨H, t, dx, a, b, ps, st, rfl, Ex.mut (Ex.new hdx) ht, ht, upd_same, ha, hb, hg, hl, ok, h64, fun H3 e hT => ⟨rfl, q H3 e hT⟩⟩
end
end MyT
namespace MyT
open My PySem PySem.Spec PyProof.Rows L2 GL Evl StX SkE
/-- a comprehension over a list of numbers -/
theorem given_map (l : List Nat) (f : Nat → V) : given (l.map nV).length (fun _ => true) (fun i => f (l.getD i 0)) = l.map f := by
  have q : ((List.range l.length).map fun i => l.getD i 0).map f = l.map f := by rw [range_getD]
  rw [List.map_map] at q
  rw [given_all, List.length_map]
  exact q
section
variable {K : PySem.W.Frag} {σ : L2.St} {H : Hp} {ta : TA} {te : TE} {t : TT} {xs : List V}
/-- the same, a test or an element that changes things -/
theorem lc_R2 {j : Nat} {vs : List Nat} {lo n : Int} {Q : VK} (Pv : Addr → Nat → Hp → Prop) (h : EvA ta σ H [.int lo, .int n]) (hn : 0 ≤ lo ∧ lo ≤ 100000 ∧ -100000 ≤ n ∧ n ≤ 40000) (h0 : ∀ H1 Dl, Ex H H1 → H1 Dl = none → Pv Dl 0 (upd H1 Dl (.lst [])))
    (hs : ∀ Dl (i : Nat) H', i < (n - lo).toNat → Pv Dl i H' → wipe ((wipe σ vs).set j (some (.int (lo + (i : Int))))) vs = wipe σ vs ∧ t ((wipe σ vs).set j (some (.int (lo + (i : Int))))) H' fun b H3 => if b = true then te ((wipe σ vs).set j (some (.int (lo + (i : Int))))) H3 fun y H4 => ∃ acc, H4 Dl = some (.lst acc) ∧ acc.length < sizeLine ∧ Pv Dl (i + 1) (upd H4 Dl (.lst (acc ++ [y]))) else Pv Dl (i + 1) H3)
    (hd : ∀ Dl H', Pv Dl (n - lo).toNat H' → Q (.ref Dl) H') : tLc (iRng2 ta) (gName j) t te vs σ H Q := h H (Ex.refl H) _ fun H1 e1 => ⟨lo, n, rfl, ⟨by omega, by omega, by omega, by omega⟩, fun Dl hD =>
  lc_range (lo := lo) (n := (n - lo).toNat) (Pv Dl) (h0 H1 Dl e1 hD) (hs Dl) (hd Dl)⟩
end
def sp_Tstruck (C : Addr) : Sp := fun vs H Q _ => ∃ t ps st, vs = [.ref t] ∧ TreeAt C H t ps st ∧ RetL (st.map nV) H Q
section
variable {P : Program} {w : World} {K : PySem.W.Frag} {mg : Str → Option Value} {base : Heap} {C : Addr} {H : Hp} {σ : L2.St}
/-- ups[1:] -/
theorem el_tail {te : TE} {u : Addr} {ps : List Nat} (hu : SqL K H u (upsV ps)) (h : Ev te σ H (.ref u)) : EvL (tSl (rSlL K) te (tPart (tC (.int 1))) tNoPart) σ H (ps.map nV) := el_is (el_sl h (eo_some ev_c) eo_none hu) (by
  unfold cutV upsV
  rw [show (1 : Int) = ((1 : Nat) : Int) from rfl, HT.sIx_nat, HT.sIx_none, List.length_cons, show min 1 ((ps.map nV).length + 1) = 1 by omega, Nat.add_sub_cancel]
  exact List.take_length)
theorem sl_struck {t : Addr} {ps st : List Nat} (h : TreeAt C H t ps st) : SpL (sp_Tstruck C) [.ref t] H (st.map nV) := fun _ e _ q _ => ⟨t, ps, st, rfl, h.ex e, fun p H2 hp e2 h2 => q p H2 hp e2 h2⟩
theorem ok_Tstruck (T : Txt K mg w)  : FnG P w K mg base CX0 1 T.f_Tstruck T.fd_Tstruck ["self"] (MyT.sp_Tstruck T.C_Tree) := by
  refine okG T.F_Tstruck sc_Tstruck (fun vs H Q E h => ?_) (fun cdv A outer s H vs Q E gd hr h => ?_)
  · obtain ⟨_, _, _, rfl, _⟩ := h
    all_goals rfl
  · obtain ⟨t, ps, st, rfl, ⟨dx, la, ls, p⟩, q⟩ := h
    refine ⟨_, (pss_one (ps_ret (pe_callTy call_list_of (by rfl) T.z_list (by decide +kernel) (pa_cons (pe_fld (pv 0) rfl) pa_nil)))), ?_⟩
    exact s_retL (el_list (ev_fld (ev_var rfl) p.ob T.c_Tree T.n_struck (tf_struck la ls)) (sq_of p.sk)) q
end
end MyT
namespace MyT
open My PySem PySem.Spec PyProof.Rows L2 GL Evl StX SkE
/-! ### data that does not hang on what stands at r -/
def hole (r : Addr) (H : Hp) : Hp := fun b => if b = r then none else H b
theorem hole_ne {r b : Addr} {H : Hp} (h : b ≠ r) : hole r H b = H b := if_neg h
theorem hole_ex (r : Addr) (H : Hp) : Ex (hole r H) H := fun b o h => by
  by_cases e : b = r
  · unfold hole at h
    rw [if_pos e] at h
    cases h
  · rw [hole_ne e] at h
    exact h
theorem hole_mono {r : Addr} {H H' : Hp} (e : ExB r H H') : Ex (hole r H) (hole r H') := fun b o h => by
  by_cases z : b = r
  · unfold hole at h
    rw [if_pos z] at h
    cases h
  · rw [hole_ne z] at h ⊢
    exact e b o z h
end MyT
namespace MyT
open My PySem PySem.Spec PyProof.Rows L2 GL Evl StX SkE
/-! ### trees that are equal -/
theorem eqv_natsB : ∀ l m : List Nat, PyData.eqvAll ((l.map nV).map fd) ((m.map nV).map fd) = decide (l = m)
  | [], [] => by simp only [List.map_nil, PyData.eqvAll, decide_true]
  | [], _ :: _ => by
    simp only [List.map_nil, List.map_cons, PyData.eqvAll]
    rw [decide_eq_false (fun e => nomatch e)]
  | _ :: _, [] => by
    simp only [List.map_nil, List.map_cons, PyData.eqvAll]
    rw [decide_eq_false (fun e => nomatch e)]
  | a :: l, b :: m => by
    have ih := eqv_natsB l m
    simp only [List.map_cons, PyData.eqvAll]
    rw [ih]
    have e1 : PyData.eqv (fd (nV a)) (fd (nV b)) = decide (a = b) := by
      show PyData.eqv (.int (a : Int)) (.int (b : Int)) = _
      simp only [PyData.eqv]
      by_cases e : a = b
      · subst e
        simp
      · rw [decide_eq_false e]
        exact beq_eq_false_iff_ne.mpr fun z => e (by omega)
    rw [e1, ← Bool.decide_and]
    exact decide_eq_decide.mpr ⟨fun z => by rw [z.1, z.2], fun z => List.cons.inj z⟩
theorem eqv_nB (l m : List Nat) : PyData.eqv (dN l) (dN m) = decide (l = m) := by
  unfold dN
  simp only [PyData.eqv]
  exact eqv_natsB l m
def dU (ps : List Nat) : PyData := .list ((upsV ps).map fd)
theorem eqv_uB (l m : List Nat) : PyData.eqv (dU l) (dU m) = decide (l = m) := by
  unfold dU upsV
  simp only [PyData.eqv, List.map_cons, PyData.eqvAll]
  rw [eqv_natsB]
  show (PyData.eqv .none .none && _) = _
  simp only [PyData.eqv, Bool.true_and]
theorem shaped_u (l : List Nat) : SeqAt.shaped (dU l) = true := by
  have h1 := canLay_nats l
  have h2 := depth_nats l
  show (PyData.canLay0 (.list (fd .non :: (l.map nV).map fd)) && decide (PyData.depth (.list (fd .non :: (l.map nV).map fd)) ≤ 64)) = true
  rw [Bool.and_eq_true]
  constructor
  · simp only [PyData.canLay0, PyData.canLayAll0]
    show (PyData.canLay0 .none && PyData.canLayAll0 ((l.map nV).map fd)) = true
    rw [h1]
    simp only [PyData.canLay0, Bool.and_true]
  · refine decide_eq_true ?_
    simp only [PyData.depth, PyData.depthAll]
    have h3 : (fd .non).depth ≤ 0 := by
      show PyData.none.depth ≤ 0
      simp only [PyData.depth]
      omega
    omega
def sp_Teq (K : PySem.W.Frag) (C : Addr) : Sp := fun vs H Q _ => (∃ a b ps st ps' st', vs = [.ref a, .ref b] ∧ TreeAt C H a ps st ∧ TreeAt C H b ps' st' ∧ RetV (.bl (decide (ps = ps') && decide (st = st'))) H Q) ∨
  (∃ a y T, vs = [.ref a, y] ∧ (∀ H1, Ex H H1 → TyX K H1 y (.type T)) ∧ T ∈ kinds ∧ RetV (.bl false) H Q)
section
variable {P : Program} {w : World} {K : PySem.W.Frag} {mg : Str → Option Value} {base : Heap} {C : Addr} {H : Hp} {σ : L2.St} {te tb : TE} {E : XK}
theorem rc_isiE {x c : V} {u t : Value} {b : Bool} (k : ClsV c u) (ty : ∀ H1, Ex H H1 → TyX K H1 x t) (h : PySem.W.kitOne K t u = some b) : RC (rIsi K) [x, c] H (.bl b) := fun H1 e Q q => ⟨x, c, t, u, b, rfl, k, ty H1 e, h, q H1 (Ex.refl H1)⟩
theorem TreeAt.insTy {T : Txt K mg w} {t : Addr} {ps st : List Nat} (h : TreeAt T.C_Tree H t ps st) : ∀ H1, Ex H H1 → TyX K H1 (.ref t) (.ref T.C_Tree) := fun H1 e => by
  obtain ⟨dx, la, ls, p⟩ := h.ex e
  exact .base (.ins p.ob T.c_Tree T.x_class_Tree T.x_get_Tree T.x_tk_Tree T.x_mro_Tree)
theorem kit_kind (T : Txt K mg w) {k : String} (h : k ∈ kinds) : PySem.W.kitOne K (.type k) (.ref T.C_Tree) = some false := by
  unfold PySem.W.kitOne
  rw [if_neg (by simp)]
  unfold PySem.W.kitCls
  have h1 : (PySem.W.clsIn K T.C_Tree).isSome = true := T.x_cls_Tree
  show (if ((PySem.W.clsIn K T.C_Tree).isSome && PySem.W.typeIn K (.ref T.C_Tree) == some (.type "type")) = true then PySem.W.subIn K (.type k) (.ref T.C_Tree) else none) = some false
  rw [h1, T.x_ty_Tree, sub_kind h]
  simp
theorem flat_upsV (ps : List Nat) : (upsV ps).all flatV = true := by
  unfold upsV
  rw [List.all_cons, flat_nat]
  rfl
theorem ok_Teq (T : Txt K mg w)  : FnG P w K mg base CX0 1 T.f_Teq T.fd_Teq ["self", "other"] (MyT.sp_Teq K T.C_Tree) := by
  refine okG T.F_Teq sc_Teq (fun vs H Q E h => ?_) (fun cdv A outer s H vs Q E gd hr h => ?_)
  · obtain (⟨_, _, _, _, _, _, rfl, _⟩ | ⟨_, _, _, rfl, _⟩) := h
    all_goals rfl
  · obtain h := h
    refine ⟨_, (pss_one (ps_ret (pe_and (pe_callB call_isi (by rfl) T.z_isinstance boot_isinstance (pa_cons (pv 1) (pa_cons (pe_glob (v := .ref T.C_Tree) (by rfl) T.m_Tree rfl) pa_nil))) (pe_and (pe_cmpR (op_eqD (roomU hr)) (pe_fld (pv 0) rfl) (pe_fld (pv 1) rfl) (nomark _)) (pe_one (pe_cmpR (op_eqD (roomU hr)) (pe_fld (pv 0) rfl) (pe_fld (pv 1) rfl) (nomark _))))))), ?_⟩
    rcases h with ⟨a, b, ps, st, ps', st', rfl, ha, hb, q⟩ | ⟨a, y, k, rfl, ty, hk, q⟩
    · obtain ⟨dx, la, ls, p⟩ := id ha
      obtain ⟨dx', la', ls', p'⟩ := id hb
      have lst : ∀ {H1 : Hp}, Ex H H1 → TreeP T.C_Tree H1 a dx la ls ps st := fun e => p.ex e
      refine s_ret (v := .bl (true && ((decide (ps = ps')) && decide (st = st')))) (ev_andV (ev_cb (ea_cons (ev_var rfl) (ea_cons ev_c ea_nil)) (rc_isiE (.own T.C_Tree) hb.insTy (if_pos (beq_self_eq_true _)))) fun _ => ev_andV (ev_is (ev_eqE (K := K) (d := dU ps) (e := dU ps') (ed_r (ev_fld (ev_var rfl) p.ob T.c_Tree T.n_above (tf_above la ls)) (das_flatL (sq_of p.ab) (flat_upsV ps))) (ed_r (ev_fld (ev_var rfl) p'.ob T.c_Tree T.n_above (tf_above la' ls')) (das_flatL (sq_of p'.ab) (flat_upsV ps'))) (shaped_u _) (shaped_u _)) (congrArg V.bl (eqv_uB _ _))) fun _ =>
        ev_is (ev_eqE (K := K) (d := dN st) (e := dN st') (ed_r (ev_fld (ev_var rfl) p.ob T.c_Tree T.n_struck (tf_struck la ls)) (das_nats (sq_of p.sk))) (ed_r (ev_fld (ev_var rfl) p'.ob T.c_Tree T.n_struck (tf_struck la' ls')) (das_nats (sq_of p'.sk))) (shaped_nats _) (shaped_nats _)) (congrArg V.bl (eqv_nB _ _))) fun H1 e1 => ?_
      rw [Bool.true_and]
      exact q H1 e1
    · exact s_ret (v := .bl false) (ev_andV (a := false) (b := false) (ev_cb (ea_cons (ev_var rfl) (ea_cons ev_c ea_nil)) (rc_isiE (.own T.C_Tree) ty (kit_kind T hk))) fun z => nomatch z) q
end
end MyT
namespace My
open PySem PySem.Spec PyProof.Rows L2 GL Evl StX SkE
/-! ### comprehensions over words -/
theorem given_take {α : Type} (l : List α) (p : α → Bool) (g : α → V) : ∀ n, n ≤ l.length → given n (fun i => (l[i]?.map p).getD false) (fun i => (l[i]?.map g).getD .non) = ((l.take n).filter p).map g
  | 0, _ => rfl
  | n + 1, h => by
    have ih := given_take l p g n (by omega)
    have e2 : l[n]? = some l[n] := List.getElem?_eq_getElem (by omega)
    rw [List.take_add_one, e2, List.filter_append, List.map_append, ← ih]
    by_cases hp : p l[n] = true
    · rw [given_yes (by rw [e2]; exact hp)]
      congr 1
      · rw [e2]
        show _ = List.map g (List.filter p [l[n]])
        rw [List.filter_cons_of_pos hp]
        rfl
    · have hp' : p l[n] = false := by simpa using hp
      rw [given_no (by rw [e2]; exact hp')]
      show _ = _ ++ List.map g (List.filter p [l[n]])
      rw [List.filter_cons_of_neg hp]
      simp
theorem given_of {α : Type} (l : List α) (p : α → Bool) (g : α → V) : given l.length (fun i => (l[i]?.map p).getD false) (fun i => (l[i]?.map g).getD .non) = (l.filter p).map g := by
  rw [given_take l p g l.length (Nat.le_refl _), List.take_length]
section
variable {K : PySem.W.Frag} {σ : L2.St} {H H' : Hp} {te tl tb ta : TE} {t : TT} {a : Addr} {us ws : Rw} {j : Nat} {vs : List Nat} {xs : List V} {v : V} {D : Ends} {tz : TS}
theorem el_lcT (f : Nat → Bool) (g : Nat → V) (h : Ev tl σ H (.ref a)) (hx : SqT K H a xs) (hz : xs.length ≤ 40000) (hw : ∀ x, wipe ((wipe σ vs).set j (some x)) vs = wipe σ vs)
    (ht : ∀ (i : Nat) (x : V) H1, Ex H H1 → xs[i]? = some x → EvT t ((wipe σ vs).set j (some x)) H1 (f i)) (he : ∀ (i : Nat) (x : V) H1, Ex H H1 → xs[i]? = some x → f i = true → Ev te ((wipe σ vs).set j (some x)) H1 (g i)) :
    EvL (tLc (iTup K tl) (gName j) t te vs) σ H (given xs.length f g) := fun H0 e Q q => h H0 e _ fun H1 e1 => ⟨a, rfl, ⟨xs, ex_t (e.trans e1) hx⟩, fun Dl hD =>
  lc_it (walk_tup (K := K) (a := a) (xs := xs)) (Cw H1 f g Dl) ⟨hD, Ex.new hD, upd_same⟩ (fun i H' _ p => ex_t ((e.trans e1).trans p.2.1) hx) (fun i x H' H2 hi p y => by
    obtain ⟨rfl, hx'⟩ := y
    exact ⟨hw x, cw_turn p (by omega) (ht i x H1 (e.trans e1) hx') (fun hf => he i x H1 (e.trans e1) hx' hf)⟩)
    (fun H' p => q Dl H' (fresh_back e1 p.1) (e1.trans p.2.1) p.2.2)⟩
theorem w_item {us : Rw} {i : Nat} {x : V} (h : (us.map wV)[i]? = some x) : ∃ u, us[i]? = some u ∧ x = wV u ∧ u ∈ us := by
  rw [List.getElem?_map] at h
  obtain ⟨u, hu, rfl⟩ := Option.map_eq_some_iff.mp h
  exact ⟨u, hu, rfl, List.mem_of_getElem? hu⟩
/-- over a tuple of words -/
theorem el_lcW (p : Wd → Bool) (g : Wd → V) (h : Ev tl σ H (.ref a)) (hx : SqT K H a (us.map wV)) (hz : us.length ≤ 1000) (hw : ∀ x, wipe ((wipe σ vs).set j (some x)) vs = wipe σ vs)
    (ht : ∀ u H1, Ex H H1 → u ∈ us → EvT t ((wipe σ vs).set j (some (wV u))) H1 (p u)) (he : ∀ u H1, Ex H H1 → u ∈ us → p u = true → Ev te ((wipe σ vs).set j (some (wV u))) H1 (g u)) :
    EvL (tLc (iTup K tl) (gName j) t te vs) σ H ((us.filter p).map g) := by
  refine el_is (el_lcT (fun i => (us[i]?.map p).getD false) (fun i => (us[i]?.map g).getD .non) h hx (by rw [List.length_map]; omega) hw (fun i x H1 e1 hi => ?_) (fun i x H1 e1 hi hp => ?_)) (by rw [List.length_map]; exact given_of us p g)
  · obtain ⟨u, hu, rfl, m⟩ := w_item hi
    rw [hu]
    exact ht u H1 e1 m
  · obtain ⟨u, hu, rfl, m⟩ := w_item hi
    rw [hu] at hp ⊢
    exact he u H1 e1 m hp
theorem filter_yes {α : Type} (l : List α) : l.filter (fun _ => true) = l := List.filter_eq_self.mpr fun _ _ => rfl
/-! words in rows -/
theorem rv_inW {w : Wd} (h : SqT K H a (us.map wV)) : RV (rIn K false) (wV w) (.ref a) H (.bl (decide (w ∈ us))) := by
  have z := rv_isT (x := wV w) h rfl (flat_w us)
  rwa [inV_w] at z
theorem rv_niW {w : Wd} (h : SqT K H a (us.map wV)) : RV (rIn K true) (wV w) (.ref a) H (.bl (!decide (w ∈ us))) := by
  have z := rv_niT (x := wV w) h rfl (flat_w us)
  rwa [inV_w] at z
/-- evaluates to a tuple of these words -/
def EvR (K : PySem.W.Frag) (te : TE) (σ : L2.St) (H : Hp) (us : Rw) : Prop := ∀ H1, Ex H H1 → ∀ Q : VK, (∀ p H2, Ex H1 H2 → RowX K H2 p us → Q (.ref p) H2) → te σ H1 Q
theorem EvR.mono (e : Ex H H') (h : EvR K te σ H us) : EvR K te σ H' us := fun H1 a Q q => h H1 (e.trans a) Q q
theorem er_tup {tA : TA} (h : EvA tA σ H (us.map wV)) (hl : us.length ≤ 1000) : EvR K (tTupX tA) σ H us := fun H1 e Q q => h H1 e _ fun H2 e2 => ⟨by rw [List.length_map, sizeLine_eq]; omega, fun p o hp b => q p _ (e2.trans (Ex.new hp)) (.fx upd_same b)⟩
/-- row == (words) -/
theorem ev_eqW (h : Ev ta σ H (.ref a)) (hr : RowX K H a us) (hu : EvR K tb σ H ws) : Ev (tOp (rEqD K) ta tb) σ H (.bl (decide (us = ws))) := fun H1 e Q q =>
  h H1 e _ fun H2 e2 => hu H2 (e.trans e2) _ fun p H3 e3 hp => ⟨dRow us, dRow ws, (hr.ex ((e.trans e2).trans e3)).dp, hp.dp, row_shaped _, row_shaped _, by
    rw [eqv_row]
    exact q H3 (e2.trans e3)⟩
/-- f(x, (words)) -/
theorem ev_callR {sp : Sp} {Er : XK} {x z : V} (h : Ev ta σ H x) (hu : EvR K tb σ H ws) (hs : ∀ p H1, Ex H H1 → RowX K H1 p ws → SpV sp [x, .ref p] H1 z) : Ev (tCall sp [] Er (tCons ta (tCons tb tNil))) σ H z := fun H1 e Q q =>
  h H1 e _ fun H2 e2 => hu H2 (e.trans e2) _ fun p H3 e3 hp => hs p H3 ((e.trans e2).trans e3) hp H3 (Ex.refl H3) Q (fun H4 e4 => q H4 ((e2.trans e3).trans e4)) Er
/-- row.index(word) -/
theorem idx_first {w : Wd} : ∀ {us : Rw}, w ∈ us → us[us.idxOf w]? = some w ∧ ∀ m, m < us.idxOf w → us[m]? ≠ some w
  | u :: us, h => by
    rw [List.idxOf_cons]
    by_cases e : u = w
    · subst e
      simp
    · have hw : w ∈ us := (List.mem_cons.mp h).resolve_left fun z => e z.symm
      obtain ⟨h1, h2⟩ := idx_first hw
      have ne : (u == w) = false := beq_eq_false_iff_ne.mpr e
      rw [ne]
      refine ⟨by simpa using h1, fun m hm => ?_⟩
      cases m with
      | zero => simpa using e
      | succ m =>
        rw [List.getElem?_cons_succ]
        exact h2 m (by simpa using hm)
theorem ev_idx {w : Wd} (h1 : Ev ta σ H (.ref a)) (h2 : Ev tb σ H (wV w)) (hr : RowX K H a us) (hw : w ∈ us) :
    Ev (tBMX K (fun x xs H Q => ∃ p, ∃ ys : List Str, ∃ z j, x = .ref p ∧ xs = [.str z] ∧ SqT K H p (ys.map V.str) ∧ ys[j]? = some z ∧ (∀ m, m < j → ys[m]? ≠ some z) ∧ Q (.int (j : Nat)) H) ta (tCons tb tNil)) σ H (nV (us.idxOf w)) := fun H1 e Q q =>
  h1 H1 e _ fun H2 e2 => ⟨⟨a, rfl, (hr.ex (e.trans e2)).tp⟩, h2 H2 (e.trans e2) _ fun H3 e3 => by
    obtain ⟨i1, i2⟩ := idx_first hw
    refine ⟨a, us.map Wd.s, w.s, us.idxOf w, rfl, rfl, by rw [← wV_strs]; exact (hr.ex ((e.trans e2).trans e3)).sq, by rw [List.getElem?_map, i1]; rfl, fun m hm q2 => ?_, q H3 (e2.trans e3)⟩
    rw [List.getElem?_map] at q2
    obtain ⟨u, hu, eu⟩ := Option.map_eq_some_iff.mp q2
    exact i2 m hm (by rw [hu, Wd.inj eu])⟩
/-- row[i:], row[:i], looked into -/
theorem ev_inCut {lo hi : Option Int} {tl th : TO} {w : Wd} (h1 : Ev ta σ H (wV w)) (h2 : Ev te σ H (.ref a)) (hl : EvO tl σ H lo) (hh : EvO th σ H hi) (hr : RowX K H a us) (cs : Rw) (hc : cutV (us.map wV) lo hi = cs.map wV) (hall : HT.sIx us.length 0 lo = 0 → HT.sIx us.length us.length hi = us.length → cs = us) :
    Ev (tOp (rIn K false) ta (tSl (rSlA K) te tl th)) σ H (.bl (decide (w ∈ cs))) := fun H1 e Q q =>
  h1 H1 e _ fun H2 e2 => h2 H2 (e.trans e2) _ fun H3 e3 => hl H3 ((e.trans e2).trans e3) _ fun H4 e4 => hh H4 (((e.trans e2).trans e3).trans e4) _ fun H5 e5 => by
    have x5 := (((e.trans e2).trans e3).trans e4).trans e5
    refine ⟨a, us.map wV, rfl, (hr.ex x5).sq, fun z => ?_, fun z p hp => ?_⟩
    · rw [List.length_map] at z
      have ec := hall z.1 z.2
      subst ec
      exact rv_inW (hr.ex x5).sq H5 (Ex.refl H5) Q fun H6 e6 => q H6 ((((e2.trans e3).trans e4).trans e5).trans e6)
    · rw [hc]
      exact rv_inW (us := cs) (st_of upd_same) _ (Ex.refl _) Q fun H6 e6 => q H6 (((((e2.trans e3).trans e4).trans e5).trans (Ex.new hp)).trans e6)
end
end My
namespace My
open PySem PySem.Spec PyProof.Rows L2 GL Evl StX SkE
/-! ### promises: words and rows -/
def sp_islist (K : PySem.W.Frag) : Sp := fun vs H Q _ => ∃ a us, vs = [.ref a] ∧ RowAt K H a us ∧ RetV (.bl true) H Q
def sp_isword (K : PySem.W.Frag) : Sp := fun vs H Q _ => ∃ w b, ∃ ws : Rw, vs = [wV w, .ref b] ∧ SqT K H b (ws.map wV) ∧ RetV (.bl (decide (w ∈ ws))) H Q
def sp_adw (K : PySem.W.Frag) : Sp := fun vs H Q _ => ∃ a b, ∃ us ws : Rw, vs = [.ref a, .ref b] ∧ RowAt K H a us ∧ SqT K H b (ws.map wV) ∧ us.Nodup ∧ us.length ≤ 900 ∧ RetV (.bl (pW us ws)) H Q
def sp_hwo (K : PySem.W.Frag) : Sp := fun vs H Q _ => ∃ a b, ∃ us ws : Rw, vs = [.ref a, .ref b] ∧ RowAt K H a us ∧ SqT K H b (ws.map wV) ∧ us.Nodup ∧ us.length ≤ 900 ∧ RetV (.bl (pW us ws)) H Q
def sp_taa (K : PySem.W.Frag) : Sp := fun vs H Q _ => ∃ a us w, vs = [.ref a, wV w] ∧ RowX K H a us ∧ RetV (.bl (pTA us w)) H Q
def sp_ohh (K : PySem.W.Frag) : Sp := fun vs H Q _ => ∃ a us, vs = [.ref a] ∧ RowX K H a us ∧ RetV (.bl (pOH us)) H Q
def sp_row (K : PySem.W.Frag) (f : Rw → Bool) : Sp := fun vs H Q _ => ∃ a us, vs = [.ref a] ∧ RowX K H a us ∧ RowOk us ∧ RetV (.bl (f us)) H Q
def sp_isrow (K : PySem.W.Frag) : Sp := fun vs H Q _ => ∃ k a us, vs = [wV k, .ref a] ∧ k ∈ kindRows ∧ RowX K H a us ∧ RowOk us ∧ RetV (.bl (pRow k us)) H Q
def sp_fitb (K : PySem.W.Frag) : Sp := fun vs H Q _ => ∃ a us, ∃ n : Nat, vs = [.ref a, nV n] ∧ RowX K H a us ∧ us ≠ [] ∧ RetV (.bl (pBatch us n)) H Q
def sp_fits (K : PySem.W.Frag) : Sp := fun vs H Q _ => ∃ a us b, vs = [.ref a, .bl b] ∧ RowX K H a us ∧ RetV (.bl (pShared us b)) H Q
section
variable {P : Program} {w : World} {K : PySem.W.Frag} {mg : Str → Option Value} {base : Heap} {H H' : Hp} {σ : L2.St} {te ta tb : TE} {D : Ends} {tz : TS} {a b : Addr} {us ws : Rw} {x c : V} {tl th : TO} {lo hi : Option Int}
theorem rc_isiE {u t : Value} {b : Bool} (k : ClsV c u) (ty : ∀ H1, Ex H H1 → TyX K H1 x t) (h : PySem.W.kitOne K t u = some b) : RC (rIsi K) [x, c] H (.bl b) := fun H1 e Q q => ⟨x, c, t, u, b, rfl, k, ty H1 e, h, q H1 (Ex.refl H1)⟩
theorem sv_isword {w : Wd} (h : SqT K H b (ws.map wV)) : SpV (sp_isword K) [wV w, .ref b] H (.bl (decide (w ∈ ws))) := fun _ e _ q _ => ⟨w, b, ws, rfl, ex_t e h, q⟩
theorem sv_adw (h : RowAt K H a us) (h2 : SqT K H b (ws.map wV)) (nd : us.Nodup) (hl : us.length ≤ 900) : SpV (sp_adw K) [.ref a, .ref b] H (.bl (pW us ws)) := fun _ e _ q _ => ⟨a, b, us, ws, rfl, h.ex e, ex_t e h2, nd, hl, q⟩
theorem sv_hwo (h : RowAt K H a us) (h2 : SqT K H b (ws.map wV)) (nd : us.Nodup) (hl : us.length ≤ 900) : SpV (sp_hwo K) [.ref a, .ref b] H (.bl (pW us ws)) := fun _ e _ q _ => ⟨a, b, us, ws, rfl, h.ex e, ex_t e h2, nd, hl, q⟩
theorem sv_taa {w : Wd} (h : RowX K H a us) : SpV (sp_taa K) [.ref a, wV w] H (.bl (pTA us w)) := fun _ e _ q _ => ⟨a, us, w, rfl, h.ex e, q⟩
theorem sv_ohh (h : RowX K H a us) : SpV (sp_ohh K) [.ref a] H (.bl (pOH us)) := fun _ e _ q _ => ⟨a, us, rfl, h.ex e, q⟩
theorem sv_row {f : Rw → Bool} (h : RowX K H a us) (ok : RowOk us) : SpV (sp_row K f) [.ref a] H (.bl (f us)) := fun _ e _ q _ => ⟨a, us, rfl, h.ex e, ok, q⟩
theorem sv_isrow {k : Wd} (hk : k ∈ kindRows) (h : RowX K H a us) (ok : RowOk us) : SpV (sp_isrow K) [wV k, .ref a] H (.bl (pRow k us)) := fun _ e _ q _ => ⟨k, a, us, rfl, hk, h.ex e, ok, q⟩
theorem cut_from {i : Nat} (hi : i ≤ us.length) : cutV (us.map wV) (some (i : Int)) none = (us.drop i).map wV := by
  unfold cutV
  rw [HT.sIx_nat, HT.sIx_none, List.length_map, Nat.min_eq_left hi, ← List.map_drop, List.take_of_length_le (by rw [List.length_map, List.length_drop]; omega)]
theorem cut_to {i : Nat} (hi : i ≤ us.length) : cutV (us.map wV) none (some (i : Int)) = (us.take i).map wV := by
  unfold cutV
  rw [HT.sIx_nat, HT.sIx_none, List.length_map, Nat.min_eq_left hi, Nat.sub_zero, List.drop_zero, List.map_take]
theorem idx_le (w : Wd) (us : Rw) : us.idxOf w ≤ us.length := List.idxOf_le_length
theorem all_from {i : Nat} (hi : i ≤ us.length) : HT.sIx us.length 0 (some (i : Int)) = 0 → HT.sIx us.length us.length none = us.length → us.drop i = us := fun h _ => by
  rw [HT.sIx_nat, Nat.min_eq_left hi] at h
  rw [h, List.drop_zero]
theorem all_to {i : Nat} (hi : i ≤ us.length) : HT.sIx us.length 0 none = 0 → HT.sIx us.length us.length (some (i : Int)) = us.length → us.take i = us := fun _ h => by
  rw [HT.sIx_nat, Nat.min_eq_left hi] at h
  rw [h, List.take_length]
theorem q_asgCut {i : Nat} (h2 : Ev te σ H (.ref a)) (hl : EvO tl σ H lo) (hh : EvO th σ H hi) (hr : RowX K H a us) (cs : Rw) (hc : cutV (us.map wV) lo hi = cs.map wV) (hall : HT.sIx us.length 0 lo = 0 → HT.sIx us.length us.length hi = us.length → cs = us)
    (k : ∀ p H1, Ex H H1 → RowAt K H1 p cs → tz D (σ.set i (some (.ref p))) H1) : tSeq (tAsg (tSl (rSlA K) te tl th) (gName i)) tz D σ H :=
  h2 H (Ex.refl H) _ fun H3 e3 => hl H3 e3 _ fun H4 e4 => hh H4 (e3.trans e4) _ fun H5 e5 => by
    have x5 := (e3.trans e4).trans e5
    refine ⟨a, us.map wV, rfl, (hr.ex x5).sq, fun z => ?_, fun z p hp => ?_⟩
    · rw [List.length_map] at z
      have ec := hall z.1 z.2
      subst ec
      exact k a H5 x5 (hr.ex x5).at_
    · rw [hc]
      exact k p _ (x5.trans (Ex.new hp)) (.tup upd_same)
theorem ev_lenSet {xs : List Str} (h : Ev te σ H (.ref a)) (hs : SqT K H a (xs.map V.str)) (nd : xs.Nodup) (hl : xs.length ≤ 1000) : Ev (tLenSetT K te) σ H (nV xs.length) := fun H1 e Q q => h H1 e _ fun H2 e2 => ⟨a, xs, rfl, ex_t (e.trans e2) hs, nd, hl, q H2 e2⟩
theorem ev_lenT {xs : List V} (h : Ev te σ H (.ref a)) (hs : SqT K H a xs) : Ev (tCB (rLenS K) (tCons te tNil)) σ H (nV xs.length) := fun H1 e Q q => h H1 e _ fun H2 e2 => ⟨a, xs, rfl, .inr (ex_t (e.trans e2) hs), q H2 e2⟩
theorem ok_is_an_integer (T : Txt K mg w)  : FnG P w K mg base CX0 1 T.f_is_an_integer T.fd_is_an_integer ["value"] MyT.sp_is_an_integer := by
  refine okG T.F_is_an_integer sc_is_an_integer (fun vs H Q E h => ?_) (fun cdv A outer s H vs Q E gd hr h => ?_)
  · obtain ⟨_, rfl, _⟩ := h
    all_goals rfl
  · obtain ⟨i, rfl, q⟩ := h
    refine ⟨_, (pss_one (ps_ret (pe_and (pe_callB call_isi (by rfl) T.z_isinstance boot_isinstance (pa_cons (pv 0) (pa_cons (pe_bltn (v := .ty "int") (u := .type "int") (by rfl) T.z_int (by decide +kernel) rfl) pa_nil))) (pe_one (pe_not (pe_callB call_isi (by rfl) T.z_isinstance boot_isinstance (pa_cons (pv 0) (pa_cons (pe_bltn (v := .ty "bool") (u := .type "bool") (by rfl) T.z_bool (by decide +kernel) rfl) pa_nil)))))))), ?_⟩
    refine s_ret (v := .bl true) (ev_andV (a := true) (b := true) (ev_cb (ea_cons (ev_var rfl) (ea_cons ev_c ea_nil)) (rc_isi (.ty "int") (fun _ => .base (.int i)) (kit_ty (by decide +kernel)))) fun _ => ?_) q
    exact ev_notV (a := false) (ev_cb (ea_cons (ev_var rfl) (ea_cons ev_c ea_nil)) (rc_isi (.ty "bool") (fun _ => .base (.int i)) (kit_ty (by decide +kernel))))
theorem ok_is_list (T : Txt K mg w)  : FnG P w K mg base CX0 1 T.f_is_list T.fd_is_list ["value"] (sp_islist K) := by
  refine okG T.F_is_list sc_is_list (fun vs H Q E h => ?_) (fun cdv A outer s H vs Q E gd hr h => ?_)
  · obtain ⟨_, _, rfl, _⟩ := h
    all_goals rfl
  · obtain ⟨a, us, rfl, ra, q⟩ := h
    refine ⟨_, (pss_one (ps_ret (pe_callB call_isiT (by rfl) T.z_isinstance boot_isinstance (pa_cons (pv 0) (pa_cons (pe_tup (pa_cons (pe_bltn (v := .ty "list") (u := .type "list") (by rfl) T.z_list (by decide +kernel) rfl) (pa_cons (pe_bltn (v := .ty "tuple") (u := .type "tuple") (by rfl) T.z_tuple (by decide +kernel) rfl) pa_nil))) pa_nil))))), ?_⟩
    refine ⟨_, rfl, (by show 2 ≤ sizeLine; decide), fun p hp => ?_⟩
    have e := Ex.new (o := .tup [.ty "list", .ty "tuple"]) hp
    exact ⟨.ref a, p, _, _, _, true, rfl, upd_same, .cons (.ty "list") (.cons (.ty "tuple") .nil), (ra.ex e).ty, kitAny_cons (b := false) (kit_ty (by decide +kernel)) (fun _ => kitAny_cons (b := true) (kit_ty (by decide +kernel)) (fun z => nomatch z) (fun _ => rfl)) (fun z => nomatch z), q _ e⟩
theorem ok_is_word (T : Txt K mg w)  : FnG P w K mg base CX0 1 T.f_is_word T.fd_is_word ["value", "words"] (sp_isword K) := by
  refine okG T.F_is_word sc_is_word (fun vs H Q E h => ?_) (fun cdv A outer s H vs Q E gd hr h => ?_)
  · obtain ⟨_, _, _, rfl, _⟩ := h
    all_goals rfl
  · obtain ⟨w0, b, ws, rfl, hb, q⟩ := h
    refine ⟨_, (pss_one (ps_ret (pe_and (pe_callB call_isi (by rfl) T.z_isinstance boot_isinstance (pa_cons (pv 0) (pa_cons (pe_bltn (v := .ty "str") (u := .type "str") (by rfl) T.z_str (by decide +kernel) rfl) pa_nil))) (pe_one (pe_cmpR op_in_seq (pv 0) (pv 1) (by rfl)))))), ?_⟩
    refine s_ret (ev_is (ev_andV (a := true) (ev_cb (ea_cons (ev_var rfl) (ea_cons ev_c ea_nil)) (rc_isi (.ty "str") (fun _ => .base (.str _)) (kit_ty (by decide +kernel)))) fun _ => ev_op (ev_var rfl) (ev_var rfl) (rv_inW hb)) (by rw [Bool.true_and])) q
theorem ok_are_different_words (T : Txt K mg w) (G_is_word : FnG P w K mg base CX0 1 T.f_is_word T.fd_is_word ["value", "words"] (sp_isword K)) : FnG P w K mg base CX0 2 T.f_are_different_words T.fd_are_different_words ["values", "words"] (sp_adw K) := by
  refine okG T.F_are_different_words sc_are_different_words (fun vs H Q E h => ?_) (fun cdv A outer s H vs Q E gd hr h => ?_)
  · obtain ⟨_, _, _, _, rfl, _⟩ := h
    all_goals rfl
  · obtain ⟨a, b, us, ws, rfl, ra, hb, nd, hl, q⟩ := h
    refine ⟨_, (pss_one (ps_ret (pe_and (pe_callB (cr_all rfl) (by rfl) T.z_all boot_all (pa_cons (pe_lc (own := [("value", 2)]) (g := gName 2) rfl sc_are_different_words.nd (pi_tup (pv 0)) (blkOk_by (N := N_are_different_words) (sc := defScope s_are_different_words) (by decide +kernel)) (fun _ _ _ _ _ => (pg_name (i := 2) sc_are_different_words.nd rfl (Or.inl rfl) (Or.inr rfl))) (fun _ _ _ _ _ => pts_nil) (fun _ _ _ _ _ => (pc gd G_is_word (hr.mono (by decide)) (by rfl) T.m_is_word T.F_is_word.kp T.b_is_word .nil pass0 (pa_cons (pv 2) (pa_cons (pv 1) pa_nil))))) pa_nil)) (pe_one (pe_cmpR op_eq (pe_lenSetT (by rfl) T.z_len (by rfl) T.z_set (pv 0)) (pe_callB call_len_seq (by rfl) T.z_len PySem.boot_len (pa_cons (pv 0) pa_nil)) (nomark _)))))), ?_⟩
    refine s_ret (ev_is (ev_andV (a := pW us ws) (b := true) (ev_is (ev_allB (bs := us.map fun u => decide (u ∈ ws)) (el_is (el_lcW (us := us) (fun _ => true) (fun u => .bl (decide (u ∈ ws))) (ev_var rfl) ra.sq (by omega) (fun _ => rfl) (fun u H1 e1 hu => et_yes) (fun u H1 e1 hu _ => ev_call (ea_cons (ev_var rfl) (ea_cons (ev_var rfl) ea_nil)) (sv_isword (ex_t e1 hb)))) (by rw [filter_yes, List.map_map]; rfl))) (by rw [List.all_map]; rfl)) fun _ => ?_) (by rw [Bool.and_true])) q
    have z := ev_op (r := rEq) (ev_lenSet (K := K) (H := H) (te := tVar 0) (σ := start N_are_different_words [.ref a, .ref b]) (a := a) (xs := us.map Wd.s) (ev_var rfl) (by rw [← wV_strs]; exact ra.sq) (nodup_s nd) (by rw [List.length_map]; omega)) (ev_lenT (K := K) (te := tVar 0) (xs := us.map wV) (ev_var rfl) ra.sq) (rv_eq rfl)
    rw [List.length_map, List.length_map, decide_eq_true rfl] at z
    exact z
theorem ok_has_words_of (T : Txt K mg w) (G_are_different_words : FnG P w K mg base CX0 2 T.f_are_different_words T.fd_are_different_words ["values", "words"] (sp_adw K)) : FnG P w K mg base CX0 3 T.f_has_words_of T.fd_has_words_of ["value", "words"] (sp_hwo K) := by
  refine okG T.F_has_words_of sc_has_words_of (fun vs H Q E h => ?_) (fun cdv A outer s H vs Q E gd hr h => ?_)
  · obtain ⟨_, _, _, _, rfl, _⟩ := h
    all_goals rfl
  · obtain ⟨a, b, us, ws, rfl, ra, hb, nd, hl, q⟩ := h
    refine ⟨_, (pss_one (ps_ret (pe_and (pe_callB call_isi (by rfl) T.z_isinstance boot_isinstance (pa_cons (pv 0) (pa_cons (pe_bltn (v := .ty "tuple") (u := .type "tuple") (by rfl) T.z_tuple (by decide +kernel) rfl) pa_nil))) (pe_one (pc gd G_are_different_words (hr.mono (by decide)) (by rfl) T.m_are_different_words T.F_are_different_words.kp T.b_are_different_words .nil pass0 (pa_cons (pv 0) (pa_cons (pv 1) pa_nil))))))), ?_⟩
    exact s_ret (ev_is (ev_andV (a := true) (ev_cb (ea_cons (ev_var rfl) (ea_cons ev_c ea_nil)) (rc_isiE (.ty "tuple") (fun H1 e => (ra.ex e).ty) (kit_ty (by decide +kernel)))) fun _ => ev_call (ea_cons (ev_var rfl) (ea_cons (ev_var rfl) ea_nil)) (sv_adw ra hb nd hl)) (by rw [Bool.true_and])) q
theorem ok_tests_are_ahead (T : Txt K mg w)  : FnG P w K mg base CX0 1 T.f_tests_are_ahead T.fd_tests_are_ahead ["row", "word"] (sp_taa K) := by
  refine okG T.F_tests_are_ahead sc_tests_are_ahead (fun vs H Q E h => ?_) (fun cdv A outer s H vs Q E gd hr h => ?_)
  · obtain ⟨_, _, _, rfl, _⟩ := h
    all_goals rfl
  · obtain ⟨a, us, w0, rfl, ra, q⟩ := h
    refine ⟨_, (pss_cons (ps_if (pt_cmpR op_notIn_seq (pv 1) (pv 0) (by rfl)) (pss_one (ps_ret pe_bl)) pss_nil) (pss_cons (ps_set (i := 2) sc_tests_are_ahead.nd rfl (Or.inl rfl) (pe_slice sl_tupA (pv 0) (po_some (pe_bmX PySem.F.slot_tuple_index PySem.F.type_tuple_index mt_tup_index (pv 0) (pa_cons (pv 1) pa_nil))) po_none)) (pss_one (ps_ret (pe_and (pe_cmpR op_notIn_seq pe_str (pv 2) (by rfl)) (pe_one (pe_cmpR op_notIn_seq pe_str (pv 2) (by rfl)))))))), ?_⟩
    refine q_when (et_test (ev_op (ev_var rfl) (ev_var rfl) (rv_niW ra.sq))) (fun hb H1 e1 => s_ret (ev_is ev_c ?_) fun H2 e2 => q H2 (e1.trans e2)) fun hb H1 e1 => ?_
    · have hw : ¬ w0 ∈ us := by simpa using hb
      unfold pTA
      rw [if_neg hw]
    · have hw : w0 ∈ us := by simpa using hb
      refine q_asgCut (us := us) (lo := some (us.idxOf w0 : Nat)) (hi := none) (ev_var rfl) (eo_some (ev_idx (us := us) (ev_var rfl) (ev_var rfl) (ra.ex e1) hw)) eo_none (ra.ex e1) _ (cut_from (idx_le _ _)) (all_from (idx_le _ _)) fun p H2 e2 hp => ?_
      refine s_ret (ev_is (ev_andV (ev_op (ev_is ev_c (show V.str "look" = wV .look from rfl)) (ev_var rfl) (rv_niW hp.sq)) fun _ => ev_op (ev_is ev_c (show V.str "try" = wV .tri from rfl)) (ev_var rfl) (rv_niW hp.sq)) ?_) fun H3 e3 => q H3 ((e1.trans e2).trans e3)
      unfold pTA
      rw [if_pos hw]
theorem ok_off_has_home (T : Txt K mg w)  : FnG P w K mg base CX0 1 T.f_off_has_home T.fd_off_has_home ["row"] (sp_ohh K) := by
  refine okG T.F_off_has_home sc_off_has_home (fun vs H Q E h => ?_) (fun cdv A outer s H vs Q E gd hr h => ?_)
  · obtain ⟨_, _, rfl, _⟩ := h
    all_goals rfl
  · obtain ⟨a, us, rfl, ra, q⟩ := h
    refine ⟨_, (pss_one (ps_ret (pe_or (pe_cmpR op_notIn_seq pe_str (pv 0) (by rfl)) (pe_one (pe_cmpR op_in_seq pe_str (pe_slice sl_tupA (pv 0) po_none (po_some (pe_bmX PySem.F.slot_tuple_index PySem.F.type_tuple_index mt_tup_index (pv 0) (pa_cons pe_str pa_nil)))) (by rfl)))))), ?_⟩
    refine s_ret (ev_orV (a := !decide (Wd.off ∈ us)) (ev_op (ev_is ev_c (show V.str "off" = wV .off from rfl)) (ev_var rfl) (rv_niW ra.sq)) fun hb => ?_) q
    have hw : Wd.off ∈ us := by simpa using hb
    exact ev_inCut (us := us) (lo := none) (hi := some (us.idxOf Wd.off : Nat)) (ev_is ev_c (show V.str "home" = wV .home from rfl)) (ev_var rfl) eo_none (eo_some (ev_idx (us := us) (ev_var rfl) (ev_is ev_c (show V.str "off" = wV .off from rfl)) ra hw)) ra _ (cut_to (idx_le _ _)) (all_to (idx_le _ _))
end
end My
namespace My
open PySem PySem.Spec PyProof.Rows L2 GL Evl StX SkE
/-! ### promises: what is checked -/
def rowKs : List Pt := [.take, .give, .move, .lift]
def ptW : Pt → Wd
  | .take => .take | .give => .give | .move => .move | _ => .lift
def sp_cfails : Sp := fun vs H Q _ => ∃ w : Wd, vs = [wV w] ∧ w ∈ failWs ∧ RetV .non H Q
def sp_cbool : Sp := fun vs H Q _ => ∃ (x : Str) (b : Bool), vs = [.str x, .bl b] ∧ RetV .non H Q
def sp_cholds (K : PySem.W.Frag) : Sp := fun vs H Q _ => ∃ a, ∃ us : Rw, vs = [.ref a] ∧ RowAt K H a us ∧ us.Sublist kindRows ∧ RetV .non H Q
def sp_cbatch : Sp := fun vs H Q _ => ∃ n : Nat, vs = [nV n] ∧ 1 ≤ n ∧ n ≤ 50 ∧ RetV .non H Q
/-- the rows of r, each one of its kind -/
def rowOf (r : Ru) : Pt → Rw
  | .take => r.take | .give => r.give | .move => r.move | _ => r.lift
def sp_crows (K : PySem.W.Frag) : Sp := fun vs H Q _ => ∃ d r, vs = [.ref d] ∧ DictAt K H d rowKs r ∧ Ok r ∧ RetV .non H Q
theorem pW_kinds {us : Rw} (h : us.Sublist kindRows) : pW us kindRows = true := List.all_eq_true.mpr fun u hu => decide_eq_true (h.subset hu)
theorem rows_ok {r : Ru} (h : Ok r) {p : Pt} (hp : p ∈ rowKs) : RowOk (rowOf r p) ∧ pRow (ptW p) (rowOf r p) = true ∧ r.get p = .row (rowOf r p) ∧ ptW p ∈ kindRows ∧ V.str p.s = wV (ptW p) := by
  simp only [rowKs, List.mem_cons, List.not_mem_nil, or_false] at hp
  rcases hp with rfl | rfl | rfl | rfl
  · exact ⟨h.t.1, h.t.2.1, rfl, by decide, rfl⟩
  · exact ⟨h.g.1, h.g.2, rfl, by decide, rfl⟩
  · exact ⟨h.m.1, h.m.2.1, rfl, by decide, rfl⟩
  · exact ⟨h.l.1, h.l.2, rfl, by decide, rfl⟩
theorem at_last {us : Rw} (h : us ≠ []) : ∃ x, us.getLast? = some x ∧ atI (us.map wV) (-1) = some (wV x) := by
  have hl : 0 < us.length := List.length_pos_iff.mpr h
  refine ⟨us.getLast h, List.getLast?_eq_some_getLast h, ?_⟩
  unfold atI
  rw [List.length_map]
  have e : ixN us.length (-1) = some (us.length - 1) := by
    unfold ixN
    rw [if_neg (by omega), if_pos (by omega)]
    congr 1
    omega
  rw [e]
  show (us.map wV)[us.length - 1]? = _
  rw [at_w (w := us.getLast h)]
  rw [List.getLast_eq_getElem]
  exact List.getElem?_eq_getElem (by omega)
section
variable {P : Program} {w : World} {K : PySem.W.Frag} {mg : Str → Option Value} {base : Heap} {H H' : Hp} {σ : L2.St} {te ta tb : TE} {tA : TA} {D : Ends} {tz : TS} {a b : Addr} {us ws : Rw} {x c : V}
theorem cbl {a b : Bool} (h : a = b) : V.bl a = V.bl b := congrArg V.bl h
theorem ev_hwo {Er : XK} (h1 : Ev ta σ H (.ref a)) (ra : RowX K H a us) (h2 : EvR K tb σ H ws) (ok : RowOk us) : Ev (tCall (sp_hwo K) [] Er (tCons ta (tCons tb tNil))) σ H (.bl (pW us ws)) :=
  ev_callR h1 h2 fun p H1 e1 hp => sv_hwo (ra.ex e1).at_ hp.sq ok.nd (by have := ok.ln; omega)
theorem ev_lit {z : Str} {w0 : Wd} (e : z = w0.s) : Ev (tC (.str z)) σ H (wV w0) := by
  rw [e]
  exact ev_c
theorem er_4 {z1 z2 z3 z4 : Str} {w1 w2 w3 w4 : Wd} (e1 : z1 = w1.s) (e2 : z2 = w2.s) (e3 : z3 = w3.s) (e4 : z4 = w4.s) : EvR K (tTupX (tCons (tC (.str z1)) (tCons (tC (.str z2)) (tCons (tC (.str z3)) (tCons (tC (.str z4)) tNil))))) σ H [w1, w2, w3, w4] := er_tup (ea_cons (ev_lit e1) (ea_cons (ev_lit e2) (ea_cons (ev_lit e3) (ea_cons (ev_lit e4) ea_nil)))) (by show 4 ≤ 1000; omega)
theorem er_3 {z1 z2 z3 : Str} {w1 w2 w3 : Wd} (e1 : z1 = w1.s) (e2 : z2 = w2.s) (e3 : z3 = w3.s) : EvR K (tTupX (tCons (tC (.str z1)) (tCons (tC (.str z2)) (tCons (tC (.str z3)) tNil)))) σ H [w1, w2, w3] := er_tup (ea_cons (ev_lit e1) (ea_cons (ev_lit e2) (ea_cons (ev_lit e3) ea_nil))) (by show 3 ≤ 1000; omega)
theorem er_2 {z1 z2 : Str} {w1 w2 : Wd} (e1 : z1 = w1.s) (e2 : z2 = w2.s) : EvR K (tTupX (tCons (tC (.str z1)) (tCons (tC (.str z2)) tNil))) σ H [w1, w2] := er_tup (ea_cons (ev_lit e1) (ea_cons (ev_lit e2) ea_nil)) (by show 2 ≤ 1000; omega)
theorem er_1 {z1 : Str} {w1 : Wd} (e1 : z1 = w1.s) : EvR K (tTupX (tCons (tC (.str z1)) tNil)) σ H [w1] := er_tup (ea_cons (ev_lit e1) ea_nil) (by show 1 ≤ 1000; omega)
theorem er_0 : EvR K (tTupX tNil) σ H [] := er_tup (us := []) ea_nil (Nat.zero_le _)
theorem ev_inL {z : Str} {w0 : Wd} (e : z = w0.s) (h2 : Ev tb σ H (.ref a)) (ra : RowX K H a us) : Ev (tOp (rIn K false) (tC (.str z)) tb) σ H (.bl (decide (w0 ∈ us))) := ev_op (ev_lit e) h2 (rv_inW ra.sq)
theorem ev_niL {z : Str} {w0 : Wd} (e : z = w0.s) (h2 : Ev tb σ H (.ref a)) (ra : RowX K H a us) : Ev (tOp (rIn K true) (tC (.str z)) tb) σ H (.bl (!decide (w0 ∈ us))) := ev_op (ev_lit e) h2 (rv_niW ra.sq)
theorem ok_is_take_row (T : Txt K mg w) (G_has_words_of : FnG P w K mg base CX0 3 T.f_has_words_of T.fd_has_words_of ["value", "words"] (sp_hwo K)) (G_tests_are_ahead : FnG P w K mg base CX0 1 T.f_tests_are_ahead T.fd_tests_are_ahead ["row", "word"] (sp_taa K)) : FnG P w K mg base CX0 4 T.f_is_take_row T.fd_is_take_row ["value"] (sp_row K pTake) := by
  refine okG T.F_is_take_row sc_is_take_row (fun vs H Q E h => ?_) (fun cdv A outer s H vs Q E gd hr h => ?_)
  · obtain ⟨_, _, rfl, _⟩ := h
    all_goals rfl
  · obtain ⟨a, us, rfl, ra, ok, q⟩ := h
    refine ⟨_, (pss_cons (ps_if ((pw_or (pt_not (pt_val (pc gd G_has_words_of (hr.mono (by decide)) (by rfl) T.m_has_words_of T.F_has_words_of.kp T.b_has_words_of .nil pass0 (pa_cons (pv 0) (pa_cons (pe_tupX (pa_cons pe_str (pa_cons pe_str (pa_cons pe_str (pa_cons pe_str pa_nil))))) pa_nil))))) (pw_or1 (pt_cmpR op_notIn_seq pe_str (pv 0) (by rfl))))).pt (pss_one (ps_ret pe_bl)) pss_nil) (pss_cons (ps_if (pt_cmpR op_in_seq pe_str (pv 0) (by rfl)) (pss_one (ps_ret (pe_cmpR (op_eqD (roomU hr)) (pv 0) (pe_tupX (pa_cons pe_str (pa_cons pe_str pa_nil))) (nomark _)))) pss_nil) (pss_one (ps_ret (pe_and (pe_cmpR op_in_seq pe_str (pv 0) (by rfl)) (pe_one (pc gd G_tests_are_ahead (hr.mono (by decide)) (by rfl) T.m_tests_are_ahead T.F_tests_are_ahead.kp T.b_tests_are_ahead .nil pass0 (pa_cons (pv 0) (pa_cons pe_str pa_nil))))))))), ?_⟩
    refine q_when (b := !pW us [.live, .tri, .add, .look] || !decide (Wd.live ∈ us)) (et_or (et_not (et_B (ev_hwo (ev_var rfl) ra (er_4 rfl rfl rfl rfl) ok))) fun _ => et_test (ev_niL rfl (ev_var rfl) ra)) (fun hb H1 e1 => s_ret (ev_is ev_c (cbl (b := pTake us) ?_)) fun H2 e2 => q H2 (e1.trans e2)) fun hb H1 e1 => ?_
    · unfold pTake
      rcases Bool.or_eq_true_iff.mp hb with h | h
      · rw [Bool.not_eq_true'] at h
        rw [h, Bool.false_and, Bool.false_and]
      · rw [Bool.not_eq_true'] at h
        rw [h, Bool.and_false, Bool.false_and]
    rw [Bool.or_eq_false_iff, Bool.not_eq_false', Bool.not_eq_false'] at hb
    refine q_when (et_test (ev_inL (w0 := .tri) rfl (ev_var rfl) (ra.ex e1))) (fun hc H2 e2 => ?_) fun hc H2 e2 => ?_
    · refine s_ret (ev_is (ev_eqW (us := us) (ev_var rfl) ((ra.ex e1).ex e2) (er_2 (w1 := .tri) (w2 := .live) rfl rfl)) (congrArg V.bl ?_)) fun H3 e3 => q H3 ((e1.trans e2).trans e3)
      unfold pTake
      rw [hb.1, hb.2, if_pos (of_decide_eq_true hc)]
      rfl
    · refine s_ret (ev_is (ev_andV (ev_inL (w0 := .add) rfl (ev_var rfl) ((ra.ex e1).ex e2)) fun _ => ev_call (ea_cons (ev_var rfl) (ea_cons (ev_lit (w0 := .live) rfl) ea_nil)) (sv_taa (w := .live) ((ra.ex e1).ex e2))) (congrArg V.bl ?_)) fun H3 e3 => q H3 ((e1.trans e2).trans e3)
      unfold pTake
      rw [hb.1, hb.2, if_neg (of_decide_eq_false hc)]
      rfl
theorem ok_is_give_row (T : Txt K mg w) (G_has_words_of : FnG P w K mg base CX0 3 T.f_has_words_of T.fd_has_words_of ["value", "words"] (sp_hwo K)) (G_off_has_home : FnG P w K mg base CX0 1 T.f_off_has_home T.fd_off_has_home ["row"] (sp_ohh K)) : FnG P w K mg base CX0 4 T.f_is_give_row T.fd_is_give_row ["value"] (sp_row K pGive) := by
  refine okG T.F_is_give_row sc_is_give_row (fun vs H Q E h => ?_) (fun cdv A outer s H vs Q E gd hr h => ?_)
  · obtain ⟨_, _, rfl, _⟩ := h
    all_goals rfl
  · obtain ⟨a, us, rfl, ra, ok, q⟩ := h
    refine ⟨_, (pss_one (ps_ret (pe_and (pc gd G_has_words_of (hr.mono (by decide)) (by rfl) T.m_has_words_of T.F_has_words_of.kp T.b_has_words_of .nil pass0 (pa_cons (pv 0) (pa_cons (pe_tupX (pa_cons pe_str (pa_cons pe_str (pa_cons pe_str pa_nil)))) pa_nil))) (pe_and (pe_cmpR op_in_seq pe_str (pv 0) (by rfl)) (pe_one (pc gd G_off_has_home (hr.mono (by decide)) (by rfl) T.m_off_has_home T.F_off_has_home.kp T.b_off_has_home .nil pass0 (pa_cons (pv 0) pa_nil))))))), ?_⟩
    exact s_ret (ev_is (ev_andV (ev_hwo (ev_var rfl) ra (er_3 rfl rfl rfl) ok) fun _ => ev_andV (ev_inL rfl (ev_var rfl) ra) fun _ => ev_call (ea_cons (ev_var rfl) ea_nil) (sv_ohh ra)) (congrArg V.bl (by unfold pGive; rw [Bool.and_assoc]))) q
theorem ok_is_move_row (T : Txt K mg w) (G_has_words_of : FnG P w K mg base CX0 3 T.f_has_words_of T.fd_has_words_of ["value", "words"] (sp_hwo K)) (G_off_has_home : FnG P w K mg base CX0 1 T.f_off_has_home T.fd_off_has_home ["row"] (sp_ohh K)) (G_tests_are_ahead : FnG P w K mg base CX0 1 T.f_tests_are_ahead T.fd_tests_are_ahead ["row", "word"] (sp_taa K)) : FnG P w K mg base CX0 4 T.f_is_move_row T.fd_is_move_row ["value"] (sp_row K pMove) := by
  refine okG T.F_is_move_row sc_is_move_row (fun vs H Q E h => ?_) (fun cdv A outer s H vs Q E gd hr h => ?_)
  · obtain ⟨_, _, rfl, _⟩ := h
    all_goals rfl
  · obtain ⟨a, us, rfl, ra, ok, q⟩ := h
    refine ⟨_, (pss_cons (ps_if (pt_not (pt_val (pc gd G_has_words_of (hr.mono (by decide)) (by rfl) T.m_has_words_of T.F_has_words_of.kp T.b_has_words_of .nil pass0 (pa_cons (pv 0) (pa_cons (pe_tupX (pa_cons pe_str (pa_cons pe_str (pa_cons pe_str (pa_cons pe_str (pa_cons pe_str (pa_cons pe_str pa_nil))))))) pa_nil))))) (pss_one (ps_ret pe_bl)) pss_nil) (pss_cons (ps_if (pt_cmpR (op_eqD (roomU hr)) (pv 0) (pe_tupX pa_nil) (nomark _)) (pss_one (ps_ret pe_bl)) pss_nil) (pss_cons (ps_if ((pw_or (pt_cmpR op_notIn_seq pe_str (pv 0) (by rfl)) (pw_or1 ((pw_and (pt_cmpR op_in_seq pe_str (pv 0) (by rfl)) (pw_and1 ((pw_or (pt_cmpR op_in_seq pe_str (pv 0) (by rfl)) (pw_or1 (pt_cmpR op_in_seq pe_str (pv 0) (by rfl))))).pt))).pt))).pt (pss_one (ps_ret pe_bl)) pss_nil) (pss_one (ps_ret (pe_and (pc gd G_off_has_home (hr.mono (by decide)) (by rfl) T.m_off_has_home T.F_off_has_home.kp T.b_off_has_home .nil pass0 (pa_cons (pv 0) pa_nil)) (pe_and (pc gd G_tests_are_ahead (hr.mono (by decide)) (by rfl) T.m_tests_are_ahead T.F_tests_are_ahead.kp T.b_tests_are_ahead .nil pass0 (pa_cons (pv 0) (pa_cons pe_str pa_nil))) (pe_one (pc gd G_tests_are_ahead (hr.mono (by decide)) (by rfl) T.m_tests_are_ahead T.F_tests_are_ahead.kp T.b_tests_are_ahead .nil pass0 (pa_cons (pv 0) (pa_cons pe_str pa_nil))))))))))), ?_⟩
    refine q_when (b := !pW us [.set, .home, .add, .look, .tri, .off]) (et_not (et_B (ev_hwo (ev_var rfl) ra (er_tup (us := [.set, .home, .add, .look, .tri, .off]) (ea_cons (ev_lit rfl) (ea_cons (ev_lit rfl) (ea_cons (ev_lit rfl) (ea_cons (ev_lit rfl) (ea_cons (ev_lit rfl) (ea_cons (ev_lit rfl) ea_nil)))))) (by show 6 ≤ 1000; omega)) ok))) (fun hb H1 e1 => s_ret (ev_is ev_c (cbl (b := pMove us) ?_)) fun H2 e2 => q H2 (e1.trans e2)) fun hb H1 e1 => ?_
    · rw [Bool.not_eq_true'] at hb
      unfold pMove
      rw [hb, Bool.false_and]
    rw [Bool.not_eq_false'] at hb
    refine q_when (et_test (ev_eqW (us := us) (ev_var rfl) (ra.ex e1) er_0)) (fun hc H2 e2 => s_ret (ev_is ev_c (cbl (b := pMove us) ?_)) fun H3 e3 => q H3 ((e1.trans e2).trans e3)) fun hc H2 e2 => ?_
    · unfold pMove
      rw [hb, hc, Bool.true_or, Bool.and_true]
    have r2 := (ra.ex e1).ex e2
    refine q_when (b := !decide (Wd.set ∈ us) || decide (Wd.tri ∈ us) && (decide (Wd.add ∈ us) || decide (Wd.look ∈ us))) (et_or (et_test (ev_niL rfl (ev_var rfl) r2)) fun _ => et_and (et_test (ev_inL rfl (ev_var rfl) r2)) fun _ => et_or (et_test (ev_inL rfl (ev_var rfl) r2)) fun _ => et_test (ev_inL rfl (ev_var rfl) r2)) (fun hd H3 e3 => s_ret (ev_is ev_c (cbl (b := pMove us) ?_)) fun H4 e4 => q H4 (((e1.trans e2).trans e3).trans e4)) fun hd H3 e3 => ?_
    · unfold pMove
      rw [hb, hc, hd]
      rfl
    refine s_ret (ev_is (ev_andV (ev_call (ea_cons (ev_var rfl) ea_nil) (sv_ohh (r2.ex e3))) fun _ => ev_andV (ev_call (ea_cons (ev_var rfl) (ea_cons (ev_lit rfl) ea_nil)) (sv_taa (w := .set) (r2.ex e3))) fun _ => ev_call (ea_cons (ev_var rfl) (ea_cons (ev_lit rfl) ea_nil)) (sv_taa (w := .off) (r2.ex e3))) (congrArg V.bl ?_)) fun H4 e4 => q H4 (((e1.trans e2).trans e3).trans e4)
    unfold pMove
    rw [hb, hc, hd, Bool.and_assoc]
    rfl
/-- a tuple of rows -/
theorem rows_at {T : Txt K mg w} : DpAll K H [.ref T.g0_LIFT_ROWS, .ref T.g1_LIFT_ROWS, .ref T.g2_LIFT_ROWS, .ref T.g3_LIFT_ROWS, .ref T.g4_LIFT_ROWS, .ref T.g5_LIFT_ROWS] (liftRows.map dRow) :=
  .cons (.tup (T.s0_LIFT_ROWS H) (dp_ws H [])) (.cons (.tup (T.s1_LIFT_ROWS H) (dp_ws H [.set])) (.cons (.tup (T.s2_LIFT_ROWS H) (dp_ws H [.off])) (.cons (.tup (T.s3_LIFT_ROWS H) (dp_ws H [.set, .off])) (.cons (.tup (T.s4_LIFT_ROWS H) (dp_ws H [.off, .set])) (.cons (.tup (T.s5_LIFT_ROWS H) (dp_ws H [.both])) .nil)))))
theorem ok_is_lift_row (T : Txt K mg w) (G_has_words_of : FnG P w K mg base CX0 3 T.f_has_words_of T.fd_has_words_of ["value", "words"] (sp_hwo K)) : FnG P w K mg base CX0 4 T.f_is_lift_row T.fd_is_lift_row ["value"] (sp_row K pLift) := by
  refine okG T.F_is_lift_row sc_is_lift_row (fun vs H Q E h => ?_) (fun cdv A outer s H vs Q E gd hr h => ?_)
  · obtain ⟨_, _, rfl, _⟩ := h
    all_goals rfl
  · obtain ⟨a, us, rfl, ra, ok, q⟩ := h
    refine ⟨_, (pss_one (ps_ret (pe_and (pc gd G_has_words_of (hr.mono (by decide)) (by rfl) T.m_has_words_of T.F_has_words_of.kp T.b_has_words_of .nil pass0 (pa_cons (pv 0) (pa_cons (pe_tupX (pa_cons pe_str (pa_cons pe_str (pa_cons pe_str pa_nil)))) pa_nil))) (pe_one (pe_cmpR (op_inDT (roomW hr)) (pv 0) (pe_glob (v := .ref T.g_LIFT_ROWS) (by rfl) T.m_LIFT_ROWS rfl) (by rfl)))))), ?_⟩
    refine s_ret (ev_andV (ev_hwo (ev_var rfl) ra (er_3 rfl rfl rfl) ok) fun _ => ev_op (ev_var rfl) ev_c fun H1 e1 Q q => ⟨dRow us, liftRows.map dRow, (ra.ex e1).dp, .tup (T.s_LIFT_ROWS H1) rows_at, row_shaped us, rowsT_shaped _, ?_⟩) q
    rw [any_row]
    exact q H1 (Ex.refl H1)
def RowChk (T : Txt K mg w) (f : Addr) (sp : Sp) : Prop := (f = T.f_is_take_row ∧ sp = sp_row K pTake) ∨ (f = T.f_is_give_row ∧ sp = sp_row K pGive) ∨ (f = T.f_is_move_row ∧ sp = sp_row K pMove) ∨ (f = T.f_is_lift_row ∧ sp = sp_row K pLift)
theorem rowChecks (T : Txt K mg w) (G1 : FnG P w K mg base CX0 4 T.f_is_take_row T.fd_is_take_row ["value"] (sp_row K pTake)) (G2 : FnG P w K mg base CX0 4 T.f_is_give_row T.fd_is_give_row ["value"] (sp_row K pGive)) (G3 : FnG P w K mg base CX0 4 T.f_is_move_row T.fd_is_move_row ["value"] (sp_row K pMove)) (G4 : FnG P w K mg base CX0 4 T.f_is_lift_row T.fd_is_lift_row ["value"] (sp_row K pLift)) :
    ∀ f sp, RowChk T f sp → HeldG P w K mg base 4 f sp := by
  intro f sp h
  rcases h with ⟨rfl, rfl⟩ | ⟨rfl, rfl⟩ | ⟨rfl, rfl⟩ | ⟨rfl, rfl⟩
  · exact ⟨_, _, G1, T.F_is_take_row.kp, T.b_is_take_row⟩
  · exact ⟨_, _, G2, T.F_is_give_row.kp, T.b_is_give_row⟩
  · exact ⟨_, _, G3, T.F_is_move_row.kp, T.b_is_move_row⟩
  · exact ⟨_, _, G4, T.F_is_lift_row.kp, T.b_is_lift_row⟩
theorem row_fn (T : Txt K mg w) {k : Wd} (hk : k ∈ kindRows) : ∃ f, KDct K w T.g_ROW_CHECKS k.s (.ref f) ∧ RowChk T f (sp_row K (pRow k)) := by
  simp only [kindRows, List.mem_cons, List.not_mem_nil, or_false] at hk
  rcases hk with rfl | rfl | rfl | rfl
  · exact ⟨_, T.k_ROW_CHECKS_take, .inl ⟨rfl, rfl⟩⟩
  · exact ⟨_, T.k_ROW_CHECKS_give, .inr (.inl ⟨rfl, rfl⟩)⟩
  · exact ⟨_, T.k_ROW_CHECKS_move, .inr (.inr (.inl ⟨rfl, rfl⟩))⟩
  · exact ⟨_, T.k_ROW_CHECKS_lift, .inr (.inr (.inr ⟨rfl, rfl⟩))⟩
theorem ok_is_row (T : Txt K mg w) (G_is_take_row : FnG P w K mg base CX0 4 T.f_is_take_row T.fd_is_take_row ["value"] (sp_row K pTake)) (G_is_give_row : FnG P w K mg base CX0 4 T.f_is_give_row T.fd_is_give_row ["value"] (sp_row K pGive)) (G_is_move_row : FnG P w K mg base CX0 4 T.f_is_move_row T.fd_is_move_row ["value"] (sp_row K pMove)) (G_is_lift_row : FnG P w K mg base CX0 4 T.f_is_lift_row T.fd_is_lift_row ["value"] (sp_row K pLift)) : FnG P w K mg base CX0 5 T.f_is_row T.fd_is_row ["kind", "value"] (sp_isrow K) := by
  refine okG T.F_is_row sc_is_row (fun vs H Q E h => ?_) (fun cdv A outer s H vs Q E gd hr h => ?_)
  · obtain ⟨_, _, _, rfl, _⟩ := h
    all_goals rfl
  · obtain ⟨k, a, us, rfl, hk, ra, ok, q⟩ := h
    refine ⟨_, (pss_cons (ps_set (i := 2) sc_is_row.nd rfl (Or.inl rfl) (pe_ix ix_kdict (pe_glob (v := .ref T.g_ROW_CHECKS) (by rfl) T.m_ROW_CHECKS rfl) (pv 0) (fun _ _ => rfl))) (pss_one (ps_ret (pcH (i := 2) gd (rowChecks T G_is_take_row G_is_give_row G_is_move_row G_is_lift_row) (hr.mono (by decide)) rfl (Or.inl rfl) (pa_cons (pv 1) pa_nil))))), ?_⟩
    obtain ⟨f, kd, rc⟩ := row_fn T hk
    refine q_asg (v := .ref f) (ev_op ev_c (ev_var rfl) fun H1 _ Q q => ⟨_, _, _, rfl, rfl, kd, q H1 (Ex.refl H1)⟩) fun H1 e1 => ?_
    exact s_retR ⟨f, _, rfl, rc, ea_cons (ev_var rfl) ea_nil H1 (Ex.refl H1) _ fun H2 e2 => sv_row (f := pRow k) (ra.ex (e1.trans e2)) ok H2 (Ex.refl H2) _ (fun H3 e3 => q H3 ((e1.trans e2).trans e3)) _⟩
theorem ok_fits_batch (T : Txt K mg w)  : FnG P w K mg base CX0 1 T.f_fits_batch T.fd_fits_batch ["row", "batch"] (sp_fitb K) := by
  refine okG T.F_fits_batch sc_fits_batch (fun vs H Q E h => ?_) (fun cdv A outer s H vs Q E gd hr h => ?_)
  · obtain ⟨_, _, _, rfl, _⟩ := h
    all_goals rfl
  · obtain ⟨a, us, n, rfl, ra, ne, q⟩ := h
    refine ⟨_, (pss_one (ps_ret (pe_or (pe_cmpR op_eq (pv 1) pe_int (nomark _)) (pe_one (pe_cmpR op_eq (pe_ix ix_tup (pv 0) (pe_un un_neg pe_int) (fun _ _ => rfl)) pe_str (nomark _)))))), ?_⟩
    obtain ⟨x, hx, hat⟩ := at_last ne
    refine s_ret (ev_is (ev_orV (a := decide (n = 1)) (ev_is (ev_op (ev_var rfl) ev_c (rv_eq rfl)) (congrArg V.bl (nV_eq n 1))) fun _ => ev_is (ev_op (ev_op (ev_var rfl) (ev_un ev_c ru_neg) (rv_ixT ra.sq hat)) (ev_lit rfl) (rv_eq rfl)) (congrArg V.bl (wV_eq x .live))) (congrArg V.bl ?_)) q
    unfold pBatch
    rw [hx]
    congr 1
    exact decide_eq_decide.mpr ⟨fun e => by rw [e], fun e => Option.some.inj e⟩
theorem ok_fits_shared (T : Txt K mg w)  : FnG P w K mg base CX0 1 T.f_fits_shared T.fd_fits_shared ["row", "shared"] (sp_fits K) := by
  refine okG T.F_fits_shared sc_fits_shared (fun vs H Q E h => ?_) (fun cdv A outer s H vs Q E gd hr h => ?_)
  · obtain ⟨_, _, _, rfl, _⟩ := h
    all_goals rfl
  · obtain ⟨a, us, b, rfl, ra, q⟩ := h
    refine ⟨_, (pss_one (ps_ret (pe_or (pv 1) (pe_or (pe_cmpR (op_eqD (roomU hr)) (pv 0) (pe_tupX pa_nil) (nomark _)) (pe_one (pe_cmpR op_eq (pe_ix ix_tup (pv 0) pe_int (fun _ _ => rfl)) pe_str (nomark _))))))), ?_⟩
    refine s_ret (ev_is (ev_orV (ev_var rfl) fun _ => ev_orV (a := decide (us = [])) (b := decide (us.head? = some .home)) (ev_eqW (us := us) (ev_var rfl) ra er_0) fun hne => ?_) (cbl (b := pShared us b) (by unfold pShared; rw [Bool.or_assoc]))) q
    cases us with
    | nil => cases hne
    | cons x us =>
      refine ev_is (ev_op (ev_op (ev_var rfl) ev_c (rv_ixT ra.sq (atI_nat (j := 0) rfl))) (ev_lit rfl) (rv_eq rfl)) (congrArg V.bl ((wV_eq x .home).trans ?_))
      exact decide_eq_decide.mpr ⟨fun e => by rw [e]; rfl, fun e => Option.some.inj e⟩
theorem ok_check_fails (T : Txt K mg w) (G_is_word : FnG P w K mg base CX0 1 T.f_is_word T.fd_is_word ["value", "words"] (sp_isword K)) : FnG P w K mg base CX0 2 T.f_check_fails T.fd_check_fails ["value"] sp_cfails := by
  refine okG T.F_check_fails sc_check_fails (fun vs H Q E h => ?_) (fun cdv A outer s H vs Q E gd hr h => ?_)
  · obtain ⟨_, rfl, _⟩ := h
    all_goals rfl
  · obtain ⟨w0, rfl, hw, q⟩ := h
    refine ⟨_, (pss_one (ps_if (pt_not (pt_val (pc gd G_is_word (hr.mono (by decide)) (by rfl) T.m_is_word T.F_is_word.kp T.b_is_word .nil pass0 (pa_cons (pv 0) (pa_cons (pe_glob (v := .ref T.g_FAILS) (by rfl) T.m_FAILS rfl) pa_nil))))) (pss_one ps_never) pss_nil)), ?_⟩
    refine s_when (b := false) (et_is (et_not (et_B (ev_call (ea_cons (ev_var rfl) (ea_cons ev_c ea_nil)) (sv_isword (ws := failWs) (T.s_FAILS H))))) (by rw [decide_eq_true hw]; rfl)) (fun z => nomatch z) fun _ H1 e1 => q H1 e1
theorem ok_check_bool (T : Txt K mg w)  : FnG P w K mg base CX0 1 T.f_check_bool T.fd_check_bool ["name", "value"] sp_cbool := by
  refine okG T.F_check_bool sc_check_bool (fun vs H Q E h => ?_) (fun cdv A outer s H vs Q E gd hr h => ?_)
  · obtain ⟨_, _, rfl, _⟩ := h
    all_goals rfl
  · obtain ⟨x, b, rfl, q⟩ := h
    refine ⟨_, (pss_one (ps_if (pt_not (pt_val (pe_callB call_isi (by rfl) T.z_isinstance boot_isinstance (pa_cons (pv 1) (pa_cons (pe_bltn (v := .ty "bool") (u := .type "bool") (by rfl) T.z_bool (by decide +kernel) rfl) pa_nil))))) (pss_one ps_never) pss_nil)), ?_⟩
    exact s_when (b := false) (et_not (a := true) (et_B (ev_cb (ea_cons (ev_var rfl) (ea_cons ev_c ea_nil)) (rc_isi (.ty "bool") (fun _ => .base (.bl b)) (kit_ty (by decide +kernel)))))) (fun z => nomatch z) fun _ H1 e1 => q H1 e1
theorem ok_check_holds (T : Txt K mg w) (G_is_list : FnG P w K mg base CX0 1 T.f_is_list T.fd_is_list ["value"] (sp_islist K)) (G_are_different_words : FnG P w K mg base CX0 2 T.f_are_different_words T.fd_are_different_words ["values", "words"] (sp_adw K)) : FnG P w K mg base CX0 3 T.f_check_holds T.fd_check_holds ["value"] (sp_cholds K) := by
  refine okG T.F_check_holds sc_check_holds (fun vs H Q E h => ?_) (fun cdv A outer s H vs Q E gd hr h => ?_)
  · obtain ⟨_, _, rfl, _⟩ := h
    all_goals rfl
  · obtain ⟨a, us, rfl, ra, hs, q⟩ := h
    refine ⟨_, (pss_one (ps_if ((pw_or (pt_not (pt_val (pc gd G_is_list (hr.mono (by decide)) (by rfl) T.m_is_list T.F_is_list.kp T.b_is_list .nil pass0 (pa_cons (pv 0) pa_nil)))) (pw_or1 (pt_not (pt_val (pc gd G_are_different_words (hr.mono (by decide)) (by rfl) T.m_are_different_words T.F_are_different_words.kp T.b_are_different_words .nil pass0 (pa_cons (pv 0) (pa_cons (pe_glob (v := .ref T.g_ROW_KINDS) (by rfl) T.m_ROW_KINDS rfl) pa_nil)))))))).pt (pss_one ps_never) pss_nil)), ?_⟩
    refine s_when (b := false) (et_or (a := false) (b := false) (et_not (a := true) (et_B (ev_call (ea_cons (ev_var rfl) ea_nil) fun H1 e1 Q q E => ⟨a, us, rfl, ra.ex e1, q⟩))) fun _ => et_not (a := true) (et_B (ev_is (ev_call (ea_cons (ev_var rfl) (ea_cons ev_c ea_nil)) (sv_adw ra (T.s_ROW_KINDS H) (ws := kindRows) (holds_nd hs) (by have := holds_ln hs; omega))) (congrArg V.bl (pW_kinds hs))))) (fun z => nomatch z) fun _ H1 e1 => q H1 e1
theorem ok_check_batch (T : Txt K mg w) (G_is_an_integer : FnG P w K mg base CX0 1 T.f_is_an_integer T.fd_is_an_integer ["value"] MyT.sp_is_an_integer) : FnG P w K mg base CX0 2 T.f_check_batch T.fd_check_batch ["value"] sp_cbatch := by
  refine okG T.F_check_batch sc_check_batch (fun vs H Q E h => ?_) (fun cdv A outer s H vs Q E gd hr h => ?_)
  · obtain ⟨_, rfl, _⟩ := h
    all_goals rfl
  · obtain ⟨n, rfl, h1, h2, q⟩ := h
    refine ⟨_, (pss_one (ps_if ((pw_or (pt_not (pt_val (pc gd G_is_an_integer (hr.mono (by decide)) (by rfl) T.m_is_an_integer T.F_is_an_integer.kp T.b_is_an_integer .nil pass0 (pa_cons (pv 0) pa_nil)))) (pw_or1 (pt_not (pt_chain op_le op_le pe_int (pv 0) (pe_glob (v := .int 50) (by rfl) T.m_MOST_BATCH ⟨_, rfl⟩)))))).pt (pss_one ps_never) pss_nil)), ?_⟩
    refine s_when (b := false) (et_or (a := false) (b := false) (et_not (a := true) (et_B (ev_call (ea_cons (ev_var rfl) ea_nil) fun H1 e1 Q q E => ⟨n, rfl, q⟩))) fun _ => et_not (a := true) (et_test (ev_chain (b := true) (c := true) ev_c (ev_var rfl) (rv_bl rv_I0 (decide_eq_true (by omega))) (fun _ => ev_c) fun _ => rv_bl rv_I0 (decide_eq_true (by omega))))) (fun z => nomatch z) fun _ H1 e1 => q H1 e1
end
end My
namespace My
open PySem PySem.Spec PyProof.Rows L2 GL Evl StX SkE
/-! ### dicts of parts, made and merged -/
theorem merge_kvs (f : Pt → V) : ∀ (ls ks : List Pt), (ks ++ ls).Nodup → mergeK (kvs ks f) (kvs ls f) = kvs (ks ++ ls) f
  | [], ks, _ => by rw [List.append_nil]; rfl
  | p :: ls, ks, nd => by
    have np : p ∉ ks := fun h => (List.nodup_append.mp nd).2.2 p h p List.mem_cons_self rfl
    have e : putK (kvs ks f) (.inr p.s) (f p) = kvs (ks ++ [p]) f := by
      rw [put_new np]
      have : put f p (f p) = f := funext fun q => by
        unfold put
        split
        · rename_i h
          rw [h]
        · rfl
      rw [this]
    have ih := merge_kvs f ls (ks ++ [p]) (by rw [List.append_assoc]; exact nd)
    rw [List.append_assoc] at ih
    show mergeK (putK (kvs ks f) (.inr p.s) (f p)) (kvs ls f) = _
    rw [e]
    exact ih
theorem made_kvs (f : Pt → V) {ks : List Pt} (nd : ks.Nodup) : mergeK [] (kvs ks f) = kvs ks f := merge_kvs f ks [] nd
def bookKs : List Pt := [.take, .give, .move, .lift, .fails, .shared, .holds, .batch, .settles]
theorem bookKs_mem (p : Pt) : p ∈ bookKs := by cases p <;> decide
def bf (d : Addr) : List (Str × V) := putF "_parts" (.ref d) []
theorem bf_parts (d : Addr) : (bf d).lookup ("_parts" : Str) = some (.ref d) := by
  unfold bf
  rw [lookup_putF, if_pos rfl]
theorem bf_no (d : Addr) {m : Str} (h : ¬ m = "_parts") : (bf d).lookup m = none := by
  unfold bf
  rw [lookup_putF, if_neg h]
  rfl
/-- at b a book of these rules -/
structure BookP (K : PySem.W.Frag) (C : Addr) (H : Hp) (b dx d : Addr) (r : Ru) : Prop where
  ob : H b = some (.ins C dx (bf d))
  di : DictAt K H d bookKs r
  ok : Ok r
def BookAt (K : PySem.W.Frag) (C : Addr) (H : Hp) (b : Addr) (r : Ru) : Prop := ∃ dx d, BookP K C H b dx d r
section
variable {K : PySem.W.Frag} {C : Addr} {H H' : Hp} {a b dx d : Addr} {r : Ru}
theorem BookP.ex (h : BookP K C H b dx d r) (e : Ex H H') : BookP K C H' b dx d r := ⟨e _ _ h.ob, h.di.ex e, h.ok⟩
theorem BookAt.ex (h : BookAt K C H b r) (e : Ex H H') : BookAt K C H' b r := by
  obtain ⟨dx, d, p⟩ := h
  exact ⟨dx, d, p.ex e⟩
theorem BookP.exB (h : BookP K C H b dx d r) (e : ExB a H H') (n : NoTup H a) (nb : b ≠ a) (nd : d ≠ a) : BookP K C H' b dx d r := ⟨e _ _ nb h.ob, h.di.exB e nd n, h.ok⟩
/-- a list changes -/
theorem BookAt.exL (h : BookAt K C H b r) (e : ExB a H H') {xs : List V} (ha : H a = some (.lst xs)) : BookAt K C H' b r := by
  obtain ⟨dx, d, p⟩ := h
  refine ⟨dx, d, p.exB e (NoTup.lst ha) (fun z => ?_) (fun z => ?_)⟩
  · have := p.ob
    rw [z, ha] at this
    cases this
  · obtain ⟨f, h1, _⟩ := p.di
    rw [z, ha] at h1
    cases h1
theorem DictAt.exL {ks : List Pt} (h : DictAt K H d ks r) (e : ExB a H H') {xs : List V} (ha : H a = some (.lst xs)) : DictAt K H' d ks r := by
  refine h.exB e (fun z => ?_) (NoTup.lst ha)
  obtain ⟨f, h1, _⟩ := h
  rw [z, ha] at h1
  cases h1
/-- behind a lock -/
theorem unlock_ex {u : HO} (e : ExB d H H') (h : H d = some u) : Ex H (upd H' d u) := fun b o q => by
  by_cases z : b = d
  · rw [z, upd_same, ← h, ← z]
    exact q
  · rw [upd_ne z]
    exact e b o z q
end
/-- a book whose dict is new -/
def BookNew (K : PySem.W.Frag) (C : Addr) (H0 H : Hp) (b : Addr) (r : Ru) : Prop := ∃ dx d, H0 d = none ∧ BookP K C H b dx d r
theorem BookNew.at {K : PySem.W.Frag} {C : Addr} {H0 H : Hp} {b : Addr} {r : Ru} (h : BookNew K C H0 H b r) : BookAt K C H b r := by
  obtain ⟨dx, d, _, p⟩ := h
  exact ⟨dx, d, p⟩
theorem BookNew.old {K : PySem.W.Frag} {C : Addr} {G H0 H : Hp} {b : Addr} {r : Ru} (h : BookNew K C H0 H b r) (e : Ex G H0) : BookNew K C G H b r := by
  obtain ⟨dx, d, n, p⟩ := h
  exact ⟨dx, d, fresh_back e n, p⟩
def sp_Binit (K : PySem.W.Frag) (C : Addr) : Sp := fun vs H Q _ => ∃ H0 x dx r, ∃ f : Pt → V, vs = .ref x :: bookKs.map f ∧ Ex H0 H ∧ H0 x = none ∧ H x = some (.ins C dx []) ∧ (∀ p, (r.get p).At K H0 (f p)) ∧ Ok r ∧ ∀ H', Ex H0 H' → BookNew K C H0 H' x r → Q .non H'
def sp_Beq (K : PySem.W.Frag) (C : Addr) : Sp := fun vs H Q _ => (∃ a b r l, vs = [.ref a, .ref b] ∧ BookAt K C H a r ∧ BookAt K C H b l ∧ RetV (.bl (decide (r = l))) H Q) ∨
  (∃ a y T, vs = [.ref a, y] ∧ (∀ H1, Ex H H1 → TyX K H1 y (.type T)) ∧ T ∈ kinds ∧ RetV (.bl false) H Q)
section
variable {P : Program} {w : World} {K : PySem.W.Frag} {mg : Str → Option Value} {base : Heap} {C : Addr} {H H' : Hp} {σ : L2.St} {te tb : TE} {E : XK} {D : Ends} {tz : TS} {a b d : Addr} {r l : Ru} {us : Rw} {ks : List Pt} {x : V}
theorem ok_check_rows (T : Txt K mg w) (G_is_row : FnG P w K mg base CX0 5 T.f_is_row T.fd_is_row ["kind", "value"] (sp_isrow K)) : FnG P w K mg base CX0 6 T.f_check_rows T.fd_check_rows ["rows"] (sp_crows K) := by
  refine okG T.F_check_rows sc_check_rows (fun vs H Q E h => ?_) (fun cdv A outer s H vs Q E gd hr h => ?_)
  · obtain ⟨_, _, rfl, _⟩ := h
    all_goals rfl
  · obtain ⟨d, r, rfl, ⟨f, hd, hf⟩, ok, q⟩ := h
    refine ⟨_, (pss_one (ps_lock (ps_for PassesOwn.never rfl (pi_items (pv 0)) (pg_tup rfl (pgs_cons (pg_name (i := 1) sc_check_rows.nd rfl (Or.inl rfl) (Or.inr rfl)) (pgs_cons (pg_name (i := 2) sc_check_rows.nd rfl (Or.inl rfl) (Or.inr rfl)) pgs_nil))) (pss_one (ps_if (pt_not (pt_val (pc gd G_is_row (hr.mono (by decide)) (by rfl) T.m_is_row T.F_is_row.kp T.b_is_row .nil pass0 (pa_cons (pv 1) (pa_cons (pv 2) pa_nil))))) (pss_one ps_never) pss_nil))))), ?_⟩
    refine ⟨d, _, hd, True.intro, fun od => ⟨_, rfl, d, od, kvs rowKs f, rfl, upd_same, for_it walk_items (fun i σ' H' => ∃ x y, σ' = [some (.ref d), x, y] ∧ ExB d H H' ∧ H' d = some (.frz od (.dK (kvs rowKs f)))) ⟨_, _, rfl, ExB.set, upd_same⟩ (fun i σ' H' _ p => ?_) (fun i v σ' H' H2 hi p y => ?_) (fun σ' H' p => ?_)⟩⟩
    · obtain ⟨_, _, _, _, z⟩ := p
      exact z
    · obtain ⟨_, _, rfl, x1, h1⟩ := p
      obtain ⟨T1, x, z, rfl, nT, rfl, e1, e2⟩ := y
      have hi' : i < rowKs.length := by rwa [List.length_map] at hi
      obtain ⟨p, hp⟩ : ∃ p, rowKs[i]? = some p := ⟨_, List.getElem?_eq_getElem hi'⟩
      have hk : (kvs rowKs f)[i]? = some (.inr p.s, f p) := by rw [List.getElem?_map, hp]; rfl
      dsimp only at e1 e2
      rw [hk] at e1 e2
      cases e1
      cases e2
      have mp := List.mem_of_getElem? hp
      obtain ⟨o1, o2, o3, o4, o5⟩ := rows_ok ok mp
      have at1 := hf p mp
      rw [o3] at at1
      obtain ⟨a, ea, ra⟩ := at1
      have ra2 := (ra.exB x1 (NoTup.dK hd)).ex (Ex.new (o := .tup [kV (.inr p.s), f p]) nT)
      refine ⟨T1, _, rfl, st_of upd_same, rfl, _, _, rfl, _, _, rfl, rfl, ?_⟩
      refine s_when (b := false) (et_is (et_not (et_B (ev_call (ea_cons (ev_is (ev_var rfl) o5) (ea_cons (ev_is (ev_var rfl) ea) ea_nil)) (sv_isrow o4 ra2 o1)))) (by rw [o2]; rfl)) (fun z => nomatch z) fun _ H3 e3 => ⟨_, _, rfl, ?_, ?_⟩
      · exact fun b o n hb => e3 _ _ (Ex.new nT _ _ (x1 b o n hb))
      · exact e3 _ _ (Ex.new nT _ _ h1)
    · obtain ⟨_, _, rfl, x1, h1⟩ := p
      exact ⟨h1, q _ (unlock_ex x1 hd)⟩
/-- a part evaluates -/
def EvP (K : PySem.W.Frag) (te : TE) (σ : L2.St) (H : Hp) (p : Pv) : Prop := ∀ H1, Ex H H1 → ∀ Q : VK, (∀ v H2, Ex H1 H2 → p.At K H2 v → Q v H2) → te σ H1 Q
theorem EvP.mono {p : Pv} (e : Ex H H') (h : EvP K te σ H p) : EvP K te σ H' p := fun H1 a Q q => h H1 (e.trans a) Q q
theorem cb_L {r : List V → Hp → VK → Prop} {Q : VK} {xs : List V} (h : EvL te σ H xs) (k : ∀ p H1, H p = none → Ex H H1 → H1 p = some (.lst xs) → r [.ref p] H1 Q) : tCB r (tCons te tNil) σ H Q := h H (Ex.refl H) _ fun p H1 hp e h1 => k p H1 hp e h1
theorem sv_crows (h : DictAt K H d rowKs r) (ok : Ok r) : SpV (sp_crows K) [.ref d] H .non := fun _ e _ q _ => ⟨d, r, rfl, h.ex e, ok, q⟩
theorem ok_Binit (T : Txt K mg w) (G_check_rows : FnG P w K mg base CX0 6 T.f_check_rows T.fd_check_rows ["rows"] (sp_crows K)) (G_check_fails : FnG P w K mg base CX0 2 T.f_check_fails T.fd_check_fails ["value"] sp_cfails) (G_check_bool : FnG P w K mg base CX0 1 T.f_check_bool T.fd_check_bool ["name", "value"] sp_cbool) (G_check_holds : FnG P w K mg base CX0 3 T.f_check_holds T.fd_check_holds ["value"] (sp_cholds K)) (G_check_batch : FnG P w K mg base CX0 2 T.f_check_batch T.fd_check_batch ["value"] sp_cbatch) (G_fits_batch : FnG P w K mg base CX0 1 T.f_fits_batch T.fd_fits_batch ["row", "batch"] (sp_fitb K)) (G_fits_shared : FnG P w K mg base CX0 1 T.f_fits_shared T.fd_fits_shared ["row", "shared"] (sp_fits K)) : FnG P w K mg base CX0 7 T.f_Binit T.fd_Binit ["self", "take", "give", "move", "lift", "fails", "shared", "holds", "batch", "settles"] (sp_Binit K T.C) := by
  refine okG T.F_Binit sc_Binit (fun vs H Q E h => ?_) (fun cdv A outer s H vs Q E gd hr h => ?_)
  · obtain ⟨_, _, _, _, _, rfl, _⟩ := h
    all_goals rfl
  · obtain ⟨H0, x, dx, r, f, rfl, e0, hx0, hx, hf, ok, q⟩ := h
    refine ⟨_, (pss_cons (ps_set (i := 10) sc_Binit.nd rfl (Or.inl rfl) (pe_disp (pps_cons pe_str (pv 1) (pps_cons pe_str (pv 2) (pps_cons pe_str (pv 3) (pps_cons pe_str (pv 4) pps_nil)))) rfl rfl (by simp) (by simp))) (pss_cons (ps_expr (pc gd G_check_rows (hr.mono (by decide)) (by rfl) T.m_check_rows T.F_check_rows.kp T.b_check_rows .nil pass0 (pa_cons (pv 10) pa_nil))) (pss_cons (ps_expr (pc gd G_check_fails (hr.mono (by decide)) (by rfl) T.m_check_fails T.F_check_fails.kp T.b_check_fails .nil pass0 (pa_cons (pv 5) pa_nil))) (pss_cons (ps_expr (pc gd G_check_bool (hr.mono (by decide)) (by rfl) T.m_check_bool T.F_check_bool.kp T.b_check_bool .nil pass0 (pa_cons pe_str (pa_cons (pv 6) pa_nil)))) (pss_cons (ps_expr (pc gd G_check_holds (hr.mono (by decide)) (by rfl) T.m_check_holds T.F_check_holds.kp T.b_check_holds .nil pass0 (pa_cons (pv 7) pa_nil))) (pss_cons (ps_expr (pc gd G_check_batch (hr.mono (by decide)) (by rfl) T.m_check_batch T.F_check_batch.kp T.b_check_batch .nil pass0 (pa_cons (pv 8) pa_nil))) (pss_cons (ps_expr (pc gd G_check_bool (hr.mono (by decide)) (by rfl) T.m_check_bool T.F_check_bool.kp T.b_check_bool .nil pass0 (pa_cons pe_str (pa_cons (pv 9) pa_nil)))) (pss_cons (ps_if (pt_not (pt_val (pc gd G_fits_batch (hr.mono (by decide)) (by rfl) T.m_fits_batch T.F_fits_batch.kp T.b_fits_batch .nil pass0 (pa_cons (pv 1) (pa_cons (pv 8) pa_nil))))) (pss_one ps_never) pss_nil) (pss_cons (ps_if (pt_not (pt_val (pc gd G_fits_shared (hr.mono (by decide)) (by rfl) T.m_fits_shared T.F_fits_shared.kp T.b_fits_shared .nil pass0 (pa_cons (pv 3) (pa_cons (pv 6) pa_nil))))) (pss_one ps_never) pss_nil) (pss_cons (ps_set (i := 11) sc_Binit.nd rfl (Or.inl rfl) (pe_callTy call_tuple_of (by rfl) T.z_tuple (by decide +kernel) (pa_cons (pe_lc (own := [("kind", 12)]) (g := gName 12) rfl sc_Binit.nd (pi_tup (pe_glob (v := .ref T.g_ROW_KINDS) (by rfl) T.m_ROW_KINDS rfl)) (blkOk_by (N := N_Binit) (sc := defScope s_Binit) (by decide +kernel)) (fun _ _ _ _ _ => (pg_name (i := 12) sc_Binit.nd rfl (Or.inl rfl) (Or.inr rfl))) (fun _ _ _ _ _ => pts_one (pt_cmpR (show OpR _ (compareOp .In) (rIn K false) from op_in_seq) (pv 12) (pv 7) (by rfl))) (fun _ _ _ _ _ => (pv 12))) pa_nil))) (pss_one (ps_fld (pv 0) (pe_starD (pv 10) (pps_cons pe_str (pv 5) (pps_cons pe_str (pv 6) (pps_cons pe_str (pv 11) (pps_cons pe_str (pv 8) (pps_cons pe_str (pv 9) pps_nil))))) rfl rfl (by simp) (by simp)) rfl)))))))))))), ?_⟩
    obtain ⟨at_, ta, xt⟩ := hf .take
    obtain ⟨am, tm, xm⟩ := hf .move
    obtain ⟨ah, th, xh⟩ := hf .holds
    have tfl : f .fails = wV r.fails := hf .fails
    have tsh : f .shared = .bl r.shared := hf .shared
    have tba : f .batch = nV r.batch := hf .batch
    have tse : f .settles = .bl r.settles := hf .settles
    -- rows
    refine q_asgR fun d hd => ?_
    refine ⟨f .take, rfl, f .give, rfl, f .move, rfl, f .lift, rfl, upd_same, kvs rowKs f, rfl, (by show 4 ≤ 15; omega), ?_⟩
    rw [made_kvs f (by decide)]
    have e1 : Ex H (upd (upd H d (.dK [])) d (.dK (kvs rowKs f))) := Ex.mut (Ex.new hd) hd
    have h1 : (upd (upd H d (.dK [])) d (.dK (kvs rowKs f))) d = some (.dK (kvs rowKs f)) := upd_same
    generalize upd (upd H d (.dK [])) d (.dK (kvs rowKs f)) = H1 at e1 h1
    have x1 := e0.trans e1
    have d1 : DictAt K H1 d rowKs r := ⟨f, h1, fun p _ => (hf p).ex x1⟩
    show tSeq _ _ _ _ H1
    refine q_drop (ev_call (ea_cons (ev_var rfl) ea_nil) (sv_crows d1 ok)) fun H2 e2 => ?_
    refine q_drop (ev_call (ea_cons (ev_is (ev_var rfl) tfl) ea_nil) (fun _ _ _ q _ => ⟨r.fails, rfl, ok.f, q⟩)) fun H3 e3 => ?_
    refine q_drop (ev_call (ea_cons ev_c (ea_cons (ev_is (ev_var rfl) tsh) ea_nil)) (fun _ _ _ q _ => ⟨_, r.shared, rfl, q⟩)) fun H4 e4 => ?_
    have x4 := x1.trans (e2.trans (e3.trans e4))
    refine q_drop (ev_call (ea_cons (ev_is (ev_var rfl) th) ea_nil) (fun _ e _ q _ => ⟨ah, r.holds, rfl, xh.ex (x4.trans e), ok.h, q⟩)) fun H5 e5 => ?_
    refine q_drop (ev_call (ea_cons (ev_is (ev_var rfl) tba) ea_nil) (fun _ e _ q _ => ⟨r.batch, rfl, ok.b.1, ok.b.2, q⟩)) fun H6 e6 => ?_
    refine q_drop (ev_call (ea_cons ev_c (ea_cons (ev_is (ev_var rfl) tse) ea_nil)) (fun _ _ _ q _ => ⟨_, r.settles, rfl, q⟩)) fun H7 e7 => ?_
    have x7 := x4.trans (e5.trans (e6.trans e7))
    have ne : r.take ≠ [] := fun z => by
      have := ok.t.2.1
      rw [z] at this
      cases this
    refine q_when (b := false) (et_is (et_not (et_B (ev_call (ea_cons (ev_is (ev_var rfl) ta) (ea_cons (ev_is (ev_var rfl) tba) ea_nil)) (z := .bl (pBatch r.take r.batch)) (fun _ e _ q _ => ⟨at_, r.take, r.batch, rfl, xt.ex (x7.trans e), ne, q⟩)))) (by rw [ok.t.2.2]; rfl)) (fun z => nomatch z) fun _ H8 e8 => ?_
    refine q_when (b := false) (et_is (et_not (et_B (ev_call (ea_cons (ev_is (ev_var rfl) tm) (ea_cons (ev_is (ev_var rfl) tsh) ea_nil)) (z := .bl (pShared r.move r.shared)) (fun _ e _ q _ => ⟨am, r.move, r.shared, rfl, xm.ex ((x7.trans e8).trans e), q⟩)))) (by rw [ok.m.2.2]; rfl)) (fun z => nomatch z) fun _ H9 e9 => ?_
    have x9 := (x7.trans e8).trans e9
    -- sorted_holds
    refine q_asgR (cb_L (el_lcW (us := kindRows) (fun k => decide (k ∈ r.holds)) wV ev_c (T.s_ROW_KINDS H9) (by show 4 ≤ 1000; omega) (fun _ => rfl) (fun u H10 e10 hu => et_test (ev_op (ev_var rfl) (ev_is (ev_var rfl) th) (rv_inW (xh.ex (x9.trans e10)).sq))) (fun u H10 e10 hu _ => ev_var rfl)) fun sl H10 hsl e10 h10 => ⟨sl, _, rfl, .inl ⟨sq_of h10, fun t ht => ?_⟩⟩)
    rw [holds_sorted ok.h]
    have e11 := e10.trans (Ex.new (o := .tup (r.holds.map wV)) ht)
    have h11 : (upd H10 t (.tup (r.holds.map wV))) t = some (.tup (r.holds.map wV)) := upd_same
    generalize upd H10 t (.tup (r.holds.map wV)) = H11 at e11 h11
    have x11 := x9.trans e11
    have y11 : Ex H1 H11 := (e2.trans (e3.trans (e4.trans (e5.trans (e6.trans (e7.trans (e8.trans e9))))))).trans e11
    -- self._parts
    show sFld _ _ _ _ _ _ H11
    refine fun pn hpn => ⟨_, rfl, upd_same, d, kvs rowKs f, rfl, .inl (Ex.new hpn _ _ (y11 _ _ h1)), (ne_of_none (y11 _ _ h1) hpn).symm, (by show 4 ≤ 1000; omega), fun q2 nq hq => ?_⟩
    have nxp : x ≠ pn := fun z => by
      have := Ex.trans y11 (Ex.refl _) x _ (e1 _ _ hx)
      rw [z, hpn] at this
      cases this
    have hx11 : H11 x = some (.ins T.C dx []) := y11 _ _ (e1 _ _ hx)
    have nxq : x ≠ q2 := fun z => by
      have : (upd H11 pn (.dK [])) x = some (.ins T.C dx []) := by rw [upd_ne nxp]; exact hx11
      rw [z, hq] at this
      cases this
    have hq11 : H11 q2 = none := by rwa [upd_ne nq] at hq
    have e5k : kvs rowKs f = kvs rowKs (put f .holds (.ref t)) := List.map_congr_left fun p hp => by
      have : p ≠ .holds := fun z => by subst z; revert hp; decide
      unfold put
      rw [if_neg this]
    have mk : mergeK (kvs rowKs f) (mergeK [] (kvs [.fails, .shared, .holds, .batch, .settles] (put f .holds (.ref t)))) = kvs bookKs (put f .holds (.ref t)) := by
      rw [made_kvs _ (by decide), e5k]
      exact merge_kvs _ _ _ (by decide)
    refine ⟨f .fails, rfl, f .shared, rfl, .ref t, rfl, f .batch, rfl, f .settles, rfl, by rw [upd_ne nq.symm, upd_same], upd_same, kvs [.fails, .shared, .holds, .batch, .settles] (put f .holds (.ref t)), rfl, (by show 5 ≤ 15; omega), _, rfl, x, T.C, dx, [], rfl, by rw [upd_ne nxp, upd_ne nxq, upd_ne nxq, upd_ne nxp, upd_ne nxp]; exact hx11, T.c_Book, T.n_parts, (by show 0 < 1000; omega), ?_⟩
    rw [mk]
    have hp0 : H0 pn = none := fresh_back x11 hpn
    have hq0 : H0 q2 = none := fresh_back x11 hq11
    have z8 : ∀ {G : Hp}, Ex G H11 → G pn = none → G q2 = none → Ex G (upd (upd (upd (upd (upd H11 pn (.dK [])) pn (.dK (kvs rowKs f))) q2 (.dK [])) q2 (.dK (mergeK [] (kvs [.fails, .shared, .holds, .batch, .settles] (put f .holds (.ref t)))))) pn (.dK (kvs bookKs (put f .holds (.ref t))))) := fun g g1 g2 => Ex.mut (Ex.mut (Ex.mut (Ex.mut (Ex.mut g g1) g1) g2) g2) g1
    refine q _ (Ex.mut (z8 x11 hp0 hq0) hx0) ⟨dx, pn, hp0, ⟨upd_same, ⟨put f .holds (.ref t), by rw [upd_ne nxp.symm, upd_same], fun p _ => ?_⟩, ok⟩⟩
    by_cases hh : p = .holds
    · subst hh
      unfold put
      rw [if_pos rfl]
      exact ⟨t, rfl, (RowAt.tup (K := K) h11).exB ((ExB.of (z8 (Ex.refl _) hpn hq11)).trans ExB.set) (NoTup.ins hx11)⟩
    · unfold put
      rw [if_neg hh]
      exact (hf p).ex (Ex.mut (z8 x11 hp0 hq0) hx0)
end
end My
namespace My
open PySem PySem.Spec PyProof.Rows L2 GL Evl StX SkE
/-! ### a book as it is shown, compared -/
theorem ru_eqv (r l : Ru) : PyData.eqvAll (bookKs.map fun p => (r.get p).d) (bookKs.map fun p => (l.get p).d) = decide (r = l) := by
  have go : ∀ ks : List Pt, PyData.eqvAll (ks.map fun p => (r.get p).d) (ks.map fun p => (l.get p).d) = ks.all fun p => decide (r.get p = l.get p) := by
    intro ks
    induction ks with
    | nil => rfl
    | cons p ks ih =>
      show (PyData.eqv (r.get p).d (l.get p).d && PyData.eqvAll (ks.map fun p => (r.get p).d) (ks.map fun p => (l.get p).d)) = _
      rw [ih, eqv_get]
      rfl
  rw [go]
  by_cases e : r = l
  · subst e
    rw [decide_eq_true rfl, List.all_eq_true]
    exact fun _ _ => decide_eq_true rfl
  · rw [decide_eq_false e, Bool.eq_false_iff]
    exact fun z => e (Ru.ext_get fun p => of_decide_eq_true (List.all_eq_true.mp z p (bookKs_mem p)))
theorem dp_kvs {K : PySem.W.Frag} {H : Hp} {f : Pt → V} {r : Ru} : ∀ {ks : List Pt}, (∀ p ∈ ks, (r.get p).At K H (f p)) → DpAll K H ((kvs ks f).map (·.2)) (ks.map fun p => (r.get p).d)
  | [], _ => .nil
  | p :: ks, h => .cons (h p List.mem_cons_self).dp (dp_kvs fun q hq => h q (List.mem_cons_of_mem _ hq))
theorem kvs_keys (ks : List Pt) (f g : Pt → V) : (kvs ks f).map (·.1) = (kvs ks g).map (·.1) := by
  unfold kvs
  rw [List.map_map, List.map_map]
  rfl
theorem ks_shaped {r : Ru} {ks : List Pt} : ∀ d ∈ ks.map (fun p => (r.get p).d), SeqAt.shaped d = true := fun d hd => by
  obtain ⟨p, _, rfl⟩ := List.mem_map.mp hd
  exact Pv.shaped _
section
variable {P : Program} {w : World} {K : PySem.W.Frag} {mg : Str → Option Value} {base : Heap} {C : Addr} {H H' : Hp} {σ : L2.St} {te tb ta : TE} {E : XK} {D : Ends} {tz : TS} {a b d : Addr} {r l : Ru} {us : Rw} {ks : List Pt} {x y : V}
/-- == of two dicts of parts -/
theorem rv_eqDict (h1 : DictAt K H a ks r) (h2 : DictAt K H b ks l) : RV (rEqDict K) (.ref a) (.ref b) H (.bl (PyData.eqvAll (ks.map fun p => (r.get p).d) (ks.map fun p => (l.get p).d))) := fun H1 e Q q => by
  obtain ⟨f, z1, z2⟩ := h1.ex e
  obtain ⟨g, y1, y2⟩ := h2.ex e
  exact ⟨a, b, kvs ks f, kvs ks g, _, _, rfl, rfl, .inl z1, .inl y1, kvs_keys ks f g, dp_kvs z2, dp_kvs y2, ks_shaped, ks_shaped, q H1 (Ex.refl H1)⟩
theorem BookAt.insTy {T : Txt K mg w} (h : BookAt K T.C H b r) : ∀ H1, Ex H H1 → TyX K H1 (.ref b) (.ref T.C) := fun H1 e => by
  obtain ⟨dx, d, p⟩ := h.ex e
  exact .base (.ins p.ob T.c_Book T.x_class T.x_get T.x_tk T.x_mro)
theorem kit_kind (T : Txt K mg w) {k : String} (h : k ∈ kinds) : PySem.W.kitOne K (.type k) (.ref T.C) = some false := by
  unfold PySem.W.kitOne
  rw [if_neg (by simp)]
  unfold PySem.W.kitCls
  have h1 : (PySem.W.clsIn K T.C).isSome = true := T.x_cls
  show (if ((PySem.W.clsIn K T.C).isSome && PySem.W.typeIn K (.ref T.C) == some (.type "type")) = true then PySem.W.subIn K (.type k) (.ref T.C) else none) = some false
  rw [h1, T.x_ty, sub_kind h]
  simp
theorem ev_get {p : Pt} {f : Pt → V} (h : Ev te σ H (.ref d)) (hd : H d = some (.dK (kvs ks f))) (hp : p ∈ ks) : Ev (tDGet te (tC (.str p.s))) σ H (f p) := fun H1 e1 Q q => h H1 e1 _ fun H2 e2 =>
  ⟨d, f p, rfl, .inl ⟨kvs ks f, .inr p.s, .inl (e2 _ _ (e1 _ _ hd)), rfl, (val_at hp).symm⟩, q H2 e2⟩
theorem meth_raw {m : Str} {sp : Sp} {dvs : List V} {Er : XK} {tA : TA} {Q : VK} (h : Ev ta σ H (.ref b)) (k : ∀ H1, Ex H H1 → ∃ dx fs, H1 b = some (.ins C dx fs) ∧ fs.lookup m = none ∧ tA σ H1 fun vs H2 => sp (.ref b :: (vs ++ dvs)) H2 Q Er) : tMeth C m sp dvs Er ta tA σ H Q := h H (Ex.refl H) _ fun H1 e1 => by
  obtain ⟨dx, fs, h1, h2, h3⟩ := k H1 e1
  exact ⟨b, dx, fs, rfl, h1, h2, h3⟩
theorem cons_raw {tA : TA} {x : V} {Q : List V → Hp → Prop} (h : Ev ta σ H x) (k : ∀ H1, Ex H H1 → tA σ H1 fun vs H2 => Q (x :: vs) H2) : tCons ta tA σ H Q := h H (Ex.refl H) _ k
theorem ok_Beq (T : Txt K mg w)  : FnG P w K mg base CX0 1 T.f_Beq T.fd_Beq ["self", "other"] (sp_Beq K T.C) := by
  refine okG T.F_Beq sc_Beq (fun vs H Q E h => ?_) (fun cdv A outer s H vs Q E gd hr h => ?_)
  · obtain (⟨_, _, _, _, rfl, _⟩ | ⟨_, _, _, rfl, _⟩) := h
    all_goals rfl
  · obtain h := h
    refine ⟨_, (pss_one (ps_ret (pe_and (pe_callB call_isi (by rfl) T.z_isinstance boot_isinstance (pa_cons (pv 1) (pa_cons (pe_glob (v := .ref T.C) (by rfl) T.m_Book rfl) pa_nil))) (pe_one (pe_cmpR (op_eqDict (roomV hr)) (pe_fld (pv 0) rfl) (pe_fld (pv 1) rfl) (nomark _)))))), ?_⟩
    rcases h with ⟨a, b, r, l, rfl, ha, hb, q⟩ | ⟨a, y, k, rfl, ty, hk, q⟩
    · obtain ⟨dx, d, p⟩ := id ha
      obtain ⟨dx', d', p'⟩ := id hb
      refine s_ret (v := .bl (true && decide (r = l))) (ev_andV (ev_cb (ea_cons (ev_var rfl) (ea_cons ev_c ea_nil)) (rc_isiE (.own T.C) hb.insTy (if_pos (beq_self_eq_true _)))) fun _ => ev_is (ev_op (ev_fld (ev_var rfl) p.ob T.c_Book T.n_parts (bf_parts d)) (ev_fld (ev_var rfl) p'.ob T.c_Book T.n_parts (bf_parts d')) (rv_eqDict p.di p'.di)) (cbl (ru_eqv r l))) fun H1 e1 => ?_
      rw [Bool.true_and]
      exact q H1 e1
    · exact s_ret (v := .bl false) (ev_andV (a := false) (b := false) (ev_cb (ea_cons (ev_var rfl) (ea_cons ev_c ea_nil)) (rc_isiE (.own T.C) ty (kit_kind T hk))) fun z => nomatch z) q
theorem tlc_of {wi : TI} {g : TG} {tt : TT} {vs : List Nat} {Q : VK} {J : It} {n : Nat} {G : Hp → Prop} {Y : Nat → Hp → V → Hp → Prop} (w : Walk J n G Y) (hw : ∀ R : It → Hp → Prop, R J H → wi σ H R) (Pv : Addr → Nat → Hp → Prop) (h0 : ∀ Dl, H Dl = none → Pv Dl 0 (upd H Dl (.lst [])))
    (hG : ∀ Dl i H', i ≤ n → Pv Dl i H' → G H') (hs : ∀ Dl i x H1 H2, H Dl = none → i < n → Pv Dl i H1 → Y i H1 x H2 → g x (wipe σ vs) H2 fun σ2 H2 => wipe σ2 vs = wipe σ vs ∧ tt σ2 H2 fun b H3 => if b = true then te σ2 H3 fun y H4 => ∃ acc, H4 Dl = some (.lst acc) ∧ acc.length < sizeLine ∧ Pv Dl (i + 1) (upd H4 Dl (.lst (acc ++ [y]))) else Pv Dl (i + 1) H3)
    (hd : ∀ Dl H', H Dl = none → Pv Dl n H' → Q (.ref Dl) H') : tLc wi g tt te vs σ H Q := hw _ fun Dl hDl => lc_it w (Pv Dl) (h0 Dl hDl) (hG Dl) (fun i x H1 H2 hi p y => hs Dl i x H1 H2 hDl hi p y) (Qd := fun H' => Q (.ref Dl) H') (fun H' p => hd Dl H' hDl p)
end
end My
namespace My
open PySem PySem.Spec PyProof.Rows L2 GL Evl StX SkE
/-! ### the law's draws, its rows -/
def sp_Lpick : Sp := fun vs H Q _ => ∃ a l, ∃ xs : List V, vs = [.ref a, .ref l] ∧ PotAt H a ∧ l ≠ a ∧ H l = some (.lst xs) ∧ 1 ≤ xs.length ∧ xs.length ≤ 1000 ∧ ∀ H' v, ExB a H H' → PotAt H' a → v ∈ xs → Q v H'
def sp_Llifts (K : PySem.W.Frag) : Sp := fun vs H Q _ => vs = [] ∧ ∀ H' p ys, H p = none → Ex H H' → H' p = some (.lst ys) → RowsAt K H' ys liftRows → Q (.ref p) H'
section
variable {P : Program} {w : World} {K : PySem.W.Frag} {mg : Str → Option Value} {base : Heap} {C : Addr} {H H' : Hp} {σ : L2.St} {te tb ta : TE} {tA : TA} {E : XK} {D : Ends} {tz : TS} {a b d : Addr} {us : Rw} {xs ys : List V} {rs qs : List Rw}
theorem RowsAt.exB (h : RowsAt K H xs rs) (e : ExB b H H') (n : NoTup H b) : RowsAt K H' xs rs := by
  induction h with
  | nil => exact .nil
  | cons h _ ih => exact .cons (h.exB e n) ih
theorem ok_Lpick (T : Txt K mg w) (G_Ldraw : FnG P w K mg base CX0 1 T.f_Ldraw T.fd_Ldraw ["_law_pot_here", "_law_sides"] MyT.sp_Ldraw) : FnG P w K mg base CX0 2 T.f_Lpick T.fd_Lpick ["_law_pot_here", "_law_some"] sp_Lpick := by
  refine okG T.F_Lpick sc_Lpick (fun vs H Q E h => ?_) (fun cdv A outer s H vs Q E gd hr h => ?_)
  · obtain ⟨_, _, _, rfl, _⟩ := h
    all_goals rfl
  · obtain ⟨a, l, xs, rfl, hp, nla, hl, h1, h2, q⟩ := h
    refine ⟨_, (pss_one (ps_ret (pe_ix ix_list (pv 1) (pc gd G_Ldraw (hr.mono (by decide)) (by rfl) T.m_Ldraw T.F_Ldraw.kp T.b_Ldraw .nil pass0 (pa_cons (pv 0) (pa_cons (pe_callB call_len_seq (by rfl) T.z_len PySem.boot_len (pa_cons (pv 1) pa_nil)) pa_nil))) (fun _ _ => rfl)))), ?_⟩
    refine s_retR (op_raw (ev_raw (ev_var (v := .ref l) rfl) fun H1 e1 => ?_))
    refine dr (n := xs.length) (ea_cons (ev_var rfl) (ea_cons (ev_len (ev_var rfl) (sq_of (e1 _ _ hl))) ea_nil)) (hp.ex e1) h1 h2 fun H2 d x2 p2 hd => ?_
    exact ⟨l, xs, (d : Int), xs[d], rfl, rfl, sq_of (x2 _ _ nla (e1 _ _ hl)), atI_nat (List.getElem?_eq_getElem hd), q H2 _ ((ExB.of e1).trans x2) p2 (List.getElem_mem hd)⟩
/-! lists of rows are made -/
def EvRs (K : PySem.W.Frag) (te : TE) (σ : L2.St) (H : Hp) (rs : List Rw) : Prop := ∀ H1, Ex H H1 → ∀ Q : VK, (∀ p ys H2, H1 p = none → Ex H1 H2 → H2 p = some (.lst ys) → RowsAt K H2 ys rs → Q (.ref p) H2) → te σ H1 Q
def EvRA (K : PySem.W.Frag) (tA : TA) (σ : L2.St) (H : Hp) (rs : List Rw) : Prop := ∀ H1, Ex H H1 → ∀ Q : List V → Hp → Prop, (∀ ys H2, Ex H1 H2 → RowsAt K H2 ys rs → Q ys H2) → tA σ H1 Q
theorem era_nil : EvRA K tNil σ H [] := fun H1 _ Q q => q [] H1 (Ex.refl H1) .nil
theorem era_cons (h : EvR K te σ H us) (hr : EvRA K tA σ H rs) : EvRA K (tCons te tA) σ H (us :: rs) := fun H1 e Q q => h H1 e _ fun p H2 e2 hp => hr H2 (e.trans e2) _ fun ys H3 e3 hy => q _ H3 (e2.trans e3) (.cons (hp.ex e3) hy)
theorem ers_lst (h : EvRA K tA σ H rs) (hl : rs.length ≤ 1000) : EvRs K (tLst tA) σ H rs := fun H1 e Q q => h H1 e _ fun ys H2 e2 hy => ⟨by rw [hy.len, sizeLine_eq]; omega, fun p hp => q p ys _ (fresh_back e2 hp) (e2.trans (Ex.new hp)) upd_same (hy.ex (Ex.new hp))⟩
theorem q_parR {i j : Nat} (h : tA σ H fun vs H1 => ∃ v w, vs = [v, w] ∧ tz D ((σ.set i (some v)).set j (some w)) H1) : tSeq (tPar i j tA) tz D σ H := h
theorem dropR (h : te σ H fun _ H1 => D.nx σ H1) : tDrop te D σ H := h
theorem q_dropR (h : te σ H fun _ H1 => tz D σ H1) : tSeq (tDrop te) tz D σ H := h
end
end My
namespace My
open PySem PySem.Spec PyProof.Rows L2 GL Evl StX SkE
/-! ### rows by the law, any rules -/
section
variable {P : Program} {w : World} {K : PySem.W.Frag} {mg : Str → Option Value} {base : Heap} {C : Addr} {H H' : Hp} {σ : L2.St} {te tb ta tc : TE} {tt : TT} {tA : TA} {E : XK} {D : Ends} {tz : TS} {a b d : Addr} {us : Rw} {xs ys : List V} {rs qs : List Rw}
theorem s_rows {Q : VK} (h : EvRs K te σ H rs) (q : ∀ H' p ys, H p = none → Ex H H' → H' p = some (.lst ys) → RowsAt K H' ys rs → Q (.ref p) H') (hQ : D.rt = Q) : tRet te D σ H := by
  subst hQ
  exact h H (Ex.refl H) _ fun p ys H1 hp e1 h1 r1 => q H1 p ys hp e1 h1 r1
theorem er_row {us : Rw} (h : EvA tA σ H (us.map wV)) (hl : us.length ≤ 1000) : EvR K (tTupX tA) σ H us := fun H1 e Q q => h H1 e _ fun H2 e2 => ⟨by rw [List.length_map, sizeLine_eq]; omega, fun p o hp ho => q p _ (e2.trans (Ex.new hp)) (.fx upd_same ho)⟩
theorem ok_Llifts (T : Txt K mg w)  : FnG P w K mg base CX0 1 T.f_Llifts T.fd_Llifts [] (sp_Llifts K) := by
  refine okG T.F_Llifts sc_Llifts (fun vs H Q E h => ?_) (fun cdv A outer s H vs Q E gd hr h => ?_)
  · obtain ⟨rfl, _⟩ := h
    all_goals rfl
  · obtain ⟨rfl, q⟩ := h
    refine ⟨_, (pss_one (ps_ret (pe_lst (pa_cons (pe_tupX pa_nil) (pa_cons (pe_tupX (pa_cons pe_str pa_nil)) (pa_cons (pe_tupX (pa_cons pe_str pa_nil)) (pa_cons (pe_tupX (pa_cons pe_str (pa_cons pe_str pa_nil))) (pa_cons (pe_tupX (pa_cons pe_str (pa_cons pe_str pa_nil))) (pa_cons (pe_tupX (pa_cons pe_str pa_nil)) pa_nil))))))))), ?_⟩
    have w1 : ∀ {z : Str} {x : Wd}, z = x.s → EvR K (tTupX (tCons (tC (.str z)) tNil)) (L2.start N_Llifts []) H [x] := fun e => er_row (ea_cons (ev_lit e) ea_nil) (by show 1 ≤ 1000; omega)
    have w2 : ∀ {z z' : Str} {x x' : Wd}, z = x.s → z' = x'.s → EvR K (tTupX (tCons (tC (.str z)) (tCons (tC (.str z')) tNil))) (L2.start N_Llifts []) H [x, x'] := fun e e' => er_row (ea_cons (ev_lit e) (ea_cons (ev_lit e') ea_nil)) (by show 2 ≤ 1000; omega)
    refine s_rows (rs := liftRows) (ers_lst (era_cons er_0 (era_cons (w1 rfl) (era_cons (w1 rfl) (era_cons (w2 rfl rfl) (era_cons (w2 rfl rfl) (era_cons (w1 rfl) era_nil)))))) (by decide)) q rfl
end
end My
namespace My
open PySem PySem.Spec PyProof.Rows L2 GL Evl StX SkE
/-! ### any rules -/
section
variable {P : Program} {w : World} {K : PySem.W.Frag} {mg : Str → Option Value} {base : Heap} {C : Addr} {H H' H0 H1 : Hp} {σ : L2.St} {te tb ta tc : TE} {tt : TT} {tA : TA} {E Er : XK} {D : Ends} {tz : TS} {a b d : Addr} {us : Rw} {xs ys : List V} {rs qs : List Rw} {ks : List Pt} {r l : Ru} {p : Pt} {v : V} {Q : VK}
theorem PotAt.nt (h : PotAt H a) : NoTup H a := by
  obtain ⟨x, y, h1, _⟩ := h
  exact NoTup.lst h1
theorem PotAt.ne (h : PotAt H a) (hd : H d = none) : d ≠ a := fun e => by
  obtain ⟨x, y, h1, _⟩ := h
  rw [e, h1] at hd
  cases hd
/-- where a dict of rules is filled beside a pot -/
structure Sta (K : PySem.W.Frag) (a d : Addr) (ks : List Pt) (r : Ru) (H0 H : Hp) : Prop where
  x : ExB a H0 H
  p : PotAt H a
  n : H0 d = none
  na : d ≠ a
  d : DictAt K H d ks r
theorem DictAt.put (h : DictAt K H d ks r) (hp : p ∉ ks) (hv : (l.get p).At K H v) {f : Pt → V} (hf : H d = some (.dK (kvs ks f))) : DictAt K (upd H d (.dK (putK (kvs ks f) (.inr p.s) v))) d (ks ++ [p]) (r.upd l p) := by
  obtain ⟨f', h1, h2⟩ := h
  have ef : ∀ q ∈ ks, f' q = f q := fun q hq => by
    rw [hf] at h1
    have e := HO.dK.inj (Option.some.inj h1)
    have e1 := val_at (f := f) hq
    rw [e, val_at hq] at e1
    exact Option.some.inj e1
  refine ⟨My.put f p v, by rw [upd_same, put_new hp], fun q hq => ?_⟩
  rw [Ru.get_upd]
  unfold My.put
  by_cases e : q = p
  · subst e
    rw [if_pos rfl, if_pos rfl]
    exact hv.exB ExB.set (NoTup.dK hf)
  · rw [if_neg e, if_neg e]
    have hq' : q ∈ ks := (List.mem_append.mp hq).resolve_right fun z => e (List.mem_singleton.mp z)
    rw [← ef q hq']
    exact (h2 q hq').exB ExB.set (NoTup.dK hf)
theorem DictAt.over (h : DictAt K H d ks r) (hp : p ∈ ks) (hv : (l.get p).At K H v) {f : Pt → V} (hf : H d = some (.dK (kvs ks f))) : DictAt K (upd H d (.dK (putK (kvs ks f) (.inr p.s) v))) d ks (r.upd l p) := by
  obtain ⟨f', h1, h2⟩ := h
  have ef : ∀ q ∈ ks, f' q = f q := fun q hq => by
    rw [hf] at h1
    have e := HO.dK.inj (Option.some.inj h1)
    have e1 := val_at (f := f) hq
    rw [e, val_at hq] at e1
    exact Option.some.inj e1
  refine ⟨My.put f p v, by rw [upd_same, put_old hp], fun q hq => ?_⟩
  rw [Ru.get_upd]
  unfold My.put
  by_cases e : q = p
  · subst e
    rw [if_pos rfl, if_pos rfl]
    exact hv.exB ExB.set (NoTup.dK hf)
  · rw [if_neg e, if_neg e, ← ef q hq]
    exact (h2 q hq).exB ExB.set (NoTup.dK hf)
/-- a part is told by draws -/
def EvPt (K : PySem.W.Frag) (te : TE) (σ : L2.St) (H : Hp) (a : Addr) (p : Pt) (X : Ru → Prop) : Prop := ∀ H1, Ex H H1 → ∀ Q : VK, (∀ H2 v l, ExB a H1 H2 → PotAt H2 a → (l.get p).At K H2 v → X l → Q v H2) → te σ H1 Q
theorem Sta.ex (st : Sta K a d ks r H0 H) (e : ExB a H H') (p : PotAt H' a) : Sta K a d ks r H0 H' := ⟨st.x.trans e, p, st.n, st.na, st.d.exB e st.na st.p.nt⟩
theorem Sta.put (st : Sta K a d ks r H0 H) (hp : p ∉ ks) (hv : (l.get p).At K H v) {f : Pt → V} (hf : H d = some (.dK (kvs ks f))) : Sta K a d (ks ++ [p]) (r.upd l p) H0 (upd H d (.dK (putK (kvs ks f) (.inr p.s) v))) := ⟨st.x.mut st.n, st.p.exB ExB.set st.na.symm, st.n, st.na, st.d.put hp hv hf⟩
theorem Sta.over (st : Sta K a d ks r H0 H) (hp : p ∈ ks) (hv : (l.get p).At K H v) {f : Pt → V} (hf : H d = some (.dK (kvs ks f))) : Sta K a d ks (r.upd l p) H0 (upd H d (.dK (putK (kvs ks f) (.inr p.s) v))) := ⟨st.x.mut st.n, st.p.exB ExB.set st.na.symm, st.n, st.na, st.d.over hp hv hf⟩
theorem q_part {X : Ru → Prop} {i : Nat} (st : Sta K a d ks r H0 H) (hs : σ[i]? = some (some (.ref d))) (hp : p ∉ ks) (hl : ks.length ≤ 20) (h : EvPt K te σ H a p X) (k : ∀ H1 l, X l → Sta K a d (ks ++ [p]) (r.upd l p) H0 H1 → tz D σ H1) : tSeq (sDPut (tVar i) (tC (.str p.s)) te) tz D σ H :=
  h H (Ex.refl H) _ fun H1 v l e1 p1 hv hx => by
    have st1 := st.ex e1 p1
    obtain ⟨f, hf, _⟩ := id st1.d
    exact ⟨_, hs, d, _, rfl, .inl ⟨_, .inr p.s, hf, rfl, by rw [List.length_map, sizeLine_eq]; omega, rfl⟩, k _ l hx (st1.put hp hv hf)⟩
theorem n_eq0 (i : Nat) : RV rEq (nV i) (.int 0) H (.bl (decide (i = 0))) := rv_bl (rv_eq rfl) (nV_eq i 0)
theorem draw0 {i : Nat} (hp : PotAt H a) (hs : σ[i]? = some (some (.ref a))) {Q : VK} (k : ∀ H1 (b : Bool), ExB a H H1 → PotAt H1 a → Q (.bl b) H1) : tOp rEq (tCall sp_Ldraw [] Er (tCons (tVar i) (tCons (tC (.int 2)) tNil))) (tC (.int 0)) σ H Q :=
  op_raw (dr (n := 2) (ea_cons (ev_var hs) (ea_cons (ev_is ev_c rfl) ea_nil)) hp (by omega) (by omega) fun H1 j x1 p1 _ => ev_raw ev_c fun H2 e2 => n_eq0 j H2 (Ex.refl _) _ fun H3 e3 => k H3 _ ((x1.trans (ExB.of e2)).trans (ExB.of e3)) ((p1.ex e2).ex e3))
theorem ep_bool {i : Nat} (hp : PotAt H a) (hs : σ[i]? = some (some (.ref a))) (h : p = .shared ∨ p = .settles) : EvPt K (tOp rEq (tCall sp_Ldraw [] Er (tCons (tVar i) (tCons (tC (.int 2)) tNil))) (tC (.int 0))) σ H a p (fun _ => True) := fun H1 e1 Q q => draw0 (hp.ex e1) hs fun H2 b x2 p2 => by
  rcases h with rfl | rfl
  · exact q H2 (.bl b) ⟨[], [], [], [], .undo, b, [], 1, b⟩ x2 p2 rfl trivial
  · exact q H2 (.bl b) ⟨[], [], [], [], .undo, b, [], 1, b⟩ x2 p2 rfl trivial
/-- one of the rows -/
theorem pick_rows {i : Nat} {Q : VK} (hp : PotAt H a) (hs : σ[i]? = some (some (.ref a))) (h : EvRs K te σ H rs) (h1 : rs ≠ []) (h2 : rs.length ≤ 1000) (k : ∀ H1 b us, ExB a H H1 → PotAt H1 a → us ∈ rs → RowX K H1 b us → Q (.ref b) H1) : tCall sp_Lpick [] Er (tCons (tVar i) (tCons te tNil)) σ H Q :=
  ⟨_, hs, h H (Ex.refl H) _ fun p ys H1 hp1 e1 h3 r1 => ⟨a, p, ys, rfl, hp.ex e1, (hp.ne hp1), h3, by
    have := List.length_pos_iff.mpr h1
    rw [r1.len]
    omega, by rw [r1.len]; exact h2, fun H2 v x2 p2 hv => by
    obtain ⟨b, us, rfl, hu, hb⟩ := r1.mem hv
    exact k H2 b us ((ExB.of e1).trans x2) p2 hu (hb.exB x2 (hp.ex e1).nt)⟩⟩
def rowPt : Pt → Ru → Rw
  | .take, r => r.take | .give, r => r.give | .move, r => r.move | .lift, r => r.lift | _, r => r.holds
theorem ep_row {i : Nat} (hp : PotAt H a) (hs : σ[i]? = some (some (.ref a))) (h : EvRs K te σ H rs) (h1 : rs ≠ []) (h2 : rs.length ≤ 1000) (hk : p = .take ∨ p = .give ∨ p = .move ∨ p = .lift) : EvPt K (tCall sp_Lpick [] Er (tCons (tVar i) (tCons te tNil))) σ H a p (fun l => rowPt p l ∈ rs) := fun H1 e1 Q q =>
  pick_rows (hp.ex e1) hs (fun H2 e2 => h H2 (e1.trans e2)) h1 h2 fun H2 b us x2 p2 hu hb => by
    rcases hk with rfl | rfl | rfl | rfl
    · exact q H2 (.ref b) ⟨us, us, us, us, .undo, true, [], 1, true⟩ x2 p2 ⟨b, rfl, hb⟩ hu
    · exact q H2 (.ref b) ⟨us, us, us, us, .undo, true, [], 1, true⟩ x2 p2 ⟨b, rfl, hb⟩ hu
    · exact q H2 (.ref b) ⟨us, us, us, us, .undo, true, [], 1, true⟩ x2 p2 ⟨b, rfl, hb⟩ hu
    · exact q H2 (.ref b) ⟨us, us, us, us, .undo, true, [], 1, true⟩ x2 p2 ⟨b, rfl, hb⟩ hu
theorem ers_lifts : EvRs K (tCall (sp_Llifts K) [] Er tNil) σ H liftRows := fun H0 e0 Q q => ⟨rfl, fun H2 p ys hp e2 h2 r2 => q p ys H2 hp e2 h2 r2⟩
theorem cb1_raw {rr : List V → Hp → VK → Prop} (h : te σ H fun v H1 => rr [v] H1 Q) : tCB rr (tCons te tNil) σ H Q := h
theorem cons1_raw {QA : List V → Hp → Prop} (h : te σ H fun x H1 => QA [x] H1) : tCons te tNil σ H QA := h
theorem cons_rw {QA : List V → Hp → Prop} (h : te σ H fun x H1 => tA σ H1 fun vs H2 => QA (x :: vs) H2) : tCons te tA σ H QA := h
theorem q_dispR {g : TG} {trs : List (TE × TE)} (h : tDisp trs σ H fun x H1 => g x σ H1 (tz D)) : tSeq (tAsg (tDisp trs) g) tz D σ H := h
theorem pick_list {i : Nat} {Q : VK} (hp : PotAt H a) (hs : σ[i]? = some (some (.ref a))) (h : EvL te σ H xs) (h1 : 1 ≤ xs.length) (h2 : xs.length ≤ 1000) (k : ∀ H1 v, ExB a H H1 → PotAt H1 a → v ∈ xs → Q v H1) : tCall sp_Lpick [] Er (tCons (tVar i) (tCons te tNil)) σ H Q :=
  ⟨_, hs, h H (Ex.refl H) _ fun p H1 hp1 e1 h3 => ⟨a, p, xs, rfl, hp.ex e1, (hp.ne hp1), h3, h1, h2, fun H2 v x2 p2 hv => k H2 v ((ExB.of e1).trans x2) p2 hv⟩⟩
theorem ev_part {i : Nat} (hs : σ[i]? = some (some (.ref d))) (h : DictAt K H d ks r) (hp : p ∈ ks) : ∃ v, Ev (tDGet (tVar i) (tC (.str p.s))) σ H v ∧ (r.get p).At K H v := by
  obtain ⟨f, h1, h2⟩ := h
  exact ⟨f p, ev_get (ev_var hs) h1 hp, h2 p hp⟩
theorem ev_pI {i : Nat} (hs : σ[i]? = some (some (.ref d))) (h : DictAt K H d ks r) (hp : .batch ∈ ks) : Ev (tDGet (tVar i) (tC (.str Pt.batch.s))) σ H (nV r.batch) := by
  obtain ⟨v, h1, h2⟩ := ev_part hs h hp
  have e : v = nV r.batch := h2
  rwa [e] at h1
theorem ev_pS {i : Nat} (hs : σ[i]? = some (some (.ref d))) (h : DictAt K H d ks r) (hp : .shared ∈ ks) : Ev (tDGet (tVar i) (tC (.str Pt.shared.s))) σ H (.bl r.shared) := by
  obtain ⟨v, h1, h2⟩ := ev_part hs h hp
  have e : v = .bl r.shared := h2
  rwa [e] at h1
end
end My
namespace My
open PySem PySem.Spec PyProof.Rows L2 GL Evl StX SkE
/-! ### books of rules, rules exchanged -/
def sp_Lbook (K : PySem.W.Frag) (C : Addr) : Sp := fun vs H Q _ => ∃ d ks r, vs = [.ref d] ∧ DictAt K H d ks r ∧ (∀ p, p ∈ ks) ∧ Ok r ∧ ∀ H' b, H b = none → Ex H H' → BookNew K C H H' b r → Q (.ref b) H'
/-- so that it can be read, locked or not -/
def DictR (K : PySem.W.Frag) (H : Hp) (d : Addr) (ks : List Pt) (r : Ru) : Prop := ∃ f : Pt → V, Rd H d (.dK (kvs ks f)) ∧ ∀ p ∈ ks, (r.get p).At K H (f p)
theorem DictAt.r {K : PySem.W.Frag} {H : Hp} {d : Addr} {ks : List Pt} {r : Ru} (h : DictAt K H d ks r) : DictR K H d ks r := by
  obtain ⟨f, h1, h2⟩ := h
  exact ⟨f, .inl h1, h2⟩
theorem rd_ex {H H' : Hp} {d : Addr} {u : HO} (h : Rd H d u) (e : Ex H H') : Rd H' d u := by
  rcases h with h | ⟨o, h⟩
  · exact .inl (e _ _ h)
  · exact .inr ⟨o, e _ _ h⟩
theorem DictR.ex {K : PySem.W.Frag} {H H' : Hp} {d : Addr} {ks : List Pt} {r : Ru} (h : DictR K H d ks r) (e : Ex H H') : DictR K H' d ks r := by
  obtain ⟨f, h1, h2⟩ := h
  exact ⟨f, rd_ex h1 e, fun p hp => (h2 p hp).ex e⟩
section
variable {P : Program} {w : World} {K : PySem.W.Frag} {mg : Str → Option Value} {base : Heap} {C : Addr} {H H' H0 H1 : Hp} {σ : L2.St} {te tb ta tc : TE} {tt : TT} {tA : TA} {E Er : XK} {D : Ends} {tz : TS} {a b d : Addr} {us : Rw} {xs ys : List V} {rs qs : List Rw} {ks : List Pt} {r l : Ru} {p : Pt} {v : V} {Q : VK}
theorem ev_getK {tk : TE} {p : Pt} {f : Pt → V} (h : Ev te σ H (.ref d)) (hk : Ev tk σ H (.str p.s)) (hd : H d = some (.dK (kvs ks f))) (hp : p ∈ ks) : Ev (tDGet te tk) σ H (f p) := fun H1 e1 Q q => h H1 e1 _ fun H2 e2 => hk H2 (e1.trans e2) _ fun H3 e3 =>
  ⟨d, f p, rfl, .inl ⟨kvs ks f, .inr p.s, .inl (e3 _ _ (e2 _ _ (e1 _ _ hd))), rfl, (val_at hp).symm⟩, q H3 (e2.trans e3)⟩
theorem ok_Lbook (T : Txt K mg w) (G_Binit : FnG P w K mg base CX0 7 T.f_Binit T.fd_Binit ["self", "take", "give", "move", "lift", "fails", "shared", "holds", "batch", "settles"] (sp_Binit K T.C)) : FnG P w K mg base CX0 9 T.f_Lbook T.fd_Lbook ["_law_rules_here"] (sp_Lbook K T.C) := by
  refine okG T.F_Lbook sc_Lbook (fun vs H Q E h => ?_) (fun cdv A outer s H vs Q E gd hr h => ?_)
  · obtain ⟨_, _, _, rfl, _⟩ := h
    all_goals rfl
  · obtain ⟨d, ks, r, rfl, ⟨f, hf, hv⟩, hk, ok, q⟩ := h
    refine ⟨_, (pss_one (ps_ret (pkK gd T.mk_Book G_Binit (hr.mono (by decide)) (by rfl) T.m_Book T.k_Binit pass0 (pk_cons (pe_dget (hu_of hr) (pv 0) pe_str (fun _ _ => rfl)) (pk_cons (pe_dget (hu_of hr) (pv 0) pe_str (fun _ _ => rfl)) (pk_cons (pe_dget (hu_of hr) (pv 0) pe_str (fun _ _ => rfl)) (pk_cons (pe_dget (hu_of hr) (pv 0) pe_str (fun _ _ => rfl)) (pk_cons (pe_dget (hu_of hr) (pv 0) pe_str (fun _ _ => rfl)) (pk_cons (pe_dget (hu_of hr) (pv 0) pe_str (fun _ _ => rfl)) (pk_cons (pe_dget (hu_of hr) (pv 0) pe_str (fun _ _ => rfl)) (pk_cons (pe_dget (hu_of hr) (pv 0) pe_str (fun _ _ => rfl)) (pk_cons (pe_dget (hu_of hr) (pv 0) pe_str (fun _ _ => rfl)) pk_nil)))))))))))), ?_⟩
    have g : ∀ p : Pt, Ev (tDGet (tVar 0) (tC (.str p.s))) [some (.ref d)] H (f p) := fun p => ev_get (ev_var rfl) hf (hk p)
    have hea : EvA (tCons (tDGet (tVar 0) (tC (.str Pt.take.s))) (tCons (tDGet (tVar 0) (tC (.str Pt.give.s))) (tCons (tDGet (tVar 0) (tC (.str Pt.move.s))) (tCons (tDGet (tVar 0) (tC (.str Pt.lift.s))) (tCons (tDGet (tVar 0) (tC (.str Pt.fails.s))) (tCons (tDGet (tVar 0) (tC (.str Pt.shared.s))) (tCons (tDGet (tVar 0) (tC (.str Pt.holds.s))) (tCons (tDGet (tVar 0) (tC (.str Pt.batch.s))) (tCons (tDGet (tVar 0) (tC (.str Pt.settles.s))) tNil))))))))) [some (.ref d)] H (bookKs.map f) := ea_cons (g .take) (ea_cons (g .give) (ea_cons (g .move) (ea_cons (g .lift) (ea_cons (g .fails) (ea_cons (g .shared) (ea_cons (g .holds) (ea_cons (g .batch) (ea_cons (g .settles) ea_nil))))))))
    exact s_retR (hea H (Ex.refl H) _ fun H2 e2 => ⟨rfl, fun x dx hx hdx nd => ⟨H2, x, dx, r, f, rfl, (Ex.new hdx).trans (Ex.new (by rw [upd_ne nd.symm]; exact hx)), hx, upd_same, fun p => (hv p (hk p)).ex e2, ok, fun H' e' hb => ⟨rfl, q H' x (fresh_back e2 hx) (e2.trans e') (hb.old e2)⟩⟩⟩)
abbrev pV (p : Pt) : V := .str p.s
theorem ep_ev (hp : PotAt H a) (h : Ev te σ H v) (hv : ∀ H1, Ex H H1 → (l.get p).At K H1 v) : EvPt K te σ H a p (fun m => m = l) := fun H1 e1 Q q => h H1 e1 _ fun H2 e2 => q H2 v l (ExB.of e2) ((hp.ex e1).ex e2) (hv H2 (e1.trans e2)) rfl
theorem s_over {tk : TE} {X : Ru → Prop} {i : Nat} (st : Sta K a d ks r H0 H) (hs : σ[i]? = some (some (.ref d))) (hp : p ∈ ks) (hl : ks.length ≤ 20) (hk : ∀ H1, Ev tk σ H1 (.str p.s)) (h : EvPt K te σ H a p X) (k : ∀ H1 l, X l → Sta K a d ks (r.upd l p) H0 H1 → D.nx σ H1) : sDPut (tVar i) tk te D σ H :=
  h H (Ex.refl H) _ fun H1 v l e1 p1 hv hx => ⟨_, hs, hk H1 H1 (Ex.refl H1) _ fun H2 e2 => by
    have st2 := (st.ex e1 p1).ex (ExB.of e2) (p1.ex e2)
    obtain ⟨f, hf, _⟩ := id st2.d
    exact ⟨d, _, rfl, .inl ⟨_, .inr p.s, hf, rfl, by rw [List.length_map, sizeLine_eq]; omega, rfl⟩, k _ l hx (st2.over hp (hv.ex e2) hf)⟩⟩
theorem ev_lp {x : Str} {p : Pt} (e : x = p.s) : Ev (tC (.str x)) σ H (pV p) := ev_is ev_c (congrArg V.str e)
end
end My
namespace My
open PySem PySem.Spec PyProof.Rows L2 GL Evl StX SkE
/-! ### rules beside rules -/
section
variable {P : Program} {w : World} {K : PySem.W.Frag} {mg : Str → Option Value} {base : Heap} {C : Addr} {H H' H0 H1 : Hp} {σ : L2.St} {te tb ta tc : TE} {tt : TT} {tA : TA} {E Er : XK} {D : Ends} {tz : TS} {a b d : Addr} {us : Rw} {xs ys : List V} {rs qs : List Rw} {ks : List Pt} {r l : Ru} {p : Pt} {v : V} {Q : VK}
theorem DictAt.some (h : DictAt K H d ks r) (hb : H b = none) : d ≠ b := fun z => by
  obtain ⟨f, hf, _⟩ := h
  rw [z, hb] at hf
  cases hf
end
end My
namespace My
open PySem PySem.Spec PyProof.Rows L2 GL Evl StX SkE
/-! ### menus of rows, drawn rules -/
def sp_Lmenu (K : PySem.W.Frag) : Sp := fun vs H Q _ => ∃ p : Pt, vs = [.str p.s] ∧ p ∈ rowPs ∧ ∀ H' a ys, H a = none → Ex H H' → H' a = some (.lst ys) → RowsAt K H' ys (menuRows p) → Q (.ref a) H'
section
variable {P : Program} {w : World} {K : PySem.W.Frag} {mg : Str → Option Value} {base : Heap} {C : Addr} {H H' H0 H1 : Hp} {σ : L2.St} {te tb ta tc : TE} {tt : TT} {tA : TA} {E Er : XK} {D : Ends} {tz : TS} {a b d : Addr} {us : Rw} {xs ys : List V} {rs qs : List Rw} {ks : List Pt} {r l : Ru} {p : Pt} {v : V} {Q : VK}
theorem q_dput {i : Nat} {x : Str} {f : Pt → V} (hd : H d = some (.dK (kvs ks f))) (hl : ks.length ≤ 20) (hs : σ[i]? = some (some (.ref d))) (he : x = p.s) (h : Ev te σ H v) (k : ∀ H1, Ex H H1 → H1 d = some (.dK (kvs ks f)) → tz D σ (upd H1 d (.dK (putK (kvs ks f) (.inr p.s) v)))) : tSeq (sDPut (tVar i) (tC (.str x)) te) tz D σ H := by
  subst he
  exact h H (Ex.refl H) _ fun H1 e1 => ⟨_, hs, d, _, rfl, .inl ⟨_, .inr p.s, e1 _ _ hd, rfl, by rw [List.length_map, sizeLine_eq]; omega, rfl⟩, k H1 e1 (e1 _ _ hd)⟩
theorem rv_cat {i j : Str} (h : i.length + j.length ≤ 100000) : RV (fun x y H Q => ∃ i j, x = V.str i ∧ y = V.str j ∧ i.length + j.length ≤ sizeLine ∧ Q (V.str (i ++ j)) H) (.str i) (.str j) H (.str (i ++ j)) := fun H1 _ Q q => ⟨i, j, rfl, rfl, sz_of h, q H1 (Ex.refl H1)⟩
theorem m1_raw {to : TE} {rr : V → List V → Hp → VK → Prop} (h : to σ H fun x H1 => (∃ a, x = .str a) ∧ te σ H1 fun y H2 => rr x [y] H2 Q) : tM1 rr to te σ H Q := h
theorem il_raw {R : It → Hp → Prop} (h : te σ H fun x H1 => ∃ a, x = .ref a ∧ (∃ xs, SqL K H1 a xs) ∧ R (Itl K a) H1) : iList K te σ H R := h
/-- one near: its words, as a row -/
theorem er_near {j : Nat} {s : Str} (hj : σ[j]? = some (some (.str s))) (hl : s.length ≤ 100) (hu : cutRow s = us.map Wd.s) : EvR K (tIf (tTest (tOp rNe (tVar j) (tC (.str (Str.ofString ""))))) (tCB (rTupX K) (tCons (tM1 (fun x xs H Q => ∃ a b, x = .str a ∧ xs = [.str b] ∧ (b.length == 0) = false ∧ a.length + 2 ≤ sizeLine ∧ rNewStrs (Txt.split a b) H Q) (tVar j) (tC (.str (Str.ofString " ")))) tNil)) (tTupX tNil)) σ H us := fun H1 e1 Q q => by
  have wu : us.map wV = (cutRow s).map V.str := by
    rw [hu, List.map_map]
    rfl
  refine (et_test (ev_op (ev_var hj) ev_c (rv_ne rfl)) : EvT _ _ _ _) H1 (Ex.refl H1) _ fun H2 e2 => ?_
  by_cases e : s = Str.ofString ""
  · rw [decide_eq_true (congrArg V.str e)]
    have u0 : us = [] := by
      unfold cutRow at hu
      rw [if_pos e] at hu
      exact List.map_eq_nil_iff.mp hu.symm
    subst u0
    exact ⟨by show 0 ≤ sizeLine; exact Nat.zero_le _, fun t o ht bo => q t _ (e2.trans (Ex.new ht)) (.fx upd_same bo)⟩
  · rw [decide_eq_false fun z => e (V.str.inj z)]
    have cs : cutRow s = Txt.split s (Str.ofString " ") := by
      unfold cutRow
      rw [if_neg e]
    refine cb1_raw (rr := rTupX K) ?_
    refine m1_raw (ev_raw (ev_var hj) fun H3 e3 => ⟨⟨s, rfl⟩, ev_raw ev_c fun H4 e4 => ⟨s, _, rfl, rfl, rfl, by rw [sizeLine_eq]; omega, fun t ht => ⟨t, _, rfl, sq_of upd_same, fun t2 o ht2 bo => q t2 _ ((((e2.trans e3).trans e4).trans (Ex.new ht)).trans (Ex.new ht2)) (.fx ?_ bo)⟩⟩⟩)
    rw [upd_same, wu, cs]
theorem ok_Lmenu (T : Txt K mg w)  : FnG P w K mg base CX0 1 T.f_Lmenu T.fd_Lmenu ["_law_sort"] (sp_Lmenu K) := by
  refine okG T.F_Lmenu sc_Lmenu (fun vs H Q E h => ?_) (fun cdv A outer s H vs Q E gd hr h => ?_)
  · obtain ⟨_, rfl, _⟩ := h
    all_goals rfl
  · obtain ⟨p, rfl, hp, q⟩ := h
    refine ⟨_, (pss_cons (ps_set (i := 1) sc_Lmenu.nd rfl (Or.inl rfl) (pe_disp (pps_cons pe_str pe_str pps_nil) rfl rfl (by simp) (by simp))) (pss_cons (ps_dput (hu_of hr) (pv 1) pe_str pe_str rfl) (pss_cons (ps_dput (hu_of hr) (pv 1) pe_str pe_str rfl) (pss_cons (ps_dput (hu_of hr) (pv 1) pe_str (pe_op op_add_str (pe_dget (hu_of hr) (pv 1) pe_str (fun _ _ => rfl)) pe_str) rfl) (pss_cons (ps_dput (hu_of hr) (pv 1) pe_str (pe_op op_add_str (pe_dget (hu_of hr) (pv 1) pe_str (fun _ _ => rfl)) pe_str) rfl) (pss_cons (ps_dput (hu_of hr) (pv 1) pe_str (pe_op op_add_str (pe_dget (hu_of hr) (pv 1) pe_str (fun _ _ => rfl)) pe_str) rfl) (pss_cons (ps_dput (hu_of hr) (pv 1) pe_str pe_str rfl) (pss_one (ps_ret (pe_lc (own := [("_law_near", 2)]) (g := gName 2) rfl sc_Lmenu.nd (pi_list (pe_split (pe_dget (hu_of hr) (pv 1) (pv 0) (fun _ _ => rfl)) pe_str)) (blkOk_by (N := N_Lmenu) (sc := defScope s_Lmenu) (by decide +kernel)) (fun _ _ _ _ _ => (pg_name (i := 2) sc_Lmenu.nd rfl (Or.inl rfl) (Or.inr rfl))) (fun _ _ _ _ _ => pts_nil) (fun _ _ _ _ _ => (pe_ifExp (pt_cmpR op_ne (pv 2) pe_str (nomark _)) (pe_callTy (show CallR _ (.type "tuple") (rTupX K) from call_tupleX) (by rfl) T.z_tuple (by decide +kernel) (pa_cons (pe_split (pv 2) pe_str) pa_nil)) (pe_tupX pa_nil))))))))))))), ?_⟩
    refine q_dispR fun d hd => ev_raw (ev_lp (p := .take) rfl) fun H1 e1 => ev_raw (ev_c (v := .str (menuTxt .take))) fun H2 e2 => ?_
    have e02 := ((Ex.new (o := .dK []) hd).trans e1).trans e2
    refine ⟨(e1.trans e2) _ _ upd_same, kvs [.take] (fun p => .str (menuTxt p)), rfl, (by show 1 ≤ 15; omega), ?_⟩
    rw [made_kvs _ (by decide)]
    have z0 : Ex H (upd H2 d (.dK (kvs [.take] (fun p => .str (menuTxt p))))) := Ex.mut e02 hd
    have h0 : (upd H2 d (.dK (kvs [.take] (fun p => V.str (menuTxt p))))) d = some (.dK (kvs [.take] (fun p => V.str (menuTxt p)))) := upd_same
    generalize (upd H2 d (.dK (kvs [.take] (fun p => V.str (menuTxt p))))) = G0 at z0 h0 ⊢
    refine q_dput (p := .give) h0 (by decide) rfl rfl (ev_c (v := .str (menuTxt .give))) fun G1 f1 _ => ?_
    rw [put_new (by decide)]
    have z1 := Ex.mut (o := .dK (kvs ([.take] ++ [.give]) (put (fun p => V.str (menuTxt p)) .give (.str (menuTxt .give))))) (z0.trans f1) hd
    have pg : put (fun p => V.str (menuTxt p)) .give (.str (menuTxt .give)) = fun p => V.str (menuTxt p) := funext fun p => by
      unfold put
      split
      · rename_i h
        rw [h]
      · rfl
    rw [pg] at z1 ⊢
    have h1 : (upd G1 d (.dK (kvs ([.take] ++ [.give]) (fun p => V.str (menuTxt p))))) d = some (.dK (kvs ([.take] ++ [.give]) (fun p => V.str (menuTxt p)))) := upd_same
    generalize (upd G1 d (.dK (kvs ([.take] ++ [.give]) (fun p => V.str (menuTxt p))))) = G2 at z1 h1 ⊢
    have mput : ∀ (m m' : Str), put (put (fun p => V.str (menuTxt p)) .move (.str m)) .move (.str m') = put (fun p => V.str (menuTxt p)) .move (.str m') := fun m m' => funext fun p => by
      unfold put
      split <;> rfl
    have mget : ∀ (m : Str), put (fun p => V.str (menuTxt p)) .move (.str m) .move = .str m := fun m => by
      unfold put
      rw [if_pos rfl]
    refine q_dput (p := .move) h1 (by decide) rfl rfl (ev_c (v := .str (Str.ofString "home try set off,home look add set off,home off add set,home set add off,"))) fun G3 f3 _ => ?_
    rw [put_new (by decide)]
    have z3 := Ex.mut (o := .dK (kvs ([.take] ++ [.give] ++ [.move]) (put (fun p => V.str (menuTxt p)) .move (.str (Str.ofString "home try set off,home look add set off,home off add set,home set add off,"))))) (z1.trans f3) hd
    have h3 : (upd G3 d (.dK (kvs ([.take] ++ [.give] ++ [.move]) (put (fun p => V.str (menuTxt p)) .move (.str (Str.ofString "home try set off,home look add set off,home off add set,home set add off,")))))) d = _ := upd_same
    generalize (upd G3 d (.dK (kvs ([.take] ++ [.give] ++ [.move]) (put (fun p => V.str (menuTxt p)) .move (.str (Str.ofString "home try set off,home look add set off,home off add set,home set add off,")))))) = G4 at z3 h3 ⊢
    have step : ∀ {G : Hp} {m n : Str} {tz : TS} {D : Ends} {σ : L2.St}, Ex H G → σ[1]? = some (some (.ref d)) → G d = some (.dK (kvs ([.take] ++ [.give] ++ [.move]) (put (fun p => V.str (menuTxt p)) .move (.str m)))) → m.length + n.length ≤ 1000 → (∀ G', Ex H G' → G' d = some (.dK (kvs ([.take] ++ [.give] ++ [.move]) (put (fun p => V.str (menuTxt p)) .move (.str (m ++ n))))) → tz D σ G') →
        tSeq (sDPut (tVar 1) (tC (.str (Str.ofString "move"))) (tOp (fun x y H Q => ∃ i j, x = V.str i ∧ y = V.str j ∧ i.length + j.length ≤ sizeLine ∧ Q (V.str (i ++ j)) H) (tDGet (tVar 1) (tC (.str (Str.ofString "move")))) (tC (.str n)))) tz D σ G := fun {G m n tz D σ} z hs h hl k => by
      refine q_dput (p := .move) (v := .str (m ++ n)) h (by decide) hs rfl (ev_op (ev_is (ev_get (p := .move) (ev_var hs) h (by decide)) (mget m)) ev_c (rv_cat (by omega))) fun G5 f5 _ => ?_
      rw [put_old (by decide), mput]
      exact k _ (Ex.mut (z.trans f5) hd) upd_same
    refine step z3 rfl h3 (by decide +kernel) fun G6 z6 h6 => step z6 rfl h6 (by decide +kernel) fun G7 z7 h7 => step z7 rfl h7 (by decide +kernel) fun G8 z8 h8 => ?_
    have mm : put (fun p => V.str (menuTxt p)) .move (.str (((Str.ofString "home try set off,home look add set off,home off add set,home set add off," ++ Str.ofString "home add look set off,home set,home try off set,home look set off add,") ++ Str.ofString "home add set,home look set,home set add,try home set off,set home off,") ++ Str.ofString "add home off set,set,look set,set add,try set home")) = fun p => V.str (menuTxt p) := funext fun p => by
      unfold put
      split
      · rename_i h
        rw [h]
        rfl
      · rfl
    rw [mm] at h8
    refine q_dput (p := .lift) h8 (by decide) rfl rfl (ev_c (v := .str (menuTxt .lift))) fun G9 f9 _ => ?_
    rw [put_new (by decide)]
    have pl : put (fun p => V.str (menuTxt p)) .lift (.str (menuTxt .lift)) = fun p => V.str (menuTxt p) := funext fun p => by
      unfold put
      split
      · rename_i h
        rw [h]
      · rfl
    rw [pl]
    have z9 := Ex.mut (o := .dK (kvs ([.take] ++ [.give] ++ [.move] ++ [.lift]) (fun p => V.str (menuTxt p)))) (z8.trans f9) hd
    have h9 : (upd G9 d (.dK (kvs ([.take] ++ [.give] ++ [.move] ++ [.lift]) (fun p => V.str (menuTxt p))))) d = some (.dK (kvs ([.take] ++ [.give] ++ [.move] ++ [.lift]) (fun p => V.str (menuTxt p)))) := upd_same
    generalize (upd G9 d (.dK (kvs ([.take] ++ [.give] ++ [.move] ++ [.lift]) (fun p => V.str (menuTxt p))))) = GA at z9 h9 ⊢
    have hp' : p ∈ ([.take] ++ [.give] ++ [.move] ++ [.lift] : List Pt) := hp
    obtain ⟨l1, l2, l3⟩ := menu_len hp
    refine s_rows (H := GA) (rs := menuRows p) ?_ (fun H' a ys ha e h r => q H' a ys (fresh_back z9 ha) (z9.trans e) h r) rfl
    intro F0 e0 Q2 q2
    have lm : (menuRows p).length = (menuStrs p).length := by
      have h := congrArg List.length (menu_fact hp)
      rw [List.length_map, List.length_map] at h
      exact h.symm
    unfold tLc
    refine il_raw (m1_raw (ev_raw (ev_getK (ev_var rfl) (ev_var rfl) (e0 _ _ h9) hp') fun F1 a1 => ⟨⟨menuTxt p, rfl⟩, ev_raw ev_c fun F2 a2 => ⟨menuTxt p, Str.ofString ",", rfl, rfl, rfl, by rw [sizeLine_eq]; omega, fun t ht => ⟨t, rfl, ⟨_, sq_of upd_same⟩, fun Dl hD => ?_⟩⟩⟩))
    have hL : (upd F2 t (.lst ((menuStrs p).map V.str))) t = some (.lst ((menuStrs p).map V.str)) := upd_same
    have eL : Ex F0 (upd F2 t (.lst ((menuStrs p).map V.str))) := (a1.trans a2).trans (Ex.new ht)
    have hD' : (upd F2 t (.lst ((menuStrs p).map V.str))) Dl = none := hD
    show ∃ W : Nat → Nat → Hp → Prop, (∃ m, W 0 m (upd (upd F2 t (.lst ((menuStrs p).map V.str))) Dl (.lst []))) ∧ _
    generalize (upd F2 t (.lst ((menuStrs p).map V.str))) = FL at hL eL hD' ⊢
    refine lc_it (walk_list (K := K) (a := t) (xs := (menuStrs p).map V.str)) (fun k G => ∃ yc, Ex FL G ∧ G Dl = some (.lst yc) ∧ RowsAt K G yc ((menuRows p).take k)) ⟨[], Ex.new hD', upd_same, .nil⟩ (fun k G _ z => ?_) (fun k v G1 G2 hk z y => ?_) (fun G z => ?_)
    · obtain ⟨_, z1, _⟩ := z
      exact sq_of (z1 _ _ hL)
    · obtain ⟨rfl, hv⟩ := y
      obtain ⟨yc, z1, z2, z3⟩ := z
      rw [List.getElem?_map] at hv
      obtain ⟨s0, hs0, rfl⟩ := Option.map_eq_some_iff.mp hv
      obtain ⟨us, hu, cu⟩ := menu_row hp hs0
      refine ⟨rfl, yes_raw (er_near rfl (l3 s0 (List.mem_of_getElem? hs0)) cu G2 (Ex.refl G2) _ fun b G3 e3 hb => ⟨yc, e3 _ _ z2, ?_, yc ++ [.ref b], (z1.trans e3).mut hD', upd_same, ?_⟩)⟩
      · have l4 := z3.len
        rw [List.length_take] at l4
        rw [sizeLine_eq]
        omega
      · rw [List.take_add_one, hu]
        exact ((z3.ex e3).app (.cons hb .nil)).exB ExB.set (NoTup.lst (e3 _ _ z2))
    · obtain ⟨yc, z1, z2, z3⟩ := z
      rw [List.length_map, ← lm, List.take_length] at z3
      exact q2 Dl yc G (fresh_back eL hD') (eL.trans z1) z2 z3
end
end My
namespace My
open PySem PySem.Spec PyProof.Rows L2 GL Evl StX SkE
/-! ### drawn rules -/
def ruleKs : List Pt := [.fails, .shared, .batch, .settles, .holds, .take, .give, .lift, .move]
theorem ruleKs_mem (p : Pt) : p ∈ ruleKs := by cases p <;> decide
def sp_Lrules (K : PySem.W.Frag) : Sp := fun vs H Q _ => ∃ a, ∃ i n : Nat, vs = [.ref a, nV i, nV n] ∧ PotAt H a ∧ 1 ≤ n ∧ n ≤ 50 ∧ ∀ H' d r, ExB a H H' → PotAt H' a → H d = none → DictAt K H' d ruleKs r → Ok r → Q (.ref d) H'
section
variable {P : Program} {w : World} {K : PySem.W.Frag} {mg : Str → Option Value} {base : Heap} {C : Addr} {H H' H0 H1 : Hp} {σ : L2.St} {te tb ta tc : TE} {tt : TT} {tA : TA} {E Er : XK} {D : Ends} {tz : TS} {a b d : Addr} {us : Rw} {xs ys : List V} {rs qs : List Rw} {ks : List Pt} {r l : Ru} {p : Pt} {v : V} {Q : VK}
theorem if_raw {t : TT} (h : t σ H fun c H1 => if c = true then ta σ H1 Q else tb σ H1 Q) : tIf t ta tb σ H Q := h
theorem ep_batch2 {i j n : Nat} (hp : PotAt H a) (hs : σ[i]? = some (some (.ref a))) (hj : σ[j]? = some (some (nV n))) (h1 : 1 ≤ n) (h2 : n ≤ 50) : EvPt K (tIf (tTest (tOp rEq (tCall sp_Ldraw [] Er (tCons (tVar i) (tCons (tC (.int 2)) tNil))) (tC (.int 0)))) (tC (.int 1)) (tOp (rI0 fun i j => .int (i + j)) (tC (.int 1)) (tCall sp_Ldraw [] Er (tCons (tVar i) (tCons (tVar j) tNil))))) σ H a .batch (fun l => 1 ≤ l.batch ∧ l.batch ≤ 50) := fun H1 e1 Q q =>
  if_raw (test_raw (draw0 (hp.ex e1) hs fun H2 b x2 p2 => ⟨b, rfl, by
    cases b with
    | true => exact q H2 (nV 1) ⟨[], [], [], [], .undo, true, [], 1, true⟩ x2 p2 rfl ⟨by show 1 ≤ 1; omega, by show 1 ≤ 50; omega⟩
    | false =>
      rw [if_neg Bool.false_ne_true]
      refine op_raw (ev_raw ev_c fun H3 e3 => dr (n := n) (ea_cons (ev_var hs) (ea_cons (ev_var hj) ea_nil)) (p2.ex e3) h1 (by omega) fun H4 k x4 p4 hk => rv_I0 H4 (Ex.refl _) _ fun H5 e5 => ?_)
      have vn : (.int (1 + ((k : Nat) : Int)) : V) = nV (1 + k) := by show V.int _ = V.int _; congr 1
      rw [vn]
      exact q H5 (nV (1 + k)) ⟨[], [], [], [], .undo, true, [], 1 + k, true⟩ (((x2.trans (ExB.of e3)).trans x4).trans (ExB.of e5)) (p4.ex e5) rfl ⟨by show 1 ≤ 1 + k; omega, by show 1 + k ≤ 50; omega⟩⟩))
/-- a test by a draw -/
def DrawT (t : TT) (a : Addr) (i : Nat) : Prop := ∀ σ' H1, σ'[i]? = some (some (.ref a)) → PotAt H1 a → ∀ Qb : Bool → Hp → Prop, (∀ H2 b, ExB a H1 H2 → PotAt H2 a → Qb b H2) → t σ' H1 Qb
theorem draw_gt {i : Nat} : DrawT (tTest (tOp (rI0 fun i j => .bl (decide (j < i))) (tCall sp_Ldraw [] Er (tCons (tVar i) (tCons (tC (.int 3)) tNil))) (tC (.int 0)))) a i := fun σ' H1 hs hp Qb k =>
  test_raw (op_raw (dr (n := 3) (ea_cons (ev_var hs) (ea_cons (ev_is ev_c rfl) ea_nil)) hp (by omega) (by omega) fun H2 j x2 p2 _ => ev_raw ev_c fun H3 e3 => rv_I0 H3 (Ex.refl _) _ fun H4 e4 => ⟨_, rfl, k H4 _ ((x2.trans (ExB.of e3)).trans (ExB.of e4)) ((p2.ex e3).ex e4)⟩))
theorem tlc_sub' {wi : TI} {vs : List Nat} {i j : Nat} {us : Rw} (hp : PotAt H a) (hl : us.length ≤ 1000) (hw : ∀ R : It → Hp → Prop, (∀ J G H1, Walk J (us.map wV).length G (YAt (us.map wV)) → Ex H H1 → (∀ H', ExB a H1 H' → G H') → R J H1) → wi σ H R)
    (h0 : ∀ x, ((wipe σ vs).set j (some x))[i]? = some (some (.ref a))) (hj : ∀ x, ((wipe σ vs).set j (some x))[j]? = some (some x)) (hv : ∀ x, wipe ((wipe σ vs).set j (some x)) vs = wipe σ vs) (hT : DrawT tt a i)
    (q : ∀ H' Dl (ws : Rw), H Dl = none → ws.Sublist us → ExB a H H' → PotAt H' a → H' Dl = some (.lst (ws.map wV)) → Q (.ref Dl) H') : tLc wi (gName j) tt (tVar j) vs σ H Q :=
  hw _ fun J G H1 wk e1 hG Dl hD => lc_it wk (fun k H' => ∃ ws : Rw, ExB a H1 H' ∧ PotAt H' a ∧ H' Dl = some (.lst (ws.map wV)) ∧ ws.Sublist (us.take k)) ⟨[], ExB.of (Ex.new hD), (hp.ex e1).ex (Ex.new hD), upd_same, List.nil_sublist _⟩
    (fun k H' _ z => hG H' z.choose_spec.1) (fun k v G1 G2 hk z y => by
    obtain ⟨rfl, hi⟩ := y
    obtain ⟨ws, z1, z2, z3, z4⟩ := z
    obtain ⟨u, hu, rfl, _⟩ := w_item hi
    refine ⟨hv _, hT _ _ (h0 _) z2 _ fun H3 b x3 p3 => ?_⟩
    have nd : Dl ≠ a := (hp.ex e1).ne hD
    have h3 : H3 Dl = some (.lst (ws.map wV)) := x3 _ _ nd z3
    have tk : us.take (k + 1) = us.take k ++ [u] := by
      rw [List.take_add_one, hu]
      rfl
    cases b with
    | true =>
      refine ⟨_, hj _, ws.map wV, h3, ?_, ws ++ [u], (z1.trans x3).mut hD, p3.exB ExB.set nd.symm, ?_, ?_⟩
      · have l1 := z4.length_le
        rw [List.length_take] at l1
        rw [List.length_map, sizeLine_eq]
        omega
      · rw [upd_same, List.map_append]
        rfl
      · rw [tk]
        exact z4.append (List.Sublist.refl _)
    | false =>
      refine ⟨ws, z1.trans x3, p3, h3, ?_⟩
      rw [tk]
      exact z4.trans (List.sublist_append_left _ _)) fun H' z => by
    obtain ⟨ws, z1, z2, z3, z4⟩ := z
    rw [List.length_map, List.take_length] at z4
    exact q H' Dl ws (fresh_back e1 hD) z4 ((ExB.of e1).trans z1) z2 z3
theorem ep_holds' {wi : TI} {vs : List Nat} {i j : Nat} {us : Rw} (hp : PotAt H a) (hl : us.length ≤ 1000) (hw : ∀ H0, Ex H H0 → ∀ R : It → Hp → Prop, (∀ J G H1, Walk J (us.map wV).length G (YAt (us.map wV)) → Ex H0 H1 → (∀ H', ExB a H1 H' → G H') → R J H1) → wi σ H0 R)
    (h0 : ∀ x, ((wipe σ vs).set j (some x))[i]? = some (some (.ref a))) (hj : ∀ x, ((wipe σ vs).set j (some x))[j]? = some (some x)) (hv : ∀ x, wipe ((wipe σ vs).set j (some x)) vs = wipe σ vs) (hT : DrawT tt a i) :
    EvPt K (tCB (fun xs H Q => ∃ p ys, xs = [.ref p] ∧ ((SqL K H p ys ∧ ∀ l, H l = none → Q (.ref l) (upd H l (.tup ys))) ∨ (SqT K H p ys ∧ Q (.ref p) H))) (tCons (tLc wi (gName j) tt (tVar j) vs) tNil)) σ H a .holds (fun l => l.holds.Sublist us) := fun H1 e1 Q q =>
  cb1_raw (tlc_sub' (hp.ex e1) hl (hw H1 e1) h0 hj hv hT fun H2 Dl ws hD hs x2 p2 h2 => ⟨Dl, ws.map wV, rfl, .inl ⟨sq_of h2, fun t ht => q _ (.ref t) ⟨[], [], [], [], .undo, true, ws, 1, true⟩ (x2.trans (ExB.of (Ex.new ht))) (p2.ex (Ex.new ht)) ⟨t, rfl, .tup upd_same⟩ hs⟩⟩)
theorem RowsAt.take (h : RowsAt K H ys rs) (m : Nat) : RowsAt K H (ys.take m) (rs.take m) := by
  induction h generalizing m with
  | nil =>
    rw [List.take_nil, List.take_nil]
    exact .nil
  | cons h _ ih =>
    cases m with
    | zero => exact .nil
    | succ m => exact .cons h (ih m)
theorem cut_toV {ys : List V} {i : Nat} (hi : i ≤ ys.length) : cutV ys none (some (i : Int)) = ys.take i := by
  unfold cutV
  rw [HT.sIx_nat, HT.sIx_none, Nat.min_eq_left hi, Nat.sub_zero, List.drop_zero]
/-- a number by draws -/
def DrawN (tn : TE) (σ : L2.St) (H : Hp) (a : Addr) (N : Nat → Prop) : Prop := ∀ H1, Ex H H1 → ∀ Q : VK, (∀ H2 (m : Nat), ExB a H1 H2 → PotAt H2 a → N m → Q (nV m) H2) → tn σ H1 Q
theorem pick_menu {i : Nat} {x : Str} {tn : TE} {N : Nat → Prop} (hp : PotAt H a) (hs : σ[i]? = some (some (.ref a))) (hk : p ∈ rowPs) (ex : x = p.s) (hn : DrawN tn σ H a N) (hN : ∀ m, N m → 1 ≤ m ∧ m ≤ (menuRows p).length) :
    EvPt K (tCall sp_Lpick [] Er (tCons (tVar i) (tCons (tSl (rSlL K) (tCall (sp_Lmenu K) [] Er (tCons (tC (.str x)) tNil)) tNoPart (tPart tn)) tNil))) σ H a p (fun l => ∃ m, N m ∧ rowPt p l ∈ (menuRows p).take m) := fun H1 e1 Q q => by
  subst ex
  refine ⟨_, hs, cons1_raw ?_⟩
  show tCall (sp_Lmenu K) [] Er (tCons (tC (.str p.s)) tNil) σ H1 _
  refine cons1_raw (te := tC (.str p.s)) (ev_raw ev_c fun H2 e2 => ⟨p, rfl, hk, fun H3 t ys ht e3 h3 r3 => ?_⟩)
  have x13 := e2.trans e3
  refine hn H3 (e1.trans x13) _ fun H4 m x4 p4 hm => ⟨_, rfl, ?_⟩
  have nta : t ≠ a := (hp.ex (e1.trans e2)).ne ht
  have h4 := x4 _ _ nta h3
  refine ⟨t, ys, rfl, sq_of h4, fun u hu => ?_⟩
  have p3 := hp.ex (e1.trans x13)
  have r4 := r3.exB x4 p3.nt
  have lm : ys.length = (menuRows p).length := r3.len
  obtain ⟨m1, m2⟩ := hN m hm
  rw [cut_toV (by omega)]
  have l5 : (ys.take m).length = m := by rw [List.length_take]; omega
  have m20 : (menuRows p).length ≤ 20 := by
    have h := congrArg List.length (menu_fact hk)
    rw [List.length_map, List.length_map] at h
    rw [← h]
    exact (menu_len hk).2.1
  refine ⟨a, u, ys.take m, rfl, p4.ex (Ex.new hu), p4.ne hu, upd_same, by omega, by omega, fun H5 v x5 p5 hv => ?_⟩
  obtain ⟨b, us, rfl, hus, hb⟩ := ((r4.take m).ex (Ex.new hu)).mem hv
  have hb5 := hb.exB x5 (p4.ex (Ex.new hu)).nt
  have x15 := (((ExB.of x13).trans x4).trans (ExB.of (Ex.new hu))).trans x5
  simp only [rowPs, List.mem_cons, List.not_mem_nil, or_false] at hk
  rcases hk with rfl | rfl | rfl | rfl
  · exact q H5 (.ref b) ⟨us, us, us, us, .undo, true, [], 1, true⟩ x15 p5 ⟨b, rfl, hb5⟩ ⟨m, hm, hus⟩
  · exact q H5 (.ref b) ⟨us, us, us, us, .undo, true, [], 1, true⟩ x15 p5 ⟨b, rfl, hb5⟩ ⟨m, hm, hus⟩
  · exact q H5 (.ref b) ⟨us, us, us, us, .undo, true, [], 1, true⟩ x15 p5 ⟨b, rfl, hb5⟩ ⟨m, hm, hus⟩
  · exact q H5 (.ref b) ⟨us, us, us, us, .undo, true, [], 1, true⟩ x15 p5 ⟨b, rfl, hb5⟩ ⟨m, hm, hus⟩
theorem dn_ev {n : Nat} (hp : PotAt H a) (h : Ev te σ H (nV n)) : DrawN te σ H a (fun m => m = n) := fun H1 e1 Q q => h H1 e1 _ fun H2 e2 => q H2 n (ExB.of e2) ((hp.ex e1).ex e2) rfl
theorem good_and {us : Rw} {x : Bool} (h : (decide us.Nodup && decide (us.length ≤ 6) && x) = true) : RowOk us ∧ x = true := by
  simp only [Bool.and_eq_true] at h
  exact ⟨⟨of_decide_eq_true h.1.1, of_decide_eq_true h.1.2⟩, h.2⟩
theorem take_menu {us : Rw} {n m : Nat} (hm : m = 4 + 2 * (if n = 1 then 1 else 0)) (h : us ∈ (menuRows .take).take m) : RowOk us ∧ pTake us = true ∧ pBatch us n = true := by
  obtain ⟨g1, g2⟩ := good_and (menu_good (p := .take) (by decide) (List.mem_of_mem_take h))
  simp only [Bool.and_eq_true] at g2
  refine ⟨g1, g2.1, ?_⟩
  by_cases e : n = 1
  · rw [e]
    exact g2.2
  · rw [if_neg e] at hm
    rw [hm] at h
    exact menu_live h n
theorem give_menu {us : Rw} {m : Nat} (h : us ∈ (menuRows .give).take m) : RowOk us ∧ pGive us = true := good_and (menu_good (p := .give) (by decide) (List.mem_of_mem_take h))
theorem lift_menu {us : Rw} {m : Nat} (h : us ∈ (menuRows .lift).take m) : RowOk us ∧ pLift us = true := good_and (menu_good (p := .lift) (by decide) (List.mem_of_mem_take h))
theorem move_menu {us : Rw} {m : Nat} {b : Bool} (hm : (m = 18 ∧ b = true) ∨ m = 11) (h : us ∈ (menuRows .move).take m) : RowOk us ∧ pMove us = true ∧ pShared us b = true := by
  obtain ⟨g1, g2⟩ := good_and (menu_good (p := .move) (by decide) (List.mem_of_mem_take h))
  simp only [Bool.and_eq_true] at g2
  refine ⟨g1, g2.1, ?_⟩
  rcases hm with ⟨_, e⟩ | e
  · rw [e]
    exact g2.2
  · rw [e] at h
    exact menu_home h b
theorem empty_move (b : Bool) : RowOk [] ∧ pMove [] = true ∧ pShared [] b = true := ⟨⟨List.nodup_nil, by decide⟩, by decide, by cases b <;> decide⟩
theorem ok_Lrules (T : Txt K mg w) (G_Lpick : FnG P w K mg base CX0 2 T.f_Lpick T.fd_Lpick ["_law_pot_here", "_law_some"] sp_Lpick) (G_Ldraw : FnG P w K mg base CX0 1 T.f_Ldraw T.fd_Ldraw ["_law_pot_here", "_law_sides"] MyT.sp_Ldraw) (G_Lmenu : FnG P w K mg base CX0 1 T.f_Lmenu T.fd_Lmenu ["_law_sort"] (sp_Lmenu K)) : FnG P w K mg base CX0 4 T.f_Lrules T.fd_Lrules ["_law_pot_here", "_law_way", "_law_most"] (sp_Lrules K) := by
  refine okG T.F_Lrules sc_Lrules (fun vs H Q E h => ?_) (fun cdv A outer s H vs Q E gd hr h => ?_)
  · obtain ⟨_, _, _, rfl, _⟩ := h
    all_goals rfl
  · obtain ⟨a, i, n, rfl, hp, n1, n2, q⟩ := h
    refine ⟨_, (pss_cons (ps_set (i := 3) sc_Lrules.nd rfl (Or.inl rfl) (pe_disp (pps_cons pe_str (pc gd G_Lpick (hr.mono (by decide)) (by rfl) T.m_Lpick T.F_Lpick.kp T.b_Lpick .nil pass0 (pa_cons (pv 0) (pa_cons (pe_lst (pa_cons pe_str (pa_cons pe_str (pa_cons pe_str (pa_cons pe_str pa_nil))))) pa_nil))) (pps_cons pe_str (pe_cmpR op_eq (pc gd G_Ldraw (hr.mono (by decide)) (by rfl) T.m_Ldraw T.F_Ldraw.kp T.b_Ldraw .nil pass0 (pa_cons (pv 0) (pa_cons pe_int pa_nil))) pe_int (nomark _)) pps_nil)) rfl rfl (by simp) (by simp))) (pss_cons (ps_dput (hu_of hr) (pv 3) pe_str (pe_ifExp (pt_cmpR op_eq (pc gd G_Ldraw (hr.mono (by decide)) (by rfl) T.m_Ldraw T.F_Ldraw.kp T.b_Ldraw .nil pass0 (pa_cons (pv 0) (pa_cons pe_int pa_nil))) pe_int (nomark _)) pe_int (pe_op op_add pe_int (pc gd G_Ldraw (hr.mono (by decide)) (by rfl) T.m_Ldraw T.F_Ldraw.kp T.b_Ldraw .nil pass0 (pa_cons (pv 0) (pa_cons (pv 2) pa_nil))))) rfl) (pss_cons (ps_dput (hu_of hr) (pv 3) pe_str (pe_cmpR op_eq (pc gd G_Ldraw (hr.mono (by decide)) (by rfl) T.m_Ldraw T.F_Ldraw.kp T.b_Ldraw .nil pass0 (pa_cons (pv 0) (pa_cons pe_int pa_nil))) pe_int (nomark _)) rfl) (pss_cons (ps_dput (hu_of hr) (pv 3) pe_str (pe_callTy call_tuple_of (by rfl) T.z_tuple (by decide +kernel) (pa_cons (pe_lc (own := [("_law_sort", 4)]) (g := gName 4) rfl sc_Lrules.nd (pi_list (pe_lst (pa_cons pe_str (pa_cons pe_str (pa_cons pe_str (pa_cons pe_str pa_nil)))))) (blkOk_by (N := N_Lrules) (sc := defScope s_Lrules) (by decide +kernel)) (fun _ _ _ _ _ => (pg_name (i := 4) sc_Lrules.nd rfl (Or.inl rfl) (Or.inr rfl))) (fun _ _ _ _ _ => pts_one (pt_cmpR op_gt (pc gd G_Ldraw (hr.mono (by decide)) (by rfl) T.m_Ldraw T.F_Ldraw.kp T.b_Ldraw .nil pass0 (pa_cons (pv 0) (pa_cons pe_int pa_nil))) pe_int (nomark _))) (fun _ _ _ _ _ => (pv 4))) pa_nil)) rfl) (pss_cons (ps_dput (hu_of hr) (pv 3) pe_str (pc gd G_Lpick (hr.mono (by decide)) (by rfl) T.m_Lpick T.F_Lpick.kp T.b_Lpick .nil pass0 (pa_cons (pv 0) (pa_cons (pe_slice sl_list (pc gd G_Lmenu (hr.mono (by decide)) (by rfl) T.m_Lmenu T.F_Lmenu.kp T.b_Lmenu .nil pass0 (pa_cons pe_str pa_nil)) po_none (po_some (pe_op op_add pe_int (pe_op op_mul pe_int (pe_callTy call_int1 (by rfl) T.z_int (by decide +kernel) (pa_cons (pe_cmpR op_eq (pe_dget (hu_of hr) (pv 3) pe_str (fun _ _ => rfl)) pe_int (nomark _)) pa_nil)))))) pa_nil))) rfl) (pss_cons (ps_dput (hu_of hr) (pv 3) pe_str (pc gd G_Lpick (hr.mono (by decide)) (by rfl) T.m_Lpick T.F_Lpick.kp T.b_Lpick .nil pass0 (pa_cons (pv 0) (pa_cons (pe_slice sl_list (pc gd G_Lmenu (hr.mono (by decide)) (by rfl) T.m_Lmenu T.F_Lmenu.kp T.b_Lmenu .nil pass0 (pa_cons pe_str pa_nil)) po_none (po_some (pe_op op_add pe_int (pe_op op_mul pe_int (pc gd G_Ldraw (hr.mono (by decide)) (by rfl) T.m_Ldraw T.F_Ldraw.kp T.b_Ldraw .nil pass0 (pa_cons (pv 0) (pa_cons pe_int pa_nil))))))) pa_nil))) rfl) (pss_cons (ps_dput (hu_of hr) (pv 3) pe_str (pc gd G_Lpick (hr.mono (by decide)) (by rfl) T.m_Lpick T.F_Lpick.kp T.b_Lpick .nil pass0 (pa_cons (pv 0) (pa_cons (pe_slice sl_list (pc gd G_Lmenu (hr.mono (by decide)) (by rfl) T.m_Lmenu T.F_Lmenu.kp T.b_Lmenu .nil pass0 (pa_cons pe_str pa_nil)) po_none (po_some (pe_op op_add pe_int (pe_op op_mul pe_int (pc gd G_Ldraw (hr.mono (by decide)) (by rfl) T.m_Ldraw T.F_Ldraw.kp T.b_Ldraw .nil pass0 (pa_cons (pv 0) (pa_cons pe_int pa_nil))))))) pa_nil))) rfl) (pss_cons (ps_dput (hu_of hr) (pv 3) pe_str (pe_tupX pa_nil) rfl) (pss_cons (ps_if (pt_cmpR op_gt (pv 1) pe_int (nomark _)) (pss_one (ps_dput (hu_of hr) (pv 3) pe_str (pc gd G_Lpick (hr.mono (by decide)) (by rfl) T.m_Lpick T.F_Lpick.kp T.b_Lpick .nil pass0 (pa_cons (pv 0) (pa_cons (pe_slice sl_list (pc gd G_Lmenu (hr.mono (by decide)) (by rfl) T.m_Lmenu T.F_Lmenu.kp T.b_Lmenu .nil pass0 (pa_cons pe_str pa_nil)) po_none (po_some (pe_ifExp ((pw_and (pt_cmpR op_eq (pv 1) pe_int (nomark _)) (pw_and1 (pt_val (pe_dget (hu_of hr) (pv 3) pe_str (fun _ _ => rfl)))))).pt pe_int pe_int))) pa_nil))) rfl)) pss_nil) (pss_one (ps_ret (pv 3)))))))))))), ?_⟩
    refine q_dispR fun d hd => ?_
    have e0 : Ex H (upd H d (.dK [])) := Ex.new hd
    have nda : d ≠ a := hp.ne hd
    refine ev_raw ev_c fun H1 e1 => pick_list ((hp.ex e0).ex e1) rfl (el_lst (vs := [wV .undo, wV .undo, wV .leave, wV .wait]) (ea_cons (ev_lit (w0 := .undo) rfl) (ea_cons (ev_lit (w0 := .undo) rfl) (ea_cons (ev_lit (w0 := .leave) rfl) (ea_cons (ev_lit (w0 := .wait) rfl) ea_nil)))) (by show 4 ≤ 100000; omega)) (by show 1 ≤ 4; omega) (by show 4 ≤ 1000; omega) fun H2 v x2 p2 hv => ?_
    obtain ⟨u, hu, rfl⟩ : ∃ u ∈ failWs, v = wV u := by
      simp only [List.mem_cons, List.not_mem_nil, or_false] at hv
      rcases hv with rfl | rfl | rfl | rfl
      · exact ⟨.undo, by decide, rfl⟩
      · exact ⟨.undo, by decide, rfl⟩
      · exact ⟨.leave, by decide, rfl⟩
      · exact ⟨.wait, by decide, rfl⟩
    refine ev_raw ev_c fun H3 e3 => draw0 (p2.ex e3) rfl fun H4 b x4 p4 => ?_
    have x04 : ExB a (upd H d (.dK [])) H4 := (((ExB.of e1).trans x2).trans (ExB.of e3)).trans x4
    let f0 : Pt → V := fun p => if p = .fails then wV u else .bl b
    refine ⟨x04 _ _ nda upd_same, kvs [.fails, .shared] f0, rfl, (by show 2 ≤ 15; omega), ?_⟩
    rw [made_kvs f0 (by decide)]
    have st : Sta K a d [.fails, .shared] ⟨[], [], [], [], u, b, [], 1, true⟩ H (upd H4 d (.dK (kvs [.fails, .shared] f0))) := ⟨((ExB.of e0).trans x04).mut hd, p4.exB ExB.set nda.symm, hd, nda, f0, upd_same, fun p hp => by
      simp only [List.mem_cons, List.not_mem_nil, or_false] at hp
      rcases hp with rfl | rfl
      · exact rfl
      · exact rfl⟩
    refine q_part (p := .batch) st rfl (by decide) (by decide) (ep_batch2 st.p rfl rfl n1 n2) fun H5 l5 h5 st5 => ?_
    refine q_part (p := .settles) st5 rfl (by decide) (by decide) (ep_bool st5.p rfl (.inr rfl)) fun H6 l6 h6 st6 => ?_
    refine q_part (p := .holds) st6 rfl (by decide) (by decide) (ep_holds' (us := kindRows) st6.p (by decide) (fun H0 e0 R hR => (el_lst (vs := kindRows.map wV) (ea_cons (ev_lit (w0 := .take) rfl) (ea_cons (ev_lit (w0 := .give) rfl) (ea_cons (ev_lit (w0 := .move) rfl) (ea_cons (ev_lit (w0 := .lift) rfl) ea_nil)))) (by show 4 ≤ 100000; omega)) H0 (Ex.refl H0) _ fun p H1 hp1 e1 h1 => ⟨p, rfl, ⟨_, sq_of h1⟩, hR _ _ H1 walk_list e1 fun H' x => sq_of (x _ _ ((st6.p.ex e0).ne hp1) h1)⟩) (fun _ => rfl) (fun _ => rfl) (fun _ => rfl) draw_gt) fun H7 l7 h7 st7 => ?_
    have dT : DrawN (tOp (rI0 fun i j => .int (i + j)) (tC (.int 4)) (tOp (rI CMul fun i j => .int (i * j)) (tC (.int 2)) (tCB (fun xs H Q => (∃ i, xs = [V.int i] ∧ Q (.int i) H) ∨ ∃ k, xs = [V.bl k] ∧ Q (.int (if k = true then 1 else 0)) H) (tCons (tOp rEq (tDGet (tVar 3) (tC (.str Pt.batch.s))) (tC (.int 1))) tNil)))) [some (.ref a), some (nV i), some (nV n), some (.ref d), none] H7 a (fun m => m = 4 + 2 * (if l5.batch = 1 then 1 else 0)) := by
      refine dn_ev st7.p (ev_is (ev_op ev_c (ev_op ev_c (ev_cb (ea_cons (ev_is (ev_op (ev_pI rfl st7.d (by decide)) ev_c (rv_eq rfl)) (congrArg V.bl (nV_eq _ 1))) ea_nil) (fun H1 _ Q q => .inr ⟨decide (l5.batch = 1), rfl, q H1 (Ex.refl H1)⟩)) (rv_I (.inl ⟨by omega, by omega⟩))) rv_I0) ?_)
      show V.int _ = V.int _
      congr 1
      by_cases e : l5.batch = 1
      · rw [decide_eq_true e, if_pos rfl, if_pos e]
        rfl
      · rw [decide_eq_false e, if_neg Bool.false_ne_true, if_neg e]
        rfl
    refine q_part (p := .take) st7 rfl (by decide) (by decide) (pick_menu st7.p rfl (by decide) rfl dT (fun m hm => by
      subst hm
      show 1 ≤ _ ∧ _ ≤ 6
      split <;> omega)) fun H8 l8 h8 st8 => ?_
    have dG : ∀ {σ : L2.St} {G : Hp}, PotAt G a → σ[0]? = some (some (.ref a)) → DrawN (tOp (rI0 fun i j => .int (i + j)) (tC (.int 1)) (tOp (rI CMul fun i j => .int (i * j)) (tC (.int 5)) (tCall sp_Ldraw [] E0 (tCons (tVar 0) (tCons (tC (.int 2)) tNil))))) σ G a (fun m => 1 ≤ m ∧ m ≤ 6) := fun {σ G} hp hs G1 e1 Q q =>
      op_raw (ev_raw ev_c fun G2 e2 => op_raw (ev_raw ev_c fun G3 e3 => dr (n := 2) (ea_cons (ev_var hs) (ea_cons (ev_is ev_c rfl) ea_nil)) (((hp.ex e1).ex e2).ex e3) (by omega) (by omega) fun G4 j x4 p4 hj => (rv_I (.inl ⟨by omega, by omega⟩)) G4 (Ex.refl _) _ fun G5 e5 => rv_I0 G5 (Ex.refl _) _ fun G6 e6 => by
        have vn : (.int (1 + 5 * ((j : Nat) : Int)) : V) = nV (1 + 5 * j) := by
          show V.int _ = V.int _
          congr 1
        rw [vn]
        exact q G6 _ (((((ExB.of e2).trans (ExB.of e3)).trans x4).trans (ExB.of e5)).trans (ExB.of e6)) ((p4.ex e5).ex e6) ⟨by omega, by omega⟩))
    refine q_part (p := .give) st8 rfl (by decide) (by decide) (pick_menu st8.p rfl (by decide) rfl (dG st8.p rfl) (fun m hm => hm)) fun H9 l9 h9 st9 => ?_
    refine q_part (p := .lift) st9 rfl (by decide) (by decide) (pick_menu st9.p rfl (by decide) rfl (dG st9.p rfl) (fun m hm => hm)) fun H10 l10 h10 st10 => ?_
    have em : EvPt K (tTupX tNil) [some (.ref a), some (nV i), some (nV n), some (.ref d), none] H10 a .move (fun m => m.move = []) := fun G1 e1 Q q => (er_row (K := K) (us := []) ea_nil (by decide)) G1 (Ex.refl G1) Q fun b G2 e2 hb => q G2 (.ref b) ⟨[], [], [], [], .undo, true, [], 1, true⟩ (ExB.of e2) ((st10.p.ex e1).ex e2) ⟨b, rfl, hb⟩ rfl
    refine q_part (p := .move) st10 rfl (by decide) (by decide) em fun H11 l11 h11 st11 => ?_
    obtain ⟨m8, e8, r8⟩ := h8
    obtain ⟨m9, e9, r9⟩ := h9
    obtain ⟨m10, e10, r10⟩ := h10
    have h11' : RowOk l11.move ∧ pMove l11.move = true ∧ pShared l11.move b = true := by
      rw [h11]
      exact empty_move b
    have ok := Ok.mk (r := (((((((Ru.mk [] [] [] [] u b [] 1 true).upd l5 .batch).upd l6 .settles).upd l7 .holds).upd l8 .take).upd l9 .give).upd l10 .lift).upd l11 .move) (take_menu e8 r8) (give_menu r9) h11' (lift_menu r10) hu h7 h5
    have fin : ∀ {G : Hp} {r : Ru} {D : Ends}, D.rt = Q → Sta K a d ruleKs r H G → Ok r → tRet (tVar 3) D [some (.ref a), some (nV i), some (nV n), some (.ref d), none] G := fun hD st ok => s_ret (ev_var rfl) fun Hf ef => by
      rw [hD]
      exact q Hf d _ (st.x.trans (ExB.of ef)) (st.p.ex ef) hd (st.d.ex ef) ok
    refine q_when (et_test (ev_op (ev_var rfl) ev_c rv_I0)) (fun _ H12 e12 => ?_) fun _ H12 e12 => fin rfl (st11.ex (ExB.of e12) (st11.p.ex e12)) ok
    have st12 := st11.ex (ExB.of e12) (st11.p.ex e12)
    have dM : DrawN (tIf (tAnd (tTest (tOp rEq (tVar 1) (tC (.int 2)))) (tB (tDGet (tVar 3) (tC (.str Pt.shared.s))))) (tC (.int 18)) (tC (.int 11))) [some (.ref a), some (nV i), some (nV n), some (.ref d), none] H12 a (fun m => (m = 18 ∧ b = true) ∨ m = 11) := fun G1 e1 Q q =>
      if_raw ((et_and (a := decide (i = 2)) (b := b) (et_test (ev_is (ev_op (ev_var rfl) ev_c (rv_eq rfl)) (congrArg V.bl (nV_eq i 2)))) fun _ => et_B (ev_pS rfl (st12.d.ex e1) (by decide))) G1 (Ex.refl G1) _ fun G2 e2 => by
        have p2 := (st12.p.ex e1).ex e2
        cases hc : (decide (i = 2) && b) with
        | true =>
          rw [Bool.and_eq_true] at hc
          rw [if_pos rfl]
          exact q G2 18 (ExB.of e2) p2 (.inl ⟨rfl, hc.2⟩)
        | false =>
          rw [if_neg Bool.false_ne_true]
          exact q G2 11 (ExB.of e2) p2 (.inr rfl))
    refine s_over (p := .move) st12 rfl (by decide) (by decide) (fun H1 => ev_lp rfl) (pick_menu st12.p rfl (by decide) rfl dM (fun m hm => by
      show 1 ≤ m ∧ m ≤ 18
      rcases hm with ⟨e, _⟩ | e <;> omega)) fun H13 l13 h13 st13 => ?_
    obtain ⟨m13, e13, r13⟩ := h13
    dsimp only
    refine fin rfl st13 ?_
    exact Ok.mk (take_menu e8 r8) (give_menu r9) (move_menu e13 r13) (lift_menu r10) hu h7 h5
end
end My
namespace My
open PySem PySem.Spec PyProof.Rows L2 GL Evl StX SkE
/-! ### courses -/
/-- asked of nobody: a def in a branch that is never taken -/
def sp_never : Sp := fun _ _ _ _ => False
def cfs (k w g o : V) : List (Str × V) := putF "leaves_out" (.bl false) (putF "old" o (putF "group" g (putF "words" w (putF "kind" k []))))
def CourseAt (C : Addr) (H : Hp) (c : Addr) (k w g o : V) : Prop := ∃ dx, H c = some (.ins C dx (cfs k w g o))
def sp_Cinit (C : Addr) : Sp := fun vs H Q _ => ∃ H0 x dx k w g o, vs = [.ref x, k, w, g, o, .bl false] ∧ Ex H0 H ∧ H0 x = none ∧ H x = some (.ins C dx []) ∧ ∀ H', Ex H0 H' → CourseAt C H' x k w g o → Q .non H'
section
variable {P : Program} {w : World} {K : PySem.W.Frag} {mg : Str → Option Value} {base : Heap} {C : Addr} {H H' H0 H1 : Hp} {σ : L2.St} {te tb ta tc : TE} {tt : TT} {tA : TA} {E Er : XK} {D : Ends} {tz : TS} {a b d : Addr} {us : Rw} {xs ys : List V} {rs qs : List Rw} {ks : List Pt} {r l : Ru} {p : Pt} {v : V} {Q : VK}
theorem q_fldV {f : Str} {p dx : Addr} {fs : List (Str × V)} (h : Ev te σ H v) (ho : Ev tb σ H (.ref p)) (hp : H p = some (.ins C dx fs)) (c : Cls K C) (n : NoAttr K C f) (hl : fs.length < 1000)
    (k : ∀ H1, Ex H H1 → H1 p = some (.ins C dx fs) → tz D σ (upd H1 p (.ins C dx (putF f v fs)))) : tSeq (sFld K tb te f) tz D σ H :=
  h H (Ex.refl H) _ fun H1 e1 => ho H1 e1 _ fun H2 e2 => ⟨p, C, dx, fs, rfl, e2 _ _ (e1 _ _ hp), c, n, hl, k H2 (e1.trans e2) (e2 _ _ (e1 _ _ hp))⟩
theorem s_fldV {f : Str} {p dx : Addr} {fs : List (Str × V)} (h : Ev te σ H v) (ho : Ev tb σ H (.ref p)) (hp : H p = some (.ins C dx fs)) (c : Cls K C) (n : NoAttr K C f) (hl : fs.length < 1000)
    (k : ∀ H1, Ex H H1 → H1 p = some (.ins C dx fs) → D.nx σ (upd H1 p (.ins C dx (putF f v fs)))) : sFld K tb te f D σ H :=
  h H (Ex.refl H) _ fun H1 e1 => ho H1 e1 _ fun H2 e2 => ⟨p, C, dx, fs, rfl, e2 _ _ (e1 _ _ hp), c, n, hl, k H2 (e1.trans e2) (e2 _ _ (e1 _ _ hp))⟩
theorem ok_Cinit (T : Txt K mg w)  : FnG P w K mg base CX0 1 T.f_Cinit T.fd_Cinit ["self", "kind", "words", "group", "old", "leaves_out"] (sp_Cinit T.C_Course) := by
  refine okGD T.F_Cinit sc_Cinit (fun vs H Q E h => ?_) (fun cdv A outer s H vs Q E gd hr h => ?_)
  · obtain ⟨_, _, _, _, _, _, _, rfl, _⟩ := h
    all_goals rfl
  · obtain ⟨H0, x, dx, k, w0, g, o, rfl, e0, hx0, hx, q⟩ := h
    refine ⟨_, (pss_cons (ps_fld (pv 0) (pv 1) rfl) (pss_cons (ps_fld (pv 0) (pv 2) rfl) (pss_cons (ps_fld (pv 0) (pv 3) rfl) (pss_cons (ps_fld (pv 0) (pv 4) rfl) (pss_one (ps_fld (pv 0) (pv 5) rfl)))))), ?_⟩
    refine q_fldV (v := k) (ev_var rfl) (ev_var rfl) hx T.c_Course T.nkind (by show 0 < 1000; omega) fun H1 e1 _ => ?_
    refine q_fldV (v := w0) (ev_var rfl) (ev_var rfl) upd_same T.c_Course T.nwords (by show 1 < 1000; omega) fun H2 e2 _ => ?_
    refine q_fldV (v := g) (ev_var rfl) (ev_var rfl) upd_same T.c_Course T.ngroup (by show 2 < 1000; omega) fun H3 e3 _ => ?_
    refine q_fldV (v := o) (ev_var rfl) (ev_var rfl) upd_same T.c_Course T.nold (by show 3 < 1000; omega) fun H4 e4 _ => ?_
    refine s_fldV (v := .bl false) (ev_var rfl) (ev_var rfl) upd_same T.c_Course T.nleaves_out (by show 4 < 1000; omega) fun H5 e5 _ => ?_
    refine q _ (Ex.mut ((Ex.mut ((Ex.mut ((Ex.mut ((Ex.mut (e0.trans e1) hx0).trans e2) hx0).trans e3) hx0).trans e4) hx0).trans e5) hx0) ⟨dx, upd_same⟩
/-- the promise that is never asked -/
theorem CourseAt.ex {c : Addr} {k w g o : V} (h : CourseAt C H c k w g o) (e : Ex H H') : CourseAt C H' c k w g o := by
  obtain ⟨dx, h⟩ := h
  exact ⟨dx, e _ _ h⟩
def wayWs : Rw := [.look, .add, .tri, .off]
section
variable {k w0 g o : V}
theorem cf_leaves : (cfs k w0 g o).lookup ("leaves_out" : Str) = some (.bl false) := by
  unfold cfs
  rw [lookup_putF, if_pos rfl]
theorem cf_old : (cfs k w0 g o).lookup ("old" : Str) = some o := by
  unfold cfs
  rw [lookup_putF, if_neg (by decide +kernel), lookup_putF, if_pos rfl]
theorem cf_group : (cfs k w0 g o).lookup ("group" : Str) = some g := by
  unfold cfs
  rw [lookup_putF, if_neg (by decide +kernel), lookup_putF, if_neg (by decide +kernel), lookup_putF, if_pos rfl]
theorem cf_words : (cfs k w0 g o).lookup ("words" : Str) = some w0 := by
  unfold cfs
  rw [lookup_putF, if_neg (by decide +kernel), lookup_putF, if_neg (by decide +kernel), lookup_putF, if_neg (by decide +kernel), lookup_putF, if_pos rfl]
theorem cf_kind : (cfs k w0 g o).lookup ("kind" : Str) = some k := by
  unfold cfs
  rw [lookup_putF, if_neg (by decide +kernel), lookup_putF, if_neg (by decide +kernel), lookup_putF, if_neg (by decide +kernel), lookup_putF, if_neg (by decide +kernel), lookup_putF, if_pos rfl]
theorem cf_no {m : Str} (h : ([("leaves_out" : Str), "old", "group", "words", "kind"].all fun f => !decide (m = f)) = true) : (cfs k w0 g o).lookup m = none := by
  simp only [List.all_cons, List.all_nil, Bool.and_true, Bool.and_eq_true, Bool.not_eq_true', decide_eq_false_iff_not] at h
  obtain ⟨h1, h2, h3, h4, h5⟩ := h
  unfold cfs
  rw [lookup_putF, if_neg h1, lookup_putF, if_neg h2, lookup_putF, if_neg h3, lookup_putF, if_neg h4, lookup_putF, if_neg h5]
  rfl
end
/-- the course of a take to a group (kd), or of a give from a home -/
def CrsAt (C : Addr) (H : Hp) (c : Addr) (kd : Bool) (w0 : V) (g : Nat) : Prop := CourseAt C H c (.str (if kd then Pt.take.s else Pt.give.s)) w0 (if kd then nV g else .non) (if kd then .non else nV g)
def grpV (ps : List Nat) (g : Nat) (x : Wd) : List V := if x ∈ wayWs then (path ps g).map nV else [.non]
def sp_Cgroups (K : PySem.W.Frag) (CC CT : Addr) : Sp := fun vs H Q _ => ∃ c t x kd w0 g st, ∃ ps : List Nat, vs = [.ref c, .ref t, wV x] ∧ CrsAt CC H c kd w0 g ∧ MyT.TreeAt CT H t ps st ∧ Good ps ∧ ps.length ≤ 199 ∧ g ≤ ps.length ∧ (x ∈ wayWs → decide (x = .off) = !kd) ∧ RetL (grpV ps g x) H Q
theorem ok_Cgroups (T : Txt K mg w) (G_Tapart : FnG P w K mg base CX0 1 T.f_Tapart T.fd_Tapart ["self", "group", "seen"] sp_never) (G_Tway : FnG P w K mg base CX0 4 T.f_Tway T.fd_Tway ["self", "group"] (MyT.sp_Tway T.C_Tree)) : FnG P w K mg base CX0 5 T.f_Cgroups T.fd_Cgroups ["self", "tree", "word"] (sp_Cgroups K T.C_Course T.C_Tree) := by
  refine okG T.F_Cgroups sc_Cgroups (fun vs H Q E h => ?_) (fun cdv A outer s H vs Q E gd hr h => ?_)
  · obtain ⟨_, _, _, _, _, _, _, _, rfl, _⟩ := h
    all_goals rfl
  · obtain ⟨c, t, x, kd, w0, g, st, ps, rfl, ⟨dx, hc⟩, ht, gd1, hl, hg, hx, q⟩ := h
    refine ⟨_, (pss_cons (ps_if (pt_cmpR op_eq (pe_fld (pv 0) rfl) pe_str (nomark _)) (pss_one (ps_ret (pe_ifExp (pt_cmpR op_in_seq (pv 2) (pe_tupX (pa_cons pe_str (pa_cons pe_str pa_nil))) (by rfl)) (pe_lst (pa_cons (pe_fld (pv 0) rfl) pa_nil)) (pe_lst (pa_cons pe_non pa_nil))))) pss_nil) (pss_cons (ps_if (pt_cmpR op_notIn_seq (pv 2) (pe_glob (v := .ref T.g_WAY_WORDS) (by rfl) T.m_WAY_WORDS rfl) (by rfl)) (pss_one (ps_ret (pe_lst (pa_cons pe_non pa_nil)))) pss_nil) (pss_cons (ps_par (i := 3) (j := 4) rfl sc_Cgroups.nd rfl rfl (by decide) rfl rfl (pa_cons (pe_fld (pv 0) rfl) (pa_cons (pe_fld (pv 0) rfl) pa_nil)) (by rfl)) (pss_cons (ps_if ((pw_and (pt_cmpR op_eq (pv 2) pe_str (nomark _)) (pw_and1 (pt_cmpR op_ne (pe_fld (pv 0) rfl) pe_str (nomark _))))).pt (pss_one (ps_par (i := 3) (j := 4) rfl sc_Cgroups.nd rfl rfl (by decide) rfl rfl (pa_cons (pe_fld (pv 0) rfl) (pa_cons (pe_fld (pv 0) rfl) pa_nil)) (by rfl))) pss_nil) (pss_one (ps_ret (pe_ifExp (pt_val (pe_fld (pv 0) rfl)) (pm gd (pv 1) T.c_Tree T.M_Tapart G_Tapart (hr.mono (by decide)) T.b_Tapart .nil pass0 (pa_cons (pv 3) (pa_cons (pv 4) pa_nil))) (pm gd (pv 1) T.c_Tree T.M_Tway G_Tway (hr.mono (by decide)) T.b_Tway .nil pass0 (pa_cons (pv 3) pa_nil))))))))), ?_⟩
    refine q_when (b := false) (et_test (ev_is (ev_op (ev_fld (ev_var rfl) hc T.c_Course T.nkind cf_kind) ev_c (rv_eq rfl)) (cbl ?_))) (fun z => nomatch z) fun _ H1 e1 => ?_
    · cases kd <;> decide +kernel
    have hc1 := e1 _ _ hc
    refine q_when (b := !decide (x ∈ wayWs)) (et_test (ev_op (ev_var rfl) ev_c (rv_niW (us := wayWs) (T.s_WAY_WORDS _)))) (fun hb H2 e2 => ?_) fun hb H2 e2 => ?_
    · rw [Bool.not_eq_true', decide_eq_false_iff_not] at hb
      refine s_retL (el_lst (ea_cons ev_c ea_nil) (by show 1 ≤ 100000; omega)) fun p H3 hp e3 h3 => q p H3 (fresh_back (e1.trans e2) hp) ((e1.trans e2).trans e3) ?_
      rw [h3]
      unfold grpV
      rw [if_neg hb]
    · rw [Bool.not_eq_false', decide_eq_true_eq] at hb
      have hx' := hx hb
      have hc2 := (e1.trans e2) _ _ hc
      have retW : ∀ {G : Hp} {D : Ends} {y4 : Option V}, Ex H G → D.rt = Q → tRet (tIf (tB (tFld K (tVar 0) (Str.ofString "leaves_out"))) (tMeth T.C_Tree (Str.ofString "apart") sp_never [] E0 (tVar 1) (tCons (tVar 3) (tCons (tVar 4) tNil))) (tMeth T.C_Tree (Str.ofString "way") (MyT.sp_Tway T.C_Tree) [] E0 (tVar 1) (tCons (tVar 3) tNil))) D [some (.ref c), some (.ref t), some (wV x), some (nV g), y4] G := fun {G D y4} eG hD => by
        refine s_retR ?_
        rw [hD]
        refine if_raw ((et_B (ev_fld (ev_var (v := .ref c) rfl) (eG _ _ hc) T.c_Course T.nleaves_out cf_leaves)) G (Ex.refl G) _ fun G2 f2 => ?_)
        rw [if_neg Bool.false_ne_true]
        obtain ⟨dt, la, ls, pt⟩ := id (ht.ex (eG.trans f2))
        refine meth_raw (ev_var (v := .ref t) rfl) fun G3 f3 => ⟨dt, _, f3 _ _ pt.ob, MyT.tf_no la ls (by decide +kernel) (by decide +kernel), ?_⟩
        refine cons1_raw (ev_raw (ev_var (v := nV g) rfl) fun G4 f4 => ⟨t, ps, st, g, rfl, ht.ex ((eG.trans f2).trans (f3.trans f4)), gd1, hl, hg, fun p G5 hp e5 h5 => ?_⟩)
        refine q p G5 (fresh_back ((eG.trans f2).trans (f3.trans f4)) hp) (((eG.trans f2).trans (f3.trans f4)).trans e5) ?_
        rw [h5]
        unfold grpV
        rw [if_pos hb]
      cases kd with
      | true =>
        have nx : decide (x = .off) = false := hx'
        refine q_parR ((ea_cons (ev_fld (ev_var (v := .ref c) rfl) hc2 T.c_Course T.ngroup cf_group) (ea_cons (ev_fld (ev_var (v := .ref c) rfl) hc2 T.c_Course T.nold cf_old) ea_nil) : EvA _ _ _ [nV g, .non]) H2 (Ex.refl H2) _ fun H3 e3 => ⟨_, _, rfl, ?_⟩)
        refine q_when (b := false) (et_is (et_and (a := false) (b := false) (et_test (ev_is (ev_op (ev_var rfl) (ev_lit (w0 := .off) rfl) (rv_eq rfl)) (cbl (by rw [wV_eq]; exact nx)))) fun z => nomatch z) rfl) (fun z => nomatch z) fun _ H4 e4 => retW ((e1.trans e2).trans (e3.trans e4)) rfl
      | false =>
        have yx : x = .off := of_decide_eq_true hx'
        subst yx
        refine q_parR ((ea_cons (ev_fld (ev_var (v := .ref c) rfl) hc2 T.c_Course T.ngroup cf_group) (ea_cons (ev_fld (ev_var (v := .ref c) rfl) hc2 T.c_Course T.nold cf_old) ea_nil) : EvA _ _ _ [.non, nV g]) H2 (Ex.refl H2) _ fun H3 e3 => ⟨_, _, rfl, ?_⟩)
        have hc3 := e3 _ _ hc2
        refine q_when (b := true) (et_is (et_and (a := true) (b := true) (et_test (ev_is (ev_op (ev_var rfl) (ev_lit (w0 := .off) rfl) (rv_eq rfl)) (cbl (by decide +kernel)))) fun _ => et_test (ev_is (ev_op (ev_fld (ev_var (v := .ref c) rfl) hc3 T.c_Course T.nkind cf_kind) ev_c (rv_ne rfl)) (cbl (by decide +kernel)))) rfl) (fun _ H4 e4 => ?_) fun z => nomatch z
        have hc4 := e4 _ _ hc3
        refine (ea_cons (ev_fld (ev_var (v := .ref c) rfl) hc4 T.c_Course T.nold cf_old) (ea_cons (ev_fld (ev_var (v := .ref c) rfl) hc4 T.c_Course T.ngroup cf_group) ea_nil) : EvA _ _ _ [nV g, .non]) H4 (Ex.refl H4) _ fun H5 e5 => ⟨_, _, rfl, ?_⟩
        exact retW ((e1.trans e2).trans ((e3.trans e4).trans e5)) rfl
end
end My
namespace My
open PySem PySem.Spec PyProof.Rows L2 GL Evl StX SkE
/-! ### single deeds -/
/-- a loop whose turns do anything -/
theorem outer_it {J : It} {n : Nat} {G : Hp → Prop} {Y : Nat → Hp → V → Hp → Prop} (w : Walk J n G Y) (Pv : Nat → Hp → Prop) {H0 : Hp} {Qd : Hp → Prop} {B : (Hp → Prop) → V → Hp → Prop} (h0 : Pv 0 H0) (hG : ∀ i H, i ≤ n → Pv i H → G H) (hs : ∀ i x H H', i < n → Pv i H → Y i H x H' → B (Pv (i + 1)) x H') (hd : ∀ H, Pv n H → Qd H) :
    ∃ W : Nat → Nat → Hp → Prop, (∃ m, W 0 m H0) ∧ ∀ i m H, W i m H → (J.stop i H ∧ Qd H) ∨ (J.go i H ∧ ∃ Nx : Hp → Prop, (∀ H', Nx H' → ∃ m', m' < m ∧ W (i + 1) m' H') ∧ ∀ x H', J.yld i H x H' → B Nx x H') := by
  refine ⟨fun i m H => m = n - i ∧ i ≤ n ∧ Pv i H, ⟨n, by simp, Nat.zero_le _, h0⟩, ?_⟩
  rintro i m H ⟨rfl, hi, p⟩
  have q := hG i H hi p
  by_cases hlt : i < n
  · exact .inr ⟨w.goes i H hlt q, Pv (i + 1), fun H' p' => ⟨n - (i + 1), by omega, rfl, hlt, p'⟩, fun x H' y => hs i x H H' hlt p (w.yields i H x H' hlt q y)⟩
  · have e : i = n := by omega
    subst e
    exact .inl ⟨w.stops H q, hd H p⟩
inductive PrsAt (H : Hp) : List V → List (Wd × V) → Prop where
  | nil : PrsAt H [] []
  | cons {a : Addr} {o : Obj} {x : Wd} {v : V} {ys : List V} {ds : List (Wd × V)} (h : H a = some (.frz o (.tup [wV x, v]))) (t : PrsAt H ys ds) : PrsAt H (.ref a :: ys) ((x, v) :: ds)
theorem PrsAt.ex {H H' : Hp} {ys : List V} {ds : List (Wd × V)} (h : PrsAt H ys ds) (e : Ex H H') : PrsAt H' ys ds := by
  induction h with
  | nil => exact .nil
  | cons h _ ih => exact .cons (e _ _ h) ih
theorem PrsAt.exL {H H' : Hp} {a : Addr} {xs ys : List V} {ds : List (Wd × V)} (h : PrsAt H ys ds) (e : ExB a H H') (ha : H a = some (.lst xs)) : PrsAt H' ys ds := by
  induction h with
  | nil => exact .nil
  | @cons b o x v ys ds h _ ih => exact .cons (e _ _ (fun z => by rw [z, ha] at h; cases h) h) ih
theorem PrsAt.len {H : Hp} {ys : List V} {ds : List (Wd × V)} (h : PrsAt H ys ds) : ys.length = ds.length := by
  induction h with
  | nil => rfl
  | cons _ _ ih => rw [List.length_cons, List.length_cons, ih]
theorem PrsAt.app {H : Hp} {ys zs : List V} {ds es : List (Wd × V)} (h : PrsAt H ys ds) (h2 : PrsAt H zs es) : PrsAt H (ys ++ zs) (ds ++ es) := by
  induction h with
  | nil => exact h2
  | cons h _ ih => exact .cons h ih
def deedsOf (ps : List Nat) (g : Nat) (us : Rw) : List (Wd × V) := us.flatMap fun x => (grpV ps g x).map fun v => (x, v)
theorem grp_len {ps : List Nat} {g : Nat} (h : Good ps) (hl : ps.length ≤ 199) (hg : g ≤ ps.length) (x : Wd) : (grpV ps g x).length ≤ 1000 := by
  unfold grpV
  split
  · rw [List.length_map]
    have := path_len h g g (Nat.le_refl _) hg
    omega
  · show 1 ≤ 1000
    omega
theorem deeds_len {ps : List Nat} {g : Nat} (h : Good ps) (hl : ps.length ≤ 199) (hg : g ≤ ps.length) : ∀ us : Rw, (deedsOf ps g us).length ≤ us.length * 1000
  | [] => Nat.zero_le _
  | u :: us => by
    have ih := deeds_len h hl hg us
    have l := grp_len h hl hg u
    show (((grpV ps g u).map _) ++ deedsOf ps g us).length ≤ (us.length + 1) * 1000
    rw [List.length_append, List.length_map]
    omega
def sp_Csingle (K : PySem.W.Frag) (CC CT : Addr) : Sp := fun vs H Q _ => ∃ c t a kd w0 g st us, ∃ ps : List Nat, vs = [.ref c, .ref t, .ref a] ∧ CrsAt CC H c kd w0 g ∧ MyT.TreeAt CT H t ps st ∧ Good ps ∧ ps.length ≤ 199 ∧ g ≤ ps.length ∧ RowX K H a us ∧ us.length ≤ 6 ∧ (∀ x ∈ us, x ∈ wayWs → decide (x = .off) = !kd) ∧ ∀ H' p ys, H p = none → Ex H H' → H' p = some (.lst ys) → PrsAt H' ys (deedsOf ps g us) → Q (.ref p) H'
theorem CrsAt.ex {C : Addr} {H H' : Hp} {c : Addr} {kd : Bool} {w0 : V} {g : Nat} (h : CrsAt C H c kd w0 g) (e : Ex H H') : CrsAt C H' c kd w0 g := by
  obtain ⟨dx, h⟩ := h
  exact ⟨dx, e _ _ h⟩
section
variable {P : Program} {w : World} {K : PySem.W.Frag} {mg : Str → Option Value} {base : Heap} {C : Addr} {H H' H0 H1 : Hp} {σ : L2.St} {te tb ta tc : TE} {tt : TT} {tA : TA} {E Er : XK} {D : Ends} {tz : TS} {a b d : Addr} {us : Rw} {xs ys : List V} {rs qs : List Rw} {ks : List Pt} {r l : Ru} {p : Pt} {v : V} {Q : VK}
theorem tupx_raw (h : tA σ H fun xs H1 => xs.length ≤ sizeLine ∧ ∀ p o, H1 p = none → Bare o → Q (.ref p) (upd H1 p (.frz o (.tup xs)))) : tTupX tA σ H Q := h
theorem it_raw {R : It → Hp → Prop} (h : te σ H fun x H1 => ∃ a, x = .ref a ∧ (∃ xs, SqT K H1 a xs) ∧ R (Itt K a) H1) : iTup K te σ H R := h
theorem ok_Csingle_deeds (T : Txt K mg w) (G_Cgroups : FnG P w K mg base CX0 5 T.f_Cgroups T.fd_Cgroups ["self", "tree", "word"] (sp_Cgroups K T.C_Course T.C_Tree)) : FnG P w K mg base CX0 6 T.f_Csingle_deeds T.fd_Csingle_deeds ["self", "tree", "words"] (sp_Csingle K T.C_Course T.C_Tree) := by
  refine okG T.F_Csingle_deeds sc_Csingle_deeds (fun vs H Q E h => ?_) (fun cdv A outer s H vs Q E gd hr h => ?_)
  · obtain ⟨_, _, _, _, _, _, _, _, _, rfl, _⟩ := h
    all_goals rfl
  · obtain ⟨c, t, a, kd, w0, g, st, us, ps, rfl, hc, ht, gd1, hl, hg, ra, h6, hx, q⟩ := h
    refine ⟨_, (pss_one (ps_ret (pe_lc2 (own := [("word", 3), ("group", 4)]) (vs1 := [4]) (g := gName 3) (g1 := gName 4) rfl sc_Csingle_deeds.nd (pi_tup (pv 2)) (blkOk_by (N := N_Csingle_deeds) (sc := defScope s_Csingle_deeds) (by decide +kernel)) (by decide) (fun _ _ _ _ _ => (pg_name (i := 3) sc_Csingle_deeds.nd rfl (Or.inl rfl) (Or.inr rfl))) (fun _ _ _ _ _ => pts_nil) (fun _ _ _ _ _ => (show PI _ _ _ (iList K _) from pi_list (pm gd (pv 0) T.c_Course T.M_Cgroups G_Cgroups (hr.mono (by decide)) T.b_Cgroups .nil pass0 (pa_cons (pv 1) (pa_cons (pv 3) pa_nil))))) (fun _ _ _ _ _ => (pg_name (i := 4) sc_Csingle_deeds.nd rfl (Or.inl rfl) (Or.inr rfl))) (fun _ _ _ _ _ => pts_nil) (fun _ _ _ _ _ => (pe_tupX (pa_cons (pv 3) (pa_cons (pv 4) pa_nil))))))), ?_⟩
    refine s_retR (show iTup K (tVar 2) _ H _ from it_raw (ev_raw (ev_var (v := .ref a) rfl) fun H1 e1 => ⟨a, rfl, ⟨_, (ra.ex e1).sq⟩, fun Dl hD => ?_⟩))
    have ex0 : ∀ {G : Hp}, Ex H1 G → Ex H G := fun e => e1.trans e
    refine outer_it (walk_tup (K := K) (a := a) (xs := us.map wV)) (fun k G => ∃ ys, Ex H1 G ∧ G Dl = some (.lst ys) ∧ PrsAt G ys (deedsOf ps g (us.take k))) ⟨[], Ex.new hD, upd_same, .nil⟩ (fun k G _ z => ?_) (fun k v G1 G2 hk z y => ?_) (fun G z => ?_)
    · obtain ⟨_, z1, _⟩ := z
      exact (ra.ex (ex0 z1)).sq
    · obtain ⟨rfl, hv⟩ := y
      obtain ⟨ys, z1, z2, z3⟩ := z
      obtain ⟨u, hu, rfl, mu⟩ := w_item hv
      refine ⟨rfl, yes_raw (il_raw ?_)⟩
      obtain ⟨dc, hcc⟩ := hc.ex (ex0 z1)
      refine meth_raw (ev_var (v := .ref c) rfl) fun G3 e3 => ⟨dc, _, e3 _ _ hcc, cf_no (by decide +kernel), ?_⟩
      refine (ea_cons (ev_var (v := .ref t) rfl) (ea_cons (ev_var (v := wV u) rfl) ea_nil) : EvA _ _ _ [.ref t, wV u]) G3 (Ex.refl G3) _ fun G4 e4 => ⟨c, t, u, kd, w0, g, st, ps, rfl, hc.ex (ex0 (z1.trans (e3.trans e4))), ht.ex (ex0 (z1.trans (e3.trans e4))), gd1, hl, hg, hx u mu, fun p G5 hp e5 h5 => ⟨p, rfl, ⟨_, sq_of h5⟩, ?_⟩⟩
      have z15 : Ex H1 G5 := z1.trans ((e3.trans e4).trans e5)
      have nD : Dl ≠ p := ne_of_none ((e3.trans e4) _ _ z2) hp
      have d5 : G5 Dl = some (.lst ys) := ((e3.trans e4).trans e5) _ _ z2
      have y5 : PrsAt G5 ys (deedsOf ps g (us.take k)) := z3.ex ((e3.trans e4).trans e5)
      have lg : (grpV ps g u).length ≤ 1000 := grp_len gd1 hl hg u
      have tk : us.take (k + 1) = us.take k ++ [u] := by
        rw [List.take_add_one, hu]
        rfl
      have dk : deedsOf ps g (us.take (k + 1)) = deedsOf ps g (us.take k) ++ (grpV ps g u).map fun v => (u, v) := by
        unfold deedsOf
        rw [tk, List.flatMap_append]
        congr 1
        show (List.map _ _ ++ []) = _
        rw [List.append_nil]
      have lk : ys.length ≤ 6 * 1000 := by
        rw [y5.len]
        have l1 := deeds_len gd1 hl hg (us.take k)
        rw [List.length_take] at l1
        have l2 : min k us.length ≤ 6 := by omega
        have l3 := Nat.mul_le_mul_right 1000 l2
        omega
      refine outer_it (walk_list (K := K) (a := p) (xs := grpV ps g u)) (fun j G => ∃ zs, Ex H1 G ∧ G p = some (.lst (grpV ps g u)) ∧ G Dl = some (.lst (ys ++ zs)) ∧ PrsAt G (ys ++ zs) (deedsOf ps g (us.take k) ++ ((grpV ps g u).take j).map fun v => (u, v)) ∧ zs.length = j) ⟨[], z15, h5, by rw [List.append_nil]; exact d5, by rw [List.append_nil, List.take_zero, List.map_nil, List.append_nil]; exact y5, rfl⟩ (fun j G _ z => ?_) (fun j v G6 G7 hj z y => ?_) (fun G z => ?_)
      · obtain ⟨_, _, z, _⟩ := z
        exact sq_of z
      · obtain ⟨rfl, hv2⟩ := y
        obtain ⟨zs, f1, f2, f3, f4, f5⟩ := z
        refine ⟨rfl, yes_raw (tupx_raw ?_)⟩
        refine (ea_cons (ev_var (v := wV u) rfl) (ea_cons (ev_var (v := v) rfl) ea_nil) : EvA _ _ _ [wV u, v]) G7 (Ex.refl G7) _ fun G8 e8 => ⟨(by show 2 ≤ sizeLine; decide), fun t2 o ht2 bo => ?_⟩
        have hDl8 : (upd G8 t2 (.frz o (.tup [wV u, v]))) Dl = some (.lst (ys ++ zs)) := (Ex.new ht2) _ _ (e8 _ _ f3)
        refine ⟨ys ++ zs, hDl8, by rw [List.length_append, sizeLine_eq]; omega, zs ++ [.ref t2], Ex.mut ((f1.trans e8).trans (Ex.new ht2)) hD, ?_, by rw [upd_same, List.append_assoc], ?_, by rw [List.length_append, f5]; rfl⟩
        · rw [upd_ne nD.symm]
          exact (Ex.new ht2) _ _ (e8 _ _ f2)
        · have tj : ((grpV ps g u).take (j + 1)).map (fun v => (u, v)) = ((grpV ps g u).take j).map (fun v => (u, v)) ++ [(u, v)] := by
            rw [List.take_add_one, hv2, List.map_append]
            rfl
          rw [tj, ← List.append_assoc, ← List.append_assoc]
          exact (((f4.ex (e8.trans (Ex.new ht2))).app (.cons upd_same .nil)).exL ExB.set hDl8)
      · obtain ⟨zs, f1, f2, f3, f4, f5⟩ := z
        rw [List.take_length] at f4
        exact ⟨ys ++ zs, f1, f3, by rw [dk]; exact f4⟩
    · obtain ⟨ys, z1, z2, z3⟩ := z
      rw [List.length_map, List.take_length] at z3
      exact q G Dl ys (fresh_back e1 hD) (ex0 z1) z2 z3
end
end My
namespace My
open PySem PySem.Spec PyProof.Rows L2 GL Evl StX SkE
/-! ### plans -/
def sp_ckind : Sp := fun vs H Q _ => ∃ k : Wd, vs = [wV k] ∧ k ∈ kindRows ∧ RetV .non H Q
def sp_Brow (K : PySem.W.Frag) (C : Addr) : Sp := fun vs H Q _ => ∃ b r p, vs = [.ref b, pV p] ∧ p ∈ rowPs ∧ BookAt K C H b r ∧ ∀ H' a, Ex H H' → RowX K H' a (rowPt p r) → Q (.ref a) H'
def sp_tcourse (K : PySem.W.Frag) (C CC : Addr) : Sp := fun vs H Q _ => ∃ b r, ∃ g : Nat, vs = [.ref b, nV g] ∧ BookAt K C H b r ∧ ∀ H' c a, Ex H H' → CrsAt CC H' c true (.ref a) g → RowX K H' a r.take → Q (.ref c) H'
def sp_gcourse (K : PySem.W.Frag) (C CC : Addr) : Sp := fun vs H Q _ => ∃ b r, ∃ g : Nat, vs = [.ref b, nV g] ∧ BookAt K C H b r ∧ ∀ H' c a, Ex H H' → CrsAt CC H' c false (.ref a) g → RowX K H' a r.give → Q (.ref c) H'
def sp_plan (K : PySem.W.Frag) (CC CT : Addr) : Sp := fun vs H Q _ => ∃ c t a kd g st us, ∃ ps : List Nat, vs = [.ref c, .ref t] ∧ CrsAt CC H c kd (.ref a) g ∧ MyT.TreeAt CT H t ps st ∧ Good ps ∧ ps.length ≤ 199 ∧ g ≤ ps.length ∧ RowX K H a us ∧ us.length ≤ 6 ∧ (∀ x ∈ us, x ∈ wayWs → decide (x = .off) = !kd) ∧ ∀ H' p ys, H p = none → Ex H H' → H' p = some (.lst ys) → PrsAt H' ys (deedsOf ps g us) → Q (.ref p) H'
def sp_tplan (K : PySem.W.Frag) (C CT : Addr) : Sp := fun vs H Q _ => ∃ b t r g st, ∃ ps : List Nat, vs = [.ref b, .ref t, nV g] ∧ BookAt K C H b r ∧ MyT.TreeAt CT H t ps st ∧ Good ps ∧ ps.length ≤ 199 ∧ g ≤ ps.length ∧ ∀ H' p ys, H p = none → Ex H H' → H' p = some (.lst ys) → PrsAt H' ys (deedsOf ps g r.take) → Q (.ref p) H'
def sp_gplan (K : PySem.W.Frag) (C CT : Addr) : Sp := fun vs H Q _ => ∃ b t r g st, ∃ ps : List Nat, vs = [.ref b, .ref t, nV g] ∧ BookAt K C H b r ∧ MyT.TreeAt CT H t ps st ∧ Good ps ∧ ps.length ≤ 199 ∧ g ≤ ps.length ∧ ∀ H' p ys, H p = none → Ex H H' → H' p = some (.lst ys) → PrsAt H' ys (deedsOf ps g r.give) → Q (.ref p) H'
section
variable {P : Program} {w : World} {K : PySem.W.Frag} {mg : Str → Option Value} {base : Heap} {C : Addr} {H H' H0 H1 : Hp} {σ : L2.St} {te tb ta tc : TE} {tt : TT} {tA : TA} {E Er : XK} {D : Ends} {tz : TS} {a b d : Addr} {us : Rw} {xs ys : List V} {rs qs : List Rw} {ks : List Pt} {r l : Ru} {p : Pt} {v : V} {Q : VK}
theorem tmake_raw {sp : Sp} {dvs : List V} {Er : XK} (h : tA σ H fun vs H2 => ∀ x dx, H2 x = none → H2 dx = none → dx ≠ x → sp (.ref x :: (vs ++ dvs)) (upd (upd H2 dx (.own x)) x (.ins C dx [])) (fun v H3 => v = .non ∧ Q (.ref x) H3) Er) : tMake C sp dvs Er tA σ H Q := h
theorem take_words {us : Rw} (h : pTake us = true) : ∀ x ∈ us, x ∈ wayWs → decide (x = .off) = !true := fun x hx _ => by
  have hw : x ∈ ([.live, .tri, .add, .look] : Rw) := by
    unfold pTake pW at h
    simp only [Bool.and_eq_true] at h
    exact of_decide_eq_true (List.all_eq_true.mp h.1.1 x hx)
  cases x <;> first | rfl | exact absurd hw (by decide)
theorem give_words {us : Rw} (h : pGive us = true) : ∀ x ∈ us, x ∈ wayWs → decide (x = .off) = !false := fun x hx hy => by
  have hw : x ∈ ([.fin, .home, .off] : Rw) := by
    unfold pGive pW at h
    simp only [Bool.and_eq_true] at h
    exact of_decide_eq_true (List.all_eq_true.mp h.1.1 x hx)
  cases x <;> first | rfl | exact absurd hw (by decide) | exact absurd hy (by decide)
theorem ok_check_row_kind (T : Txt K mg w) (G_is_word : FnG P w K mg base CX0 1 T.f_is_word T.fd_is_word ["value", "words"] (sp_isword K)) : FnG P w K mg base CX0 2 T.f_check_row_kind T.fd_check_row_kind ["value"] sp_ckind := by
  refine okG T.F_check_row_kind sc_check_row_kind (fun vs H Q E h => ?_) (fun cdv A outer s H vs Q E gd hr h => ?_)
  · obtain ⟨_, rfl, _⟩ := h
    all_goals rfl
  · obtain ⟨k, rfl, hk, q⟩ := h
    refine ⟨_, (pss_one (ps_if (pt_not (pt_val (pc gd G_is_word (hr.mono (by decide)) (by rfl) T.m_is_word T.F_is_word.kp T.b_is_word .nil pass0 (pa_cons (pv 0) (pa_cons (pe_glob (v := .ref T.g_ROW_KINDS) (by rfl) T.m_ROW_KINDS rfl) pa_nil))))) (pss_one ps_never) pss_nil)), ?_⟩
    exact s_when (b := false) (et_not (et_B (ev_is (ev_call (ea_cons (ev_var rfl) (ea_cons ev_c ea_nil)) (show SpV (sp_isword K) [wV k, .ref T.g_ROW_KINDS] H (.bl (decide (k ∈ kindRows))) from fun _ e _ q _ => ⟨k, _, kindRows, rfl, T.s_ROW_KINDS _, q⟩)) (cbl (decide_eq_true hk))))) (fun z => nomatch z) fun _ H1 e1 => q H1 e1
theorem ok_Brow (T : Txt K mg w) (G_check_row_kind : FnG P w K mg base CX0 2 T.f_check_row_kind T.fd_check_row_kind ["value"] sp_ckind) : FnG P w K mg base CX0 3 T.f_Brow T.fd_Brow ["self", "kind"] (sp_Brow K T.C) := by
  refine okG T.F_Brow sc_Brow (fun vs H Q E h => ?_) (fun cdv A outer s H vs Q E gd hr h => ?_)
  · obtain ⟨_, _, _, rfl, _⟩ := h
    all_goals rfl
  · obtain ⟨b, r, p, rfl, hp, ⟨dx, d, pb⟩, q⟩ := h
    refine ⟨_, (pss_cons (ps_expr (pc gd G_check_row_kind (hr.mono (by decide)) (by rfl) T.m_check_row_kind T.F_check_row_kind.kp T.b_check_row_kind .nil pass0 (pa_cons (pv 1) pa_nil))) (pss_one (ps_ret (pe_dget (hu_of hr) (pe_fld (pv 0) rfl) (pv 1) (fun _ _ => rfl))))), ?_⟩
    obtain ⟨k, hk, ek⟩ : ∃ k, k ∈ kindRows ∧ pV p = wV k := by
      simp only [rowPs, List.mem_cons, List.not_mem_nil, or_false] at hp
      rcases hp with rfl | rfl | rfl | rfl
      · exact ⟨.take, by decide, rfl⟩
      · exact ⟨.give, by decide, rfl⟩
      · exact ⟨.move, by decide, rfl⟩
      · exact ⟨.lift, by decide, rfl⟩
    refine q_dropR ⟨_, rfl, k, by rw [ek]; rfl, hk, fun H1 e1 => ?_⟩
    obtain ⟨f, hf, hfv⟩ := pb.di.ex e1
    have e2 : ∃ a, f p = .ref a ∧ RowX K H1 a (rowPt p r) := by
      have h := hfv p (bookKs_mem p)
      simp only [rowPs, List.mem_cons, List.not_mem_nil, or_false] at hp
      rcases hp with rfl | rfl | rfl | rfl <;> exact h
    obtain ⟨a, ha, rx⟩ := e2
    exact s_ret (ev_is (ev_getK (ev_fld (ev_var (v := .ref b) rfl) (e1 _ _ pb.ob) T.c_Book T.n_parts (bf_parts d)) (ev_var rfl) hf (bookKs_mem p)) ha) fun H2 e2 => q H2 a (e1.trans e2) (rx.ex e2)
theorem ok_take_course (T : Txt K mg w) (G_Cinit : FnG P w K mg base CX0 1 T.f_Cinit T.fd_Cinit ["self", "kind", "words", "group", "old", "leaves_out"] (sp_Cinit T.C_Course)) (G_Brow : FnG P w K mg base CX0 3 T.f_Brow T.fd_Brow ["self", "kind"] (sp_Brow K T.C)) : FnG P w K mg base CX0 4 T.f_take_course T.fd_take_course ["book", "group"] (sp_tcourse K T.C T.C_Course) := by
  refine okG T.F_take_course sc_take_course (fun vs H Q E h => ?_) (fun cdv A outer s H vs Q E gd hr h => ?_)
  · obtain ⟨_, _, _, rfl, _⟩ := h
    all_goals rfl
  · obtain ⟨b, r, g, rfl, hb, q⟩ := h
    refine ⟨_, (pss_one (ps_ret (pk gd T.mk_Course G_Cinit (hr.mono (by decide)) (by rfl) T.m_Course T.b1_Cinit T.v1_Cinit pass0 (pa_cons pe_str (pa_cons (pm gd (pv 0) T.c_Book T.M_Brow G_Brow (hr.mono (by decide)) T.b_Brow .nil pass0 (pa_cons pe_str pa_nil)) (pa_cons (pv 1) pa_nil)))))), ?_⟩
    obtain ⟨dx, d, pb⟩ := id hb
    refine s_retR (tmake_raw (cons_raw (ev_c (v := .str Pt.take.s)) fun H1 e1 => cons_rw (meth_raw (ev_var (v := .ref b) rfl) fun H2 e2 => ⟨dx, bf d, (e1.trans e2) _ _ pb.ob, bf_no d (by decide +kernel), cons1_raw (ev_raw (ev_lp (p := .take) rfl) fun H3 e3 => ⟨b, r, .take, rfl, by decide, hb.ex ((e1.trans e2).trans e3), fun H4 a e4 ra => ?_⟩)⟩)))
    refine cons1_raw (ev_raw (ev_var (v := nV g) rfl) fun H5 e5 => fun x dy hx hdy nd => ⟨H5, x, dy, .str Pt.take.s, .ref a, nV g, .non, rfl, (Ex.new hdy).trans (Ex.new (by rw [upd_ne nd.symm]; exact hx)), hx, upd_same, fun H6 e6 hc => ⟨rfl, ?_⟩⟩)
    have x5 := ((e1.trans e2).trans (e3.trans e4)).trans e5
    exact q H6 x a (x5.trans e6) hc ((ra.ex e5).ex e6)
theorem ok_give_course (T : Txt K mg w) (G_Cinit : FnG P w K mg base CX0 1 T.f_Cinit T.fd_Cinit ["self", "kind", "words", "group", "old", "leaves_out"] (sp_Cinit T.C_Course)) (G_Brow : FnG P w K mg base CX0 3 T.f_Brow T.fd_Brow ["self", "kind"] (sp_Brow K T.C)) : FnG P w K mg base CX0 4 T.f_give_course T.fd_give_course ["book", "old"] (sp_gcourse K T.C T.C_Course) := by
  refine okGD T.F_give_course sc_give_course (fun vs H Q E h => ?_) (fun cdv A outer s H vs Q E gd hr h => ?_)
  · obtain ⟨_, _, _, rfl, _⟩ := h
    all_goals rfl
  · obtain ⟨b, r, g, rfl, hb, q⟩ := h
    refine ⟨_, (pss_one (ps_ret (pk gd T.mk_Course G_Cinit (hr.mono (by decide)) (by rfl) T.m_Course T.b2_Cinit T.v2_Cinit pass0 (pa_cons pe_str (pa_cons (pm gd (pv 0) T.c_Book T.M_Brow G_Brow (hr.mono (by decide)) T.b_Brow .nil pass0 (pa_cons pe_str pa_nil)) (pa_cons pe_non (pa_cons (pv 1) pa_nil))))))), ?_⟩
    obtain ⟨dx, d, pb⟩ := id hb
    refine s_retR (tmake_raw (cons_raw (ev_c (v := .str Pt.give.s)) fun H1 e1 => cons_rw (meth_raw (ev_var (v := .ref b) rfl) fun H2 e2 => ⟨dx, bf d, (e1.trans e2) _ _ pb.ob, bf_no d (by decide +kernel), cons1_raw (ev_raw (ev_lp (p := .give) rfl) fun H3 e3 => ⟨b, r, .give, rfl, by decide, hb.ex ((e1.trans e2).trans e3), fun H4 a e4 ra => ?_⟩)⟩)))
    refine cons_raw ev_c fun H7 e7 => cons1_raw (ev_raw (ev_var (v := nV g) rfl) fun H5 e5 => fun x dy hx hdy nd => ⟨H5, x, dy, .str Pt.give.s, .ref a, .non, nV g, rfl, (Ex.new hdy).trans (Ex.new (by rw [upd_ne nd.symm]; exact hx)), hx, upd_same, fun H6 e6 hc => ⟨rfl, ?_⟩⟩)
    have x5 := ((e1.trans e2).trans (e3.trans e4)).trans (e7.trans e5)
    exact q H6 x a (x5.trans e6) hc ((ra.ex (e7.trans e5)).ex e6)
theorem ok_plan (T : Txt K mg w) (G_Csingle_deeds : FnG P w K mg base CX0 6 T.f_Csingle_deeds T.fd_Csingle_deeds ["self", "tree", "words"] (sp_Csingle K T.C_Course T.C_Tree)) : FnG P w K mg base CX0 7 T.f_plan T.fd_plan ["course", "tree"] (sp_plan K T.C_Course T.C_Tree) := by
  refine okG T.F_plan sc_plan (fun vs H Q E h => ?_) (fun cdv A outer s H vs Q E gd hr h => ?_)
  · obtain ⟨_, _, _, _, _, _, _, _, rfl, _⟩ := h
    all_goals rfl
  · obtain ⟨c, t, a, kd, g, st, us, ps, rfl, hc, ht, gd1, hl, hg, ra, h6, hx, q⟩ := h
    refine ⟨_, (pss_one (ps_ret (pm gd (pv 0) T.c_Course T.M_Csingle_deeds G_Csingle_deeds (hr.mono (by decide)) T.b_Csingle_deeds .nil pass0 (pa_cons (pv 1) (pa_cons (pe_fld (pv 0) rfl) pa_nil))))), ?_⟩
    obtain ⟨dx, hcc⟩ := id hc
    refine s_retR (meth_raw (ev_var (v := .ref c) rfl) fun H1 e1 => ⟨dx, _, e1 _ _ hcc, cf_no (by decide +kernel), ?_⟩)
    exact (ea_cons (ev_var (v := .ref t) rfl) (ea_cons (ev_fld (ev_var (v := .ref c) rfl) (e1 _ _ hcc) T.c_Course T.nwords cf_words) ea_nil) : EvA _ _ _ [.ref t, .ref a]) H1 (Ex.refl H1) _ fun H2 e2 => ⟨c, t, a, kd, _, g, st, us, ps, rfl, hc.ex (e1.trans e2), ht.ex (e1.trans e2), gd1, hl, hg, ra.ex (e1.trans e2), h6, hx, fun H3 p ys hp e3 h3 r3 => q H3 p ys (fresh_back (e1.trans e2) hp) ((e1.trans e2).trans e3) h3 r3⟩
theorem ok_take_plan (T : Txt K mg w) (G_check_group : FnG P w K mg base CX0 3 T.f_check_group T.fd_check_group ["tree", "value"] (MyT.sp_check_group T.C_Tree)) (G_plan : FnG P w K mg base CX0 7 T.f_plan T.fd_plan ["course", "tree"] (sp_plan K T.C_Course T.C_Tree)) (G_take_course : FnG P w K mg base CX0 4 T.f_take_course T.fd_take_course ["book", "group"] (sp_tcourse K T.C T.C_Course)) : FnG P w K mg base CX0 8 T.f_take_plan T.fd_take_plan ["book", "tree", "group"] (sp_tplan K T.C T.C_Tree) := by
  refine okG T.F_take_plan sc_take_plan (fun vs H Q E h => ?_) (fun cdv A outer s H vs Q E gd hr h => ?_)
  · obtain ⟨_, _, _, _, _, _, rfl, _⟩ := h
    all_goals rfl
  · obtain ⟨b, t, r, g, st, ps, rfl, hb, ht, gd1, hl, hg, q⟩ := h
    refine ⟨_, (pss_cons (ps_expr (pc gd G_check_group (hr.mono (by decide)) (by rfl) T.m_check_group T.F_check_group.kp T.b_check_group .nil pass0 (pa_cons (pv 1) (pa_cons (pv 2) pa_nil)))) (pss_one (ps_ret (pc gd G_plan (hr.mono (by decide)) (by rfl) T.m_plan T.F_plan.kp T.b_plan .nil pass0 (pa_cons (pc gd G_take_course (hr.mono (by decide)) (by rfl) T.m_take_course T.F_take_course.kp T.b_take_course .nil pass0 (pa_cons (pv 0) (pa_cons (pv 2) pa_nil))) (pa_cons (pv 1) pa_nil)))))), ?_⟩
    obtain ⟨dx, d, pb⟩ := id hb
    refine q_dropR ((ea_cons (ev_var (v := .ref t) rfl) (ea_cons (ev_var (v := nV g) rfl) ea_nil) : EvA _ _ _ [.ref t, nV g]) H (Ex.refl H) _ fun H1 e1 => ⟨t, ps, st, g, rfl, ht.ex e1, hl, hg, fun H2 e2 => ?_⟩)
    have e12 := e1.trans e2
    refine s_retR (cons_rw (te := tCall (sp_tcourse K T.C T.C_Course) [] E0 (tCons (tVar 0) (tCons (tVar 2) tNil))) ((ea_cons (ev_var (v := .ref b) rfl) (ea_cons (ev_var (v := nV g) rfl) ea_nil) : EvA _ _ _ [.ref b, nV g]) H2 (Ex.refl H2) _ fun H3 e3 => ⟨b, r, g, rfl, hb.ex (e12.trans e3), fun H4 c a e4 hc ra => ?_⟩))
    have e14 := e12.trans (e3.trans e4)
    exact cons1_raw (ev_raw (ev_var (v := .ref t) rfl) fun H5 e5 => ⟨c, t, a, true, g, st, r.take, ps, rfl, hc.ex e5, ht.ex (e14.trans e5), gd1, hl, hg, ra.ex e5, pb.ok.t.1.ln, take_words pb.ok.t.2.1, fun H6 p ys hp e6 h6 r6 => q H6 p ys (fresh_back (e14.trans e5) hp) ((e14.trans e5).trans e6) h6 r6⟩)
theorem ok_give_plan (T : Txt K mg w) (G_check_group : FnG P w K mg base CX0 3 T.f_check_group T.fd_check_group ["tree", "value"] (MyT.sp_check_group T.C_Tree)) (G_plan : FnG P w K mg base CX0 7 T.f_plan T.fd_plan ["course", "tree"] (sp_plan K T.C_Course T.C_Tree)) (G_give_course : FnG P w K mg base CX0 4 T.f_give_course T.fd_give_course ["book", "old"] (sp_gcourse K T.C T.C_Course)) : FnG P w K mg base CX0 8 T.f_give_plan T.fd_give_plan ["book", "tree", "home"] (sp_gplan K T.C T.C_Tree) := by
  refine okG T.F_give_plan sc_give_plan (fun vs H Q E h => ?_) (fun cdv A outer s H vs Q E gd hr h => ?_)
  · obtain ⟨_, _, _, _, _, _, rfl, _⟩ := h
    all_goals rfl
  · obtain ⟨b, t, r, g, st, ps, rfl, hb, ht, gd1, hl, hg, q⟩ := h
    refine ⟨_, (pss_cons (ps_expr (pc gd G_check_group (hr.mono (by decide)) (by rfl) T.m_check_group T.F_check_group.kp T.b_check_group .nil pass0 (pa_cons (pv 1) (pa_cons (pv 2) pa_nil)))) (pss_one (ps_ret (pc gd G_plan (hr.mono (by decide)) (by rfl) T.m_plan T.F_plan.kp T.b_plan .nil pass0 (pa_cons (pc gd G_give_course (hr.mono (by decide)) (by rfl) T.m_give_course T.F_give_course.kp T.b1_give_course T.v1_give_course pass0 (pa_cons (pv 0) (pa_cons (pv 2) pa_nil))) (pa_cons (pv 1) pa_nil)))))), ?_⟩
    obtain ⟨dx, d, pb⟩ := id hb
    refine q_dropR ((ea_cons (ev_var (v := .ref t) rfl) (ea_cons (ev_var (v := nV g) rfl) ea_nil) : EvA _ _ _ [.ref t, nV g]) H (Ex.refl H) _ fun H1 e1 => ⟨t, ps, st, g, rfl, ht.ex e1, hl, hg, fun H2 e2 => ?_⟩)
    have e12 := e1.trans e2
    refine s_retR (cons_rw (te := tCall (sp_gcourse K T.C T.C_Course) [] E0 (tCons (tVar 0) (tCons (tVar 2) tNil))) ((ea_cons (ev_var (v := .ref b) rfl) (ea_cons (ev_var (v := nV g) rfl) ea_nil) : EvA _ _ _ [.ref b, nV g]) H2 (Ex.refl H2) _ fun H3 e3 => ⟨b, r, g, rfl, hb.ex (e12.trans e3), fun H4 c a e4 hc ra => ?_⟩))
    have e14 := e12.trans (e3.trans e4)
    exact cons1_raw (ev_raw (ev_var (v := .ref t) rfl) fun H5 e5 => ⟨c, t, a, false, g, st, r.give, ps, rfl, hc.ex e5, ht.ex (e14.trans e5), gd1, hl, hg, ra.ex e5, pb.ok.g.1.ln, give_words pb.ok.g.2, fun H6 p ys hp e6 h6 r6 => q H6 p ys (fresh_back (e14.trans e5) hp) ((e14.trans e5).trans e6) h6 r6⟩)
end
end My
namespace My
open PySem PySem.Spec PyProof.Rows L2 GL Evl StX SkE
/-! ### the law's own plans -/
def sp_Ldue (K : PySem.W.Frag) : Sp := fun vs H Q _ => ∃ a b g us, ∃ ps : List Nat, vs = [.ref a, .ref b] ∧ RowX K H a us ∧ us.length ≤ 6 ∧ SqL K H b ((path ps g).map nV) ∧ Good ps ∧ ps.length ≤ 199 ∧ g ≤ ps.length ∧ ∀ H' p ys, H p = none → Ex H H' → H' p = some (.lst ys) → PrsAt H' ys (deedsOf ps g us) → Q (.ref p) H'
section
variable {P : Program} {w : World} {K : PySem.W.Frag} {mg : Str → Option Value} {base : Heap} {C : Addr} {H H' H0 H1 : Hp} {σ : L2.St} {te tb ta tc : TE} {tt : TT} {tA : TA} {E Er : XK} {D : Ends} {tz : TS} {a b d : Addr} {us : Rw} {xs ys : List V} {rs qs : List Rw} {ks : List Pt} {r l : Ru} {p : Pt} {v : V} {Q : VK}
theorem seq_raw {tu : TS} (h : tu { D with nx := tz D } σ H) : tSeq tu tz D σ H := h
theorem ok_Ldeeds_due (T : Txt K mg w)  : FnG P w K mg base CX0 1 T.f_Ldeeds_due T.fd_Ldeeds_due ["_law_words", "_law_path_here"] (sp_Ldue K) := by
  refine okG T.F_Ldeeds_due sc_Ldeeds_due (fun vs H Q E h => ?_) (fun cdv A outer s H vs Q E gd hr h => ?_)
  · obtain ⟨_, _, _, _, _, rfl, _⟩ := h
    all_goals rfl
  · obtain ⟨a, b, g, us, ps, rfl, ra, h6, hb', gd1, hl, hg, q⟩ := h
    refine ⟨_, (pss_cons (ps_set (i := 2) sc_Ldeeds_due.nd rfl (Or.inl rfl) (pe_lst pa_nil)) (pss_cons (ps_for PassesOwn.never rfl (pi_tup (pv 0)) (pg_name (i := 3) sc_Ldeeds_due.nd rfl (Or.inr rfl) (Or.inl rfl)) (pss_one (ps_if (pt_cmpR op_in_seq (pv 3) (pe_tupX (pa_cons pe_str (pa_cons pe_str (pa_cons pe_str (pa_cons pe_str pa_nil))))) (by rfl)) (pss_one (ps_expr (pe_bm PySem.F.plainAttrs_list PySem.F.slot_list_extend PySem.F.type_list_extend mt_extend (pv 2) (pa_cons (pe_lc (own := [("_law_near", 4)]) (g := gName 4) rfl sc_Ldeeds_due.nd (pi_list (pv 1)) (blkOk_by (N := N_Ldeeds_due) (sc := defScope s_Ldeeds_due) (by decide +kernel)) (fun _ _ _ _ _ => (pg_name (i := 4) sc_Ldeeds_due.nd rfl (Or.inl rfl) (Or.inr rfl))) (fun _ _ _ _ _ => pts_nil) (fun _ _ _ _ _ => (pe_tupX (pa_cons (pv 3) (pa_cons (pv 4) pa_nil))))) pa_nil)))) (pss_one (ps_expr (pe_bm PySem.F.plainAttrs_list PySem.F.slot_list_append PySem.F.type_list_append mt_append (pv 2) (pa_cons (pe_tupX (pa_cons (pv 3) (pa_cons pe_non pa_nil))) pa_nil))))))) (pss_one (ps_ret (pv 2))))), ?_⟩
    refine q_asgL (el_lst ea_nil (Nat.zero_le _)) fun f H1 hf e1 h1 => ?_
    have bound : ∀ k, (deedsOf ps g (us.take k)).length ≤ 6000 := fun k => by
      have l1 := deeds_len gd1 hl hg (us.take k)
      rw [List.length_take] at l1
      have l3 := Nat.mul_le_mul_right 1000 (show min k us.length ≤ 6 by omega)
      omega
    refine seq_raw (show iTup K (tVar 0) _ H1 _ from it_raw (ev_raw (ev_var (v := .ref a) rfl) fun H2 e2 => ⟨a, rfl, ⟨_, (ra.ex (e1.trans e2)).sq⟩, ?_⟩))
    refine for_it (walk_tup (K := K) (a := a) (xs := us.map wV)) (fun k σ' G => ∃ x3 x4 ys, σ' = [some (.ref a), some (.ref b), some (.ref f), x3, x4] ∧ Ex H G ∧ G f = some (.lst ys) ∧ PrsAt G ys (deedsOf ps g (us.take k))) ⟨_, _, [], rfl, e1.trans e2, e2 _ _ h1, .nil⟩ (fun k σ' G _ z => ?_) (fun k v σ' G G2 hk z y => ?_) (fun σ' G z => ?_)
    · obtain ⟨_, _, _, _, z, _⟩ := z
      exact (ra.ex z).sq
    · obtain ⟨x3, x4, ys, rfl, z1, z2, z3⟩ := z
      obtain ⟨rfl, hv⟩ := y
      obtain ⟨u, hu, rfl, mu⟩ := w_item hv
      have tk : us.take (k + 1) = us.take k ++ [u] := by
        rw [List.take_add_one, hu]
        rfl
      have dk : deedsOf ps g (us.take (k + 1)) = deedsOf ps g (us.take k) ++ (grpV ps g u).map fun v => (u, v) := by
        unfold deedsOf
        rw [tk, List.flatMap_append]
        congr 1
        show (List.map _ _ ++ []) = _
        rw [List.append_nil]
      have bk := bound (k + 1)
      rw [dk, List.length_append, List.length_map] at bk
      have ly := z3.len
      have wy : EvR K (tTupX (tCons (tC (.str (Str.ofString "look"))) (tCons (tC (.str (Str.ofString "add"))) (tCons (tC (.str (Str.ofString "try"))) (tCons (tC (.str (Str.ofString "off"))) tNil))))) [some (.ref a), some (.ref b), some (.ref f), some (wV u), x4] G2 wayWs := er_row (ea_cons (ev_lit (w0 := .look) rfl) (ea_cons (ev_lit (w0 := .add) rfl) (ea_cons (ev_lit (w0 := .tri) rfl) (ea_cons (ev_lit (w0 := .off) rfl) ea_nil)))) (by decide)
      refine s_if (b := decide (u ∈ wayWs)) (et_test (fun G3 e3 Q2 q2 => op_raw (ev_raw (ev_var (v := wV u) rfl) fun G4 e4 => wy G4 (e3.trans e4) _ fun t G5 e5 ht => (rv_inW (w := u) ht.sq) G5 (Ex.refl G5) Q2 fun G6 e6 => q2 G6 ((e4.trans e5).trans e6)))) (fun hb G3 e3 => ?_) fun hb G3 e3 => ?_
      · have gu : grpV ps g u = (path ps g).map nV := by
          unfold grpV
          rw [if_pos (of_decide_eq_true hb)]
        rw [gu] at dk bk
        rw [List.length_map] at bk
        have z3' := z1.trans e3
        refine dropR ⟨_, rfl, .inl ⟨rfl, _, sq_of (e3 _ _ z2)⟩, cons1_raw (tlc_of (walk_list (K := K) (a := b) (xs := (path ps g).map nV)) (fun R hR => ⟨_, rfl, b, rfl, ⟨_, ex_l z3' hb'⟩, hR⟩) (fun Dl j G => ∃ zs, Ex G3 G ∧ G Dl = some (.lst zs) ∧ PrsAt G zs (((path ps g).take j).map fun n => (u, nV n))) (fun Dl hD => ⟨[], Ex.new hD, upd_same, .nil⟩) (fun Dl j G _ z => ?_) (fun Dl j v G4 G5 hD hj z y => ?_) (fun Dl G hD z => ?_))⟩
        · obtain ⟨_, z, _⟩ := z
          exact ex_l (z3'.trans z) hb'
        · obtain ⟨rfl, hv2⟩ := y
          obtain ⟨zs, f1, f2, f3⟩ := z
          rw [List.getElem?_map] at hv2
          obtain ⟨n, hn, rfl⟩ := Option.map_eq_some_iff.mp hv2
          refine ⟨rfl, yes_raw (tupx_raw ?_)⟩
          refine (ea_cons (ev_var (v := wV u) rfl) (ea_cons (ev_var (v := nV n) rfl) ea_nil) : EvA _ _ _ [wV u, nV n]) G5 (Ex.refl G5) _ fun G8 e8 => ⟨(by show 2 ≤ sizeLine; decide), fun t2 o ht2 bo => ?_⟩
          have hDl8 : (upd G8 t2 (.frz o (.tup [wV u, nV n]))) Dl = some (.lst zs) := (Ex.new ht2) _ _ (e8 _ _ f2)
          have lz := f3.len
          rw [List.length_map, List.length_take] at lz
          refine ⟨zs, hDl8, by rw [sizeLine_eq]; omega, zs ++ [.ref t2], Ex.mut ((f1.trans e8).trans (Ex.new ht2)) hD, upd_same, ?_⟩
          have tj : ((path ps g).take (j + 1)).map (fun n => (u, nV n)) = ((path ps g).take j).map (fun n => (u, nV n)) ++ [(u, nV n)] := by
            rw [List.take_add_one, hn, List.map_append]
            rfl
          rw [tj]
          exact ((f3.ex (e8.trans (Ex.new ht2))).app (.cons upd_same .nil)).exL ExB.set hDl8
        · obtain ⟨zs, f1, f2, f3⟩ := z
          rw [List.length_map, List.take_length] at f3
          have lz := f3.len
          rw [List.length_map] at lz
          have h2' := (e3.trans f1) _ _ z2
          refine ⟨f, Dl, ys, zs, rfl, rfl, h2', f2, by rw [sizeLine_eq]; omega, _, _, ys ++ zs, rfl, Ex.mut (z3'.trans f1) hf, upd_same, ?_⟩
          rw [dk, List.map_map]
          exact ((z3.ex (e3.trans f1)).app f3).exL ExB.set h2'
      · have gu : grpV ps g u = [.non] := by
          unfold grpV
          rw [if_neg (of_decide_eq_false hb)]
        rw [gu] at dk bk
        have z3' := z1.trans e3
        refine dropR ⟨_, rfl, .inl ⟨rfl, _, sq_of (e3 _ _ z2)⟩, cons1_raw (tupx_raw ?_)⟩
        refine (ea_cons (ev_var (v := wV u) rfl) (ea_cons (ev_c (v := .non)) ea_nil) : EvA _ _ _ [wV u, .non]) G3 (Ex.refl G3) _ fun G8 e8 => ⟨(by show 2 ≤ sizeLine; decide), fun t2 o ht2 bo => ?_⟩
        have h8 : (upd G8 t2 (.frz o (.tup [wV u, .non]))) f = some (.lst ys) := (Ex.new ht2) _ _ (e8 _ _ (e3 _ _ z2))
        refine ⟨f, ys, .ref t2, rfl, rfl, h8, by rw [sizeLine_eq]; omega, _, _, ys ++ [.ref t2], rfl, Ex.mut ((z3'.trans e8).trans (Ex.new ht2)) hf, upd_same, ?_⟩
        rw [dk]
        exact (((z3.ex e3).ex (e8.trans (Ex.new ht2))).app (.cons upd_same .nil)).exL ExB.set h8
    · obtain ⟨x3, x4, ys, rfl, z1, z2, z3⟩ := z
      rw [List.length_map, List.take_length] at z3
      dsimp only
      exact s_ret (ev_var rfl) fun G2 e3 => q G2 f ys hf (z1.trans e3) (e3 _ _ z2) (z3.ex e3)
end
end My
namespace My
open PySem PySem.Spec PyProof.Rows L2 GL Evl StX SkE
/-! ### groups that are struck, from the last one down -/
structure StTo (ps st : List Nat) (m : Nat) : Prop where
  nd : st.Nodup
  bd : ∀ g ∈ st, m < g ∧ g ≤ ps.length
  cl : ∀ c, 1 ≤ c → c ≤ ps.length → up ps c ∈ st → c ∈ st
theorem StTo.less {ps st : List Nat} {m : Nat} (h : StTo ps st (m + 1)) : StTo ps st m := ⟨h.nd, fun g hg => ⟨by have := (h.bd g hg).1; omega, (h.bd g hg).2⟩, h.cl⟩
theorem StTo.more {ps st : List Nat} {m : Nat} (h : StTo ps st (m + 1)) (hm : m + 1 ≤ ps.length) (hk : ∀ c, 1 ≤ c → c ≤ ps.length → up ps c = m + 1 → c ∈ st) : StTo ps (st ++ [m + 1]) m := by
  refine ⟨List.nodup_append.mpr ⟨h.nd, by simp, fun x hx y hy e => ?_⟩, fun g hg => ?_, fun c h1 h2 h3 => ?_⟩
  · rw [List.mem_singleton.mp hy] at e
    have := (h.bd x hx).1
    omega
  · rcases List.mem_append.mp hg with hg | hg
    · exact ⟨by have := (h.bd g hg).1; omega, (h.bd g hg).2⟩
    · rw [List.mem_singleton.mp hg]
      exact ⟨by omega, hm⟩
  · rcases List.mem_append.mp h3 with h3 | h3
    · exact List.mem_append_left _ (h.cl c h1 h2 h3)
    · exact List.mem_append_left _ (hk c h1 h2 (List.mem_singleton.mp h3))
theorem StTo.ok {ps st : List Nat} (h : StTo ps st 0) : MyT.StOk ps st := ⟨h.nd, fun g hg => ⟨(h.bd g hg).1, (h.bd g hg).2⟩, h.cl⟩
theorem StTo.len {ps st : List Nat} {m : Nat} (h : StTo ps st m) : st.length ≤ ps.length := (show MyT.StOk ps st from ⟨h.nd, fun g hg => ⟨by have := (h.bd g hg).1; omega, (h.bd g hg).2⟩, h.cl⟩).len
def sp_Lstruck : Sp := fun vs H Q _ => ∃ a u, ∃ ps : List Nat, vs = [.ref a, .ref u] ∧ PotAt H a ∧ H u = some (.lst (MyT.upsV ps)) ∧ Good ps ∧ ps.length ≤ 50 ∧ ∀ H' p (st : List Nat), H p = none → ExB a H H' → PotAt H' a → H' p = some (.lst (st.map nV)) → MyT.StOk ps st → Q (.ref p) H'
section
variable {P : Program} {w : World} {K : PySem.W.Frag} {mg : Str → Option Value} {base : Heap} {C : Addr} {H H' H0 H1 : Hp} {σ : L2.St} {te tb ta tc : TE} {tt : TT} {tA : TA} {E Er : XK} {D : Ends} {tz : TS} {a b d : Addr} {us : Rw} {xs ys : List V} {rs qs : List Rw} {ks : List Pt} {r l : Ru} {p : Pt} {v : V} {Q : VK}
theorem ifAnd_raw {t u : TT} {sa sb : TS} (h : t σ H fun c H1 => if c = true then u σ H1 fun b H2 => if b = true then sa D σ H2 else sb D σ H2 else sb D σ H1) : tIfS (tAnd t u) sa sb D σ H := h
theorem rg3_raw {R : It → Hp → Prop} {i j c : Int} {n : Nat} (h : EvA tA σ H [.int i, .int j, .int c]) (g : RgC i j c n) (k : ∀ H1, Ex H H1 → R (Itc i c n) H1) : iRng3 tA σ H R := h H (Ex.refl H) _ fun H1 e1 => ⟨i, j, c, n, rfl, g, k H1 e1⟩
theorem ok_Lstruck_ones (T : Txt K mg w) (G_Ldraw : FnG P w K mg base CX0 1 T.f_Ldraw T.fd_Ldraw ["_law_pot_here", "_law_sides"] MyT.sp_Ldraw) : FnG P w K mg base CX0 2 T.f_Lstruck_ones T.fd_Lstruck_ones ["_law_pot_here", "_law_ups_here"] sp_Lstruck := by
  refine okG T.F_Lstruck_ones sc_Lstruck_ones (fun vs H Q E h => ?_) (fun cdv A outer s H vs Q E gd hr h => ?_)
  · obtain ⟨_, _, _, rfl, _⟩ := h
    all_goals rfl
  · obtain ⟨a, u, ps, rfl, hp, hu, gd1, hl, q⟩ := h
    refine ⟨_, (pss_cons (ps_set (i := 2) sc_Lstruck_ones.nd rfl (Or.inr rfl) (pe_lst pa_nil)) (pss_cons (ps_for PassesOwn.never rfl (pi_range3 (by rfl) T.z_range (pa_cons (pe_op op_sub (pe_callB call_len_seq (by rfl) T.z_len PySem.boot_len (pa_cons (pv 1) pa_nil)) pe_int) (pa_cons pe_int (pa_cons (pe_un un_neg pe_int) pa_nil)))) (pg_name (i := 3) sc_Lstruck_ones.nd rfl (Or.inr rfl) (Or.inl rfl)) (pss_cons (ps_setLc (i := 4) (own := [("_law_near", 5), ("_law_up", 6)]) (g := gTup K 2 (gCons (gName 5) (gCons (gName 6) gNil))) rfl sc_Lstruck_ones.nd rfl rfl (sw_true rfl rfl rfl (by decide +kernel)) (pi_enum (by rfl) T.z_enumerate (pa_cons (pv 1) pa_nil)) (blkOk_by (N := N_Lstruck_ones) (sc := defScope s_Lstruck_ones) (by decide +kernel)) (fun _ _ _ _ _ => (pg_tup rfl (pgs_cons (pg_name (i := 5) sc_Lstruck_ones.nd rfl (Or.inl rfl) (Or.inr rfl)) (pgs_cons (pg_name (i := 6) sc_Lstruck_ones.nd rfl (Or.inl rfl) (Or.inr rfl)) pgs_nil)))) (fun _ _ _ _ _ => pts_one (pt_cmpR op_eq (pv 6) (pv 3) (nomark _))) (fun _ _ _ _ _ => (pv 5))) (pss_one (ps_if ((pw_and (pt_cmpR op_eq (pc gd G_Ldraw (hr.mono (by decide)) (by rfl) T.m_Ldraw T.F_Ldraw.kp T.b_Ldraw .nil pass0 (pa_cons (pv 0) (pa_cons pe_int pa_nil))) pe_int (nomark _)) (pw_and1 (pt_val (pe_callB (cr_all rfl) (by rfl) T.z_all boot_all (pa_cons (pe_lc (own := [("_law_near", 5)]) (g := gName 5) rfl sc_Lstruck_ones.nd (pi_list (pv 4)) (blkOk_by (N := N_Lstruck_ones) (sc := defScope s_Lstruck_ones) (by decide +kernel)) (fun _ _ _ _ _ => (pg_name (i := 5) sc_Lstruck_ones.nd rfl (Or.inl rfl) (Or.inr rfl))) (fun _ _ _ _ _ => pts_nil) (fun _ _ _ _ _ => (pe_cmpR (show OpR _ (compareOp .In) (rIn K false) from op_in_seq) (pv 5) (pv 2) (by rfl)))) pa_nil)))))).pt (pss_one (ps_expr (pe_bm PySem.F.plainAttrs_list PySem.F.slot_list_append PySem.F.type_list_append mt_append (pv 2) (pa_cons (pv 3) pa_nil)))) pss_nil)))) (pss_one (ps_ret (pv 2))))), ?_⟩
    have nua : u ≠ a := by
      obtain ⟨x, y, hx, _⟩ := id hp
      intro e
      rw [e, hx] at hu
      exact nomatch (List.cons.inj (HO.lst.inj (Option.some.inj hu))).1
    refine q_asgL (el_lst ea_nil (Nat.zero_le _)) fun f H1 hf e1 h1 => ?_
    have nfa : f ≠ a := hp.ne hf
    have hu1 := e1 _ _ hu
    refine seq_raw (show iRng3 _ _ H1 _ from rg3_raw (i := (ps.length : Int)) (j := 0) (c := -1) (n := ps.length) (ea_cons (ev_is (ev_op (ev_len (ev_var rfl) (sq_of hu1)) ev_c rv_I0) (by show V.int _ = V.int _; rw [MyT.upsV_len]; congr 1; omega)) (ea_cons ev_c (ea_cons (ev_un ev_c ru_neg) ea_nil))) (by
      have := RgC.neg (i := (ps.length : Int)) (j := 0) (by omega) (by omega) (by omega) (by omega)
      rw [show ((ps.length : Int) - 0).toNat = ps.length by omega] at this
      exact this) fun H2 e2 => ?_)
    refine for_it walk_rangeC (fun k σ' G => ∃ x3 x4 x5 x6, ∃ st : List Nat, σ' = [some (.ref a), some (.ref u), some (.ref f), x3, x4, x5, x6] ∧ ExB a H G ∧ PotAt G a ∧ G f = some (.lst (st.map nV)) ∧ StTo ps st (ps.length - k)) ⟨_, _, _, _, [], rfl, ExB.of (e1.trans e2), hp.ex (e1.trans e2), e2 _ _ h1, List.nodup_nil, fun _ h => absurd h List.not_mem_nil, fun _ _ _ h => absurd h List.not_mem_nil⟩ (fun k σ' G _ z => trivial) (fun k v σ' G G2 hk z y => ?_) (fun σ' G z => ?_)
    · obtain ⟨rfl, yv⟩ := y
      obtain ⟨x3, x4, x5, x6, st, rfl, z1, z2, z3, z4⟩ := z
      have hm : ∃ m, ps.length - k = m + 1 ∧ ps.length - (k + 1) = m := ⟨ps.length - k - 1, by omega, by omega⟩
      obtain ⟨m, hm1, hm2⟩ := hm
      rw [hm1] at z4
      have vm : (.int ((ps.length : Int) + (k : Nat) * (-1)) : V) = nV (m + 1) := by
        show V.int _ = V.int _
        congr 1
        omega
      obtain rfl := yv.trans vm
      have hu2 := z1 _ _ nua hu
      have hm3 : m + 1 ≤ ps.length := by omega
      refine q_asgL (el_is (MyT.el_lcE (K := K) (a := u) (xs := MyT.upsV ps) (fun c => decide ((MyT.upsV ps)[c]? = some (nV (m + 1)))) nV (ea_cons (ev_var rfl) ea_nil) hu2 (by rw [MyT.upsV_len]; omega) (fun _ _ => rfl) (fun n x H3 e3 hx => ?_) (fun n x H3 e3 hx _ => ev_var rfl)) (show _ = (MyT.kids ps (m + 1)).map nV from ?_)) fun b G3 hb e3 h3 => ?_
      · have hn : n ≤ ps.length := by
          have := (List.getElem?_eq_some_iff.mp hx).1
          rw [MyT.upsV_len] at this
          omega
        have sc : scal x (nV (m + 1)) = true := by
          by_cases e : n = 0
          · subst e
            rw [show x = V.non from (Option.some.inj hx).symm]
            rfl
          · rw [MyT.ups_at (by omega) hn] at hx
            rw [← Option.some.inj hx]
            rfl
        refine et_is (et_test (ev_op (ev_var rfl) (ev_var rfl) (rv_eq sc))) ?_
        rw [hx]
        exact decide_eq_decide.mpr ⟨fun z => congrArg some z, fun z => Option.some.inj z⟩
      · rw [MyT.upsV_len]
        rfl
      · have z1' : ExB a H G3 := z1.trans (ExB.of e3)
        have z2' := z2.ex e3
        have z3' := e3 _ _ z3
        have stop : ∀ {G5 : Hp} {x4 x5 x6 : Option V}, ExB a H G5 → PotAt G5 a → G5 f = some (.lst (st.map nV)) → ∃ x3 x4' x5' x6', ∃ st' : List Nat, [some (.ref a), some (.ref u), some (.ref f), some (nV (m + 1)), x4, x5, x6] = [some (.ref a), some (.ref u), some (.ref f), x3, x4', x5', x6'] ∧ ExB a H G5 ∧ PotAt G5 a ∧ G5 f = some (.lst (st'.map nV)) ∧ StTo ps st' (ps.length - (k + 1)) := fun w1 w2 w3 => ⟨_, _, _, _, st, rfl, w1, w2, w3, by rw [hm2]; exact z4.less⟩
        refine ifAnd_raw (test_raw (draw0 z2' rfl fun G4 bb x4' p4 => ⟨bb, rfl, ?_⟩))
        have z14 := z1'.trans x4'
        have z34 := x4' _ _ nfa z3'
        have hb4 : G4 b = some (.lst ((MyT.kids ps (m + 1)).map nV)) := x4' _ _ (z2.ne hb) h3
        cases bb with
        | false => exact nx_raw (stop z14 p4 z34)
        | true =>
          rw [if_pos rfl]
          have lk : (MyT.kids ps (m + 1)).length ≤ 51 := by
            have := List.length_filter_le (fun c => decide ((MyT.upsV ps)[c]? = some (nV (m + 1)))) (List.range (ps.length + 1))
            rw [List.length_range] at this
            show ((List.range (ps.length + 1)).filter fun c => decide ((MyT.upsV ps)[c]? = some (nV (m + 1)))).length ≤ 51
            omega
          refine (et_B (ev_is (ev_allB (bs := (MyT.kids ps (m + 1)).map fun x => decide (x ∈ st)) (el_is (el_lcL (a := b) (xs := (MyT.kids ps (m + 1)).map nV) (fun _ => true) (fun j => .bl (decide ((MyT.kids ps (m + 1)).getD j 0 ∈ st))) (ev_var rfl) (sq_of hb4) (by rw [List.length_map]; omega) (fun _ => rfl) (fun j x H7 e7 hx => et_yes) (fun j x H7 e7 hx _ => ?_)) (by rw [MyT.given_map (f := fun x => V.bl (decide (x ∈ st))), List.map_map]; rfl))) (by rw [List.all_map]; rfl)) : EvT _ _ _ ((MyT.kids ps (m + 1)).all fun x => decide (x ∈ st))) G4 (Ex.refl G4) _ fun G5 e5 => ?_
          · obtain ⟨hn, rfl⟩ := MyT.nat_item hx
            exact ev_is (ev_op (ev_var rfl) (ev_var rfl) (rv_isL (sq_of (e7 _ _ z34)) rfl (MyT.flat_nat _))) (congrArg V.bl (MyT.inV_nat _ _))
          · have z15 := z14.trans (ExB.of e5)
            have z35 := e5 _ _ z34
            have p5 := p4.ex e5
            cases ha : (MyT.kids ps (m + 1)).all fun x => decide (x ∈ st) with
            | false => exact nx_raw (stop z15 p5 z35)
            | true =>
              rw [if_pos rfl]
              have ls := z4.len
              refine s_app z35 (ev_var rfl) (ev_var rfl) (by rw [List.length_map]; omega) fun G6 e6 => ⟨_, _, _, _, st ++ [m + 1], rfl, (z15.trans (ExB.of e6)).mut hf, (p5.ex e6).exB ExB.set nfa.symm, ?_, ?_⟩
              · rw [upd_same, List.map_append]
                rfl
              · rw [hm2]
                refine z4.more hm3 fun c c1 c2 c3 => ?_
                have hc := MyT.mem_kids c1 c2
                rw [c3] at hc
                exact of_decide_eq_true (List.all_eq_true.mp ha c hc)
    · obtain ⟨x3, x4, x5, x6, st, rfl, z1, z2, z3, z4⟩ := z
      rw [Nat.sub_self] at z4
      dsimp only
      exact s_ret (ev_var rfl) fun G2 e3 => q G2 f st hf (z1.trans (ExB.of e3)) (z2.ex e3) (e3 _ _ z3) z4.ok
end
end My
namespace My
open PySem PySem.Spec PyProof.Rows L2 GL Evl StX SkE
/-! ### plans as data -/
def dPr (x : Wd × V) : PyData := .tuple [dW x.1, fd x.2]
def dPl (ds : List (Wd × V)) : PyData := .list (ds.map dPr)
theorem PrsAt.dp {K : PySem.W.Frag} {H : Hp} {ys : List V} {ds : List (Wd × V)} (h : PrsAt H ys ds) (hf : ∀ d ∈ ds, flatV d.2 = true) : DpAll K H ys (ds.map dPr) := by
  induction h with
  | nil => exact .nil
  | @cons a o x v ys ds h _ ih => exact .cons (.tup (.inl (.inr ⟨_, h⟩)) (.cons (.str x.s) (.cons (fd_dp (hf _ List.mem_cons_self)) .nil))) (ih fun d hd => hf d (List.mem_cons_of_mem _ hd))
theorem shrt_non : Shrt .non := by
  refine ⟨rfl, ?_, ?_, ?_, ?_⟩
  · show PyData.none.showable = true
    simp only [PyData.showable]
  · show PyData.none.hasDict = false
    simp only [PyData.hasDict]
  · show PyData.none.depth ≤ 0
    simp only [PyData.depth]
    omega
  · show PyData.none.shown.length ≤ 40
    decide +kernel
theorem sm_pr {x : Wd × V} (h : Shrt x.2) : Sm (dPr x) 1 87 := by
  have ha : ∀ d ∈ [dW x.1, fd x.2], Sm d 0 40 := fun d hd => by
    rcases List.mem_cons.mp hd with rfl | hd
    · refine ⟨?_, ?_, ?_, Nat.le_trans (w_text _) (by omega)⟩
      · show (PyData.str x.1.s).showable = true
        simp only [PyData.showable]
      · show (PyData.str x.1.s).hasDict = false
        simp only [PyData.hasDict]
      · show (PyData.str x.1.s).depth ≤ 0
        simp only [PyData.depth]
        omega
    · rw [List.mem_singleton.mp hd]
      exact h.sm
  refine ⟨?_, ?_, ?_, ?_⟩
  · show (PyData.tuple [dW x.1, fd x.2]).showable = true
    simp only [PyData.showable]
    exact showableAll_of fun d hd => (ha d hd).sh
  · show (PyData.tuple [dW x.1, fd x.2]).hasDict = false
    simp only [PyData.hasDict]
    exact hasDictAll_of fun d hd => (ha d hd).nd
  · show (PyData.tuple [dW x.1, fd x.2]).depth ≤ 1
    simp only [PyData.depth]
    have := depthAll_of (ds := [dW x.1, fd x.2]) (k := 0) fun d hd => (ha d hd).de
    omega
  · show (PyData.tuple [dW x.1, fd x.2]).shown.length ≤ 87
    simp only [PyData.shown]
    have := tuple_text_len (B := 40) (ts := PyData.shownAll [dW x.1, fd x.2]) fun t ht => by
      obtain ⟨d, hd, rfl⟩ := shownAll_mem ht
      exact (ha d hd).ln
    rw [shownAll_len] at this
    exact this
theorem sm_pl {ds : List (Wd × V)} (h : ∀ d ∈ ds, Shrt d.2) (hl : ds.length ≤ 6000) : Sm (dPl ds) 2 534002 := by
  have q := sm_list (ds := ds.map dPr) (k := 1) (B := 87) fun d hd => by
    obtain ⟨x, hx, rfl⟩ := List.mem_map.mp hd
    exact sm_pr (h x hx)
  rw [List.length_map] at q
  exact q.mono (Nat.le_refl _) (by omega)
theorem deeds_shrt {ps : List Nat} {g : Nat} (h : Good ps) (hl : ps.length ≤ 199) (hg : g ≤ ps.length) {us : Rw} : ∀ d ∈ deedsOf ps g us, Shrt d.2 := fun d hd => by
  obtain ⟨u, _, hd⟩ := List.mem_flatMap.mp hd
  obtain ⟨v, hv, rfl⟩ := List.mem_map.mp hd
  unfold grpV at hv
  split at hv
  · obtain ⟨n, hn, rfl⟩ := List.mem_map.mp hv
    exact shrt_nat (by have := path_le h hg hn; omega)
  · rw [List.mem_singleton.mp hv]
    exact shrt_non
/-- two lists of plans -/
def dTwo (ds es : List (Wd × V)) : PyData := .list [dPl ds, dPl es]
theorem sm_two {ds es : List (Wd × V)} (h1 : ∀ d ∈ ds, Shrt d.2) (h2 : ∀ d ∈ es, Shrt d.2) (l1 : ds.length ≤ 6000) (l2 : es.length ≤ 6000) : Sm (dTwo ds es) 3 1100000 := by
  have q := sm_list (ds := [dPl ds, dPl es]) (k := 2) (B := 534002) fun d hd => by
    rcases List.mem_cons.mp hd with rfl | hd
    · exact sm_pl h1 l1
    · rw [List.mem_singleton.mp hd]
      exact sm_pl h2 l2
  exact q.mono (Nat.le_refl _) (by show 2 * (534002 + 2) + 2 ≤ 1100000; omega)
/-- at p a list of two lists of deeds -/
structure TwoAt (H : Hp) (p p1 p2 : Addr) (ds es : List (Wd × V)) : Prop where
  n1 : p ≠ p1
  n2 : p ≠ p2
  n12 : p1 ≠ p2
  pp : H p = some (.lst [.ref p1, .ref p2])
  a1 : ∃ ys, H p1 = some (.lst ys) ∧ PrsAt H ys ds
  a2 : ∃ ys, H p2 = some (.lst ys) ∧ PrsAt H ys es
theorem TwoAt.ex {H H' : Hp} {p p1 p2 : Addr} {ds es : List (Wd × V)} (h : TwoAt H p p1 p2 ds es) (e : Ex H H') : TwoAt H' p p1 p2 ds es := by
  obtain ⟨n1, n2, n12, pp, ⟨ys, a1, b1⟩, ⟨zs, a2, b2⟩⟩ := h
  exact ⟨n1, n2, n12, e _ _ pp, ⟨ys, e _ _ a1, b1.ex e⟩, ⟨zs, e _ _ a2, b2.ex e⟩⟩
theorem TwoAt.dp {K : PySem.W.Frag} {H : Hp} {p p1 p2 : Addr} {ds es : List (Wd × V)} (h : TwoAt H p p1 p2 ds es) (h1 : ∀ d ∈ ds, Shrt d.2) (h2 : ∀ d ∈ es, Shrt d.2) : Dp K H (.ref p) (dTwo ds es) := by
  obtain ⟨n1, n2, n12, pp, ⟨ys, a1, b1⟩, ⟨zs, a2, b2⟩⟩ := h
  exact .lst (sq_of pp) (.cons (.lst (sq_of a1) (b1.dp fun d hd => (h1 d hd).1)) (.cons (.lst (sq_of a2) (b2.dp fun d hd => (h2 d hd).1)) .nil))
/-- evaluates to a new list of deeds -/
def EvPs (te : TE) (σ : L2.St) (H : Hp) (ds : List (Wd × V)) : Prop := ∀ H1, Ex H H1 → ∀ Q : VK, (∀ H2 p ys, H1 p = none → Ex H1 H2 → H2 p = some (.lst ys) → PrsAt H2 ys ds → Q (.ref p) H2) → te σ H1 Q
section
variable {P : Program} {w : World} {K : PySem.W.Frag} {mg : Str → Option Value} {base : Heap} {C : Addr} {H H' H0 H1 : Hp} {σ : L2.St} {te tb ta tc : TE} {tt : TT} {tA : TA} {E Er : XK} {D : Ends} {tz : TS} {a b d : Addr} {us : Rw} {xs ys : List V} {rs qs : List Rw} {ks : List Pt} {r l : Ru} {p : Pt} {v : V} {Q : VK} {ds es : List (Wd × V)}
theorem two_raw (ha : EvPs ta σ H ds) (hb : EvPs tb σ H es) (q : ∀ H1 p p1 p2, H p = none → H p1 = none → H p2 = none → Ex H H1 → TwoAt H1 p p1 p2 ds es → Q (.ref p) H1) : tLst (tCons ta (tCons tb tNil)) σ H Q :=
  ha H (Ex.refl H) _ fun H1 p1 ys hp1 e1 h1 r1 => hb H1 e1 _ fun H2 p2 zs hp2 e2 h2 r2 => ⟨by show 2 ≤ sizeLine; decide, fun p hp => by
    have n1 : p ≠ p1 := fun z => by
      rw [z, e2 _ _ h1] at hp
      cases hp
    have n2 : p ≠ p2 := fun z => by
      rw [z, h2] at hp
      cases hp
    have n12 : p1 ≠ p2 := fun z => by
      rw [← z, h1] at hp2
      cases hp2
    have e3 : Ex H2 (upd H2 p (.lst [.ref p1, .ref p2])) := Ex.new hp
    exact q _ p p1 p2 (fresh_back (e1.trans e2) hp) hp1 (fresh_back e1 hp2) ((e1.trans e2).trans e3) ⟨n1, n2, n12, upd_same, ⟨ys, e3 _ _ (e2 _ _ h1), r1.ex (e2.trans e3)⟩, ⟨zs, e3 _ _ h2, r2.ex e3⟩⟩⟩
theorem ev_reprTwo {p p1 p2 : Addr} (h : Ev te σ H (.ref p)) (ht : TwoAt H p p1 p2 ds es) (h1 : ∀ d ∈ ds, Shrt d.2) (h2 : ∀ d ∈ es, Shrt d.2) (l1 : ds.length ≤ 6000) (l2 : es.length ≤ 6000) : Ev (tCB (rRepr K) (tCons te tNil)) σ H (.str (dTwo ds es).shown) :=
  ev_cb (ea_cons h ea_nil) fun H1 e Q q => by
    have s := sm_two h1 h2 l1 l2
    exact ⟨_, dTwo ds es, rfl, (ht.ex e).dp h1 h2, rfl, s.sh, s.nd, Nat.le_trans s.de (by omega), by have := s.ln; rw [sizeLine_eq]; omega, q H1 (Ex.refl H1)⟩
/-- what a list gets at its end, then loses at its beginning -/
theorem turn_both {i : Nat} {c : Addr} {ws : List V} {z : Str} {n : Int} (hs : σ[i]? = some (some (.ref c))) (hc : H c = some (.lst ws)) (hl : ws.length ≤ 6000) (k : ∀ G ws', ExB c H G → G c = some (.lst ws') → ws'.length ≤ 6000 → D.nx σ G) :
    tSeq (tDrop (tBM K "list" rAppend (tVar i) (tCons (tTupX (tCons (tC (.str z)) (tCons (tC (.int n)) tNil))) tNil))) (tDrop (tBM K "list" rPopAt (tVar i) (tCons (tC (.int 0)) tNil))) D σ H := by
  refine q_dropR ⟨_, hs, .inl ⟨rfl, ws, sq_of hc⟩, cons1_raw (tupx_raw ?_)⟩
  refine (ea_cons ev_c (ea_cons ev_c ea_nil) : EvA _ _ _ [.str z, .int n]) H (Ex.refl H) _ fun H1 e1 => ⟨(by show 2 ≤ sizeLine; decide), fun t o ht bo => ⟨c, ws, .ref t, rfl, rfl, (Ex.new ht) _ _ (e1 _ _ hc), by rw [sizeLine_eq]; omega, ?_⟩⟩
  have hx : ∃ y, (ws ++ [V.ref t])[0]? = some y := by
    cases ws with
    | nil => exact ⟨_, rfl⟩
    | cons y ws => exact ⟨y, rfl⟩
  obtain ⟨y, hy⟩ := hx
  refine dropR ⟨_, hs, .inl ⟨rfl, _, sq_of upd_same⟩, (ea_cons ev_c ea_nil : EvA _ _ _ [.int 0]) _ (Ex.refl _) _ fun H2 e2 => ⟨c, ws ++ [.ref t], 0, 0, y, rfl, rfl, e2 _ _ upd_same, by omega, by omega, ?_, hy, ?_⟩⟩
  · unfold seqIndex?
    rw [List.length_append]
    simp
  · refine k _ ((ws ++ [V.ref t]).eraseIdx 0) ?_ upd_same ?_
    · exact (((ExB.of (e1.trans (Ex.new ht))).trans ExB.set).trans (ExB.of e2)).trans ExB.set
    · rw [List.length_eraseIdx]
      split
      · rw [List.length_append]
        show ws.length + 1 - 1 ≤ 6000
        omega
      · rename_i h
        exact absurd (by rw [List.length_append]; show 0 < ws.length + 1; omega) h
theorem eps_call {sp : Sp} {vs : List V} (h : EvA tA σ H vs) (hs : ∀ H1, Ex H H1 → ∀ Q : VK, (∀ H2 p ys, H1 p = none → Ex H1 H2 → H2 p = some (.lst ys) → PrsAt H2 ys ds → Q (.ref p) H2) → sp vs H1 Q Er) : EvPs (tCall sp [] Er tA) σ H ds := fun H1 e Q q =>
  h H1 e _ fun H2 e2 => by
    show sp (vs ++ []) H2 Q Er
    rw [List.append_nil]
    exact hs H2 (e.trans e2) Q fun H3 p ys hp e3 h3 r3 => q H3 p ys (fresh_back e2 hp) (e2.trans e3) h3 r3
theorem eps_callK {sp : Sp} {vs zs : List V} {m : Nat} {gV : List V → List V → List V} (h : EvA tA σ H zs) (hm : zs.length = m) (hg : gV [] zs = vs) (hs : ∀ H1, Ex H H1 → ∀ Q : VK, (∀ H2 p ys, H1 p = none → Ex H1 H2 → H2 p = some (.lst ys) → PrsAt H2 ys ds → Q (.ref p) H2) → sp vs H1 Q Er) : EvPs (tCallK m sp gV Er tA) σ H ds := fun H1 e Q q =>
  h H1 e _ fun H2 e2 => ⟨hm, by
    rw [hg]
    exact hs H2 (e.trans e2) Q fun H3 p ys hp e3 h3 r3 => q H3 p ys (fresh_back e2 hp) (e2.trans e3) h3 r3⟩
end
def sp_Lspot (K : PySem.W.Frag) (C CT : Addr) : Sp := fun vs H Q _ => ∃ b t u d r l ks g st, ∃ ps : List Nat, vs = [.ref b, .ref t, .ref u, .ref d, nV g] ∧ BookAt K C H b r ∧ MyT.TreeAt CT H t ps st ∧ SqL K H u (MyT.upsV ps) ∧ DictAt K H d ks l ∧ (∀ p, p ∈ ks) ∧ l.take = r.take ∧ l.give = r.give ∧ Good ps ∧ ps.length ≤ 199 ∧ g ≤ ps.length ∧ RetV (.bl true) H Q
section
variable {P : Program} {w : World} {K : PySem.W.Frag} {mg : Str → Option Value} {base : Heap} {C : Addr} {H H' H0 H1 : Hp} {σ : L2.St} {te tb ta tc : TE} {tt : TT} {tA : TA} {E Er : XK} {D : Ends} {tz : TS} {a b d : Addr} {us : Rw} {xs ys : List V} {rs qs : List Rw} {ks : List Pt} {r l : Ru} {p : Pt} {v : V} {Q : VK} {ds es : List (Wd × V)}
theorem ok_Lspot_right (T : Txt K mg w) (G_Lpath : FnG P w K mg base CX0 1 T.f_Lpath T.fd_Lpath ["_law_ups_here", "_law_spot"] (MyT.sp_Lpath K)) (G_Ldeeds_due : FnG P w K mg base CX0 1 T.f_Ldeeds_due T.fd_Ldeeds_due ["_law_words", "_law_path_here"] (sp_Ldue K)) (G_take_plan : FnG P w K mg base CX0 8 T.f_take_plan T.fd_take_plan ["book", "tree", "group"] (sp_tplan K T.C T.C_Tree)) (G_give_plan : FnG P w K mg base CX0 8 T.f_give_plan T.fd_give_plan ["book", "tree", "home"] (sp_gplan K T.C T.C_Tree)) : FnG P w K mg base CX0 9 T.f_Lspot_right T.fd_Lspot_right ["_law_made", "_law_wood", "_law_ups_here", "_law_rules_here", "_law_spot"] (sp_Lspot K T.C T.C_Tree) := by
  refine okG T.F_Lspot_right sc_Lspot_right (fun vs H Q E h => ?_) (fun cdv A outer s H vs Q E gd hr h => ?_)
  · obtain ⟨_, _, _, _, _, _, _, _, _, _, rfl, _⟩ := h
    all_goals rfl
  · obtain ⟨b, t, u, d, r, l, ks, g, st, ps, rfl, hb, ht, hu, hd, hk, e1t, e1g, gd1, hl, hg, q⟩ := h
    refine ⟨_, (pss_cons (ps_set (i := 5) sc_Lspot_right.nd rfl (Or.inl rfl) (pc gd G_Lpath (hr.mono (by decide)) (by rfl) T.m_Lpath T.F_Lpath.kp T.b_Lpath .nil pass0 (pa_cons (pv 2) (pa_cons (pv 4) pa_nil)))) (pss_cons (ps_set (i := 6) sc_Lspot_right.nd rfl (Or.inl rfl) (pe_lst (pa_cons (pc gd G_Ldeeds_due (hr.mono (by decide)) (by rfl) T.m_Ldeeds_due T.F_Ldeeds_due.kp T.b_Ldeeds_due .nil pass0 (pa_cons (pe_dget (hu_of hr) (pv 3) pe_str (fun _ _ => rfl)) (pa_cons (pv 5) pa_nil))) (pa_cons (pc gd G_Ldeeds_due (hr.mono (by decide)) (by rfl) T.m_Ldeeds_due T.F_Ldeeds_due.kp T.b_Ldeeds_due .nil pass0 (pa_cons (pe_dget (hu_of hr) (pv 3) pe_str (fun _ _ => rfl)) (pa_cons (pv 5) pa_nil))) pa_nil)))) (pss_cons (ps_set (i := 7) sc_Lspot_right.nd rfl (Or.inl rfl) (pe_lst (pa_cons (pc gd G_take_plan (hr.mono (by decide)) (by rfl) T.m_take_plan T.F_take_plan.kp T.b_take_plan .nil pass0 (pa_cons (pv 0) (pa_cons (pv 1) (pa_cons (pv 4) pa_nil)))) (pa_cons (pc gd G_give_plan (hr.mono (by decide)) (by rfl) T.m_give_plan T.F_give_plan.kp T.b_give_plan .nil pass0 (pa_cons (pv 0) (pa_cons (pv 1) (pa_cons (pv 4) pa_nil)))) pa_nil)))) (pss_cons (ps_if (pt_cmpR op_ne (pe_callB (call_repr gd (roomU hr)) (by rfl) T.z_repr boot_repr (pa_cons (pv 7) pa_nil)) (pe_callB (call_repr gd (roomU hr)) (by rfl) T.z_repr boot_repr (pa_cons (pv 6) pa_nil)) (nomark _)) (pss_one (ps_ret pe_bl)) pss_nil) (pss_cons (ps_for PassesOwn.never rfl (pi_list (pv 7)) (pg_name (i := 8) sc_Lspot_right.nd rfl (Or.inl rfl) (Or.inr rfl)) (pss_cons (ps_expr (pe_bm PySem.F.plainAttrs_list PySem.F.slot_list_append PySem.F.type_list_append mt_append (pv 8) (pa_cons (pe_tupX (pa_cons pe_str (pa_cons pe_int pa_nil))) pa_nil))) (pss_one (ps_expr (pe_bm PySem.F.plainAttrs_list PySem.F.slot_list_pop PySem.F.type_list_pop mt_popAt (pv 8) (pa_cons pe_int pa_nil)))))) (pss_cons (ps_set (i := 9) sc_Lspot_right.nd rfl (Or.inl rfl) (pe_lst (pa_cons (pcK gd G_take_plan (hr.mono (by decide)) (by rfl) T.m_take_plan T.F_take_plan.kp T.k_take_plan_group_tree_book pass0 (pk_cons (pv 4) (pk_cons (pv 1) (pk_cons (pv 0) pk_nil)))) (pa_cons (pcK gd G_give_plan (hr.mono (by decide)) (by rfl) T.m_give_plan T.F_give_plan.kp T.k_give_plan_home_book_tree pass0 (pk_cons (pv 4) (pk_cons (pv 0) (pk_cons (pv 1) pk_nil)))) pa_nil)))) (pss_one (ps_ret (pe_cmpR op_eq (pe_callB (call_repr gd (roomU hr)) (by rfl) T.z_repr boot_repr (pa_cons (pv 9) pa_nil)) (pe_callB (call_repr gd (roomU hr)) (by rfl) T.z_repr boot_repr (pa_cons (pv 6) pa_nil)) (nomark _)))))))))), ?_⟩
    obtain ⟨dx0, d0, pb⟩ := id hb
    have l6t : r.take.length ≤ 6 := pb.ok.t.1.ln
    have l6g : r.give.length ≤ 6 := pb.ok.g.1.ln
    have st1 := deeds_shrt (us := r.take) gd1 hl hg
    have sg1 := deeds_shrt (us := r.give) gd1 hl hg
    have lt : (deedsOf ps g r.take).length ≤ 6000 := by
      have l1 := deeds_len gd1 hl hg r.take
      have l3 := Nat.mul_le_mul_right 1000 l6t
      omega
    have lg : (deedsOf ps g r.give).length ≤ 6000 := by
      have l1 := deeds_len gd1 hl hg r.give
      have l3 := Nat.mul_le_mul_right 1000 l6g
      omega
    refine q_asgL (el_call (ea_cons (ev_var rfl) (ea_cons (ev_var rfl) ea_nil)) (MyT.sl_path hu gd1 hl hg)) fun n H1 hn e1 h1 => ?_
    obtain ⟨f, hf, hfv⟩ := hd.ex e1
    have due : ∀ {p : Pt} {us : Rw} {v : V} {σ : L2.St}, p ∈ rowPs → f p = v → rowPt p l = us → us.length ≤ 6 → σ[3]? = some (some (.ref d)) → σ[5]? = some (some (.ref n)) → EvPs (tCall (sp_Ldue K) [] E0 (tCons (tDGet (tVar 3) (tC (.str p.s))) (tCons (tVar 5) tNil))) σ H1 (deedsOf ps g us) := fun {p us v σ} hp hv hus h6 h3 h5 => by
      have e2 : ∃ a, f p = .ref a ∧ RowX K H1 a us := by
        have h := hfv p (hk p)
        rw [← hus]
        simp only [rowPs, List.mem_cons, List.not_mem_nil, or_false] at hp
        rcases hp with rfl | rfl | rfl | rfl <;> exact h
      obtain ⟨a, ha, ra⟩ := e2
      exact eps_call (ea_cons (ev_is (ev_get (p := p) (ev_var h3) hf (hk p)) ha) (ea_cons (ev_var h5) ea_nil)) fun H2 e2 Q q => ⟨a, n, g, us, ps, rfl, ra.ex e2, h6, sq_of (e2 _ _ h1), gd1, hl, hg, fun H3 p ys hp e3 h3 r3 => q H3 p ys hp e3 h3 r3⟩
    refine q_asgR (two_raw (due (p := .take) (us := r.take) (by decide) rfl e1t l6t rfl rfl) (due (p := .give) (us := r.give) (by decide) rfl e1g l6g rfl rfl) fun H2 m m1 m2 hm hm1 hm2 e2 t2 => ?_)
    have x2 := e1.trans e2
    have planT : ∀ {H3 : Hp}, Ex H2 H3 → ∀ H4, Ex H3 H4 → ∀ Q : VK, (∀ H5 p ys, H4 p = none → Ex H4 H5 → H5 p = some (.lst ys) → PrsAt H5 ys (deedsOf ps g r.take) → Q (.ref p) H5) → sp_tplan K T.C T.C_Tree [.ref b, .ref t, nV g] H4 Q E0 := fun e3 H4 e4 Q q => ⟨b, t, r, g, st, ps, rfl, hb.ex ((x2.trans e3).trans e4), ht.ex ((x2.trans e3).trans e4), gd1, hl, hg, fun H5 p ys hp e5 h5 r5 => q H5 p ys hp e5 h5 r5⟩
    have planG : ∀ {H3 : Hp}, Ex H2 H3 → ∀ H4, Ex H3 H4 → ∀ Q : VK, (∀ H5 p ys, H4 p = none → Ex H4 H5 → H5 p = some (.lst ys) → PrsAt H5 ys (deedsOf ps g r.give) → Q (.ref p) H5) → sp_gplan K T.C T.C_Tree [.ref b, .ref t, nV g] H4 Q E0 := fun e3 H4 e4 Q q => ⟨b, t, r, g, st, ps, rfl, hb.ex ((x2.trans e3).trans e4), ht.ex ((x2.trans e3).trans e4), gd1, hl, hg, fun H5 p ys hp e5 h5 r5 => q H5 p ys hp e5 h5 r5⟩
    refine q_asgR (two_raw (ds := deedsOf ps g r.take) (es := deedsOf ps g r.give) (eps_call (ea_cons (ev_var (v := .ref b) rfl) (ea_cons (ev_var (v := .ref t) rfl) (ea_cons (ev_var (v := nV g) rfl) ea_nil))) (planT (Ex.refl H2))) (eps_call (ea_cons (ev_var (v := .ref b) rfl) (ea_cons (ev_var (v := .ref t) rfl) (ea_cons (ev_var (v := nV g) rfl) ea_nil))) (planG (Ex.refl H2))) fun H3 p p1 p2 hp hp1 hp2 e3 t3 => ?_)
    refine q_when (b := false) (et_same (ev_reprTwo (ev_var rfl) t3 st1 sg1 lt lg) (ev_reprTwo (ev_var rfl) (t2.ex e3) st1 sg1 lt lg)) (fun z => nomatch z) fun _ H4 e4 => ?_
    have t4 := t3.ex e4
    have x24 := e3.trans e4
    have l12 : ∀ {ys : List V} {p' : Addr} {ds : List (Wd × V)}, ds.length ≤ 6000 → PrsAt H4 ys ds → ys.length ≤ 6000 := fun hl h => by
      rw [h.len]
      exact hl
    refine q_forL (a := p) (xs := [.ref p1, .ref p2]) (ev_var rfl) (sq_of t4.pp) (fun k σ' G => ∃ x8, σ' = [some (.ref b), some (.ref t), some (.ref u), some (.ref d), some (nV g), some (.ref n), some (.ref m), some (.ref p), x8, none] ∧ Ex H2 G ∧ G p = some (.lst [.ref p1, .ref p2]) ∧ (∃ ys, G p1 = some (.lst ys) ∧ ys.length ≤ 6000) ∧ ∃ ys, G p2 = some (.lst ys) ∧ ys.length ≤ 6000) (fun G5 e5 => ?_) (fun k σ' G hk z => ?_) (fun k x σ' G hx z => ?_) fun σ' G z => ?_
    · obtain ⟨n1, n2, n12, pp, ⟨ys, a1, b1⟩, ⟨zs, a2, b2⟩⟩ := t4
      exact ⟨_, rfl, x24.trans e5, e5 _ _ pp, ⟨ys, e5 _ _ a1, by rw [b1.len]; exact lt⟩, ⟨zs, e5 _ _ a2, by rw [b2.len]; exact lg⟩⟩
    · obtain ⟨_, _, _, z, _⟩ := z
      exact sq_of z
    · obtain ⟨x8, rfl, z1, z2, ⟨ys, z3, l3⟩, ⟨zs, z4, l4⟩⟩ := z
      have n1 := t4.n1
      have n2 := t4.n2
      have n12 := t4.n12
      have exm : ∀ {c : Addr} {G2 : Hp}, H2 c = none → ExB c G G2 → Ex H2 G2 := fun hc x => ExB.all z1 hc x
      have hx2 : x = .ref p1 ∨ x = .ref p2 := by
        have := List.mem_of_getElem? hx
        simpa using this
      rcases hx2 with rfl | rfl
      · exact turn_both rfl z3 l3 fun G2 ws' x2' w2 lw => ⟨_, rfl, exm hp1 x2', x2' _ _ n1 z2, ⟨_, w2, lw⟩, ⟨_, x2' _ _ n12.symm z4, l4⟩⟩
      · exact turn_both rfl z4 l4 fun G2 ws' x2' w2 lw => ⟨_, rfl, exm hp2 x2', x2' _ _ n2 z2, ⟨_, x2' _ _ n12 z3, l3⟩, ⟨_, w2, lw⟩⟩
    · obtain ⟨x8, rfl, z1, z2, z3, z4⟩ := z
      dsimp only
      refine q_asgR (two_raw (ds := deedsOf ps g r.take) (es := deedsOf ps g r.give) (eps_callK (zs := [nV g, .ref t, .ref b]) (ea_cons (ev_var (v := nV g) rfl) (ea_cons (ev_var (v := .ref t) rfl) (ea_cons (ev_var (v := .ref b) rfl) ea_nil))) rfl rfl (planT z1)) (eps_callK (zs := [nV g, .ref b, .ref t]) (ea_cons (ev_var (v := nV g) rfl) (ea_cons (ev_var (v := .ref b) rfl) (ea_cons (ev_var (v := .ref t) rfl) ea_nil))) rfl rfl (planG z1)) fun G3 s s1 s2 hs hs1 hs2 e5 t5 => ?_)
      exact s_ret (ev_is (ev_op (ev_reprTwo (ev_var rfl) t5 st1 sg1 lt lg) (ev_reprTwo (ev_var rfl) (t2.ex (z1.trans e5)) st1 sg1 lt lg) (rv_eq rfl)) (cbl (decide_eq_true rfl))) fun G4 e6 => q G4 (x2.trans ((z1.trans e5).trans e6))
end
end My
namespace My
open PySem PySem.Spec PyProof.Rows L2 GL Evl StX SkE
/-! ### dicts of rules, made of pairs; updates by draws -/
abbrev Ent := Pt × V × Ru
def entK (z : Ent) : Key × V := (.inr z.1.s, z.2.1)
def updAll (r : Ru) (ws : List Ent) : Ru := ws.foldl (fun r z => r.upd z.2.2 z.1) r
/-- pairs: tuples of a name and a value -/
inductive PwAt (K : PySem.W.Frag) (H : Hp) : List V → List Ent → Prop where
  | nil : PwAt K H [] []
  | cons {t : Addr} {z : Ent} {xs : List V} {ws : List Ent} (h : SqT K H t [.str z.1.s, z.2.1]) (hv : (z.2.2.get z.1).At K H z.2.1) (hr : PwAt K H xs ws) : PwAt K H (.ref t :: xs) (z :: ws)
theorem paired_app {α β : Type} {F : α → β → Prop} : ∀ {xs ys : List α} {us vs : List β}, Paired F xs us → Paired F ys vs → Paired F (xs ++ ys) (us ++ vs)
  | [], _, [], _, .nil, h => h
  | _ :: _, _, _ :: _, _, .cons a b, h => .cons a (paired_app b h)
theorem pairedT {α β : Type} {F G : α → β → Prop} : ∀ {l₁ : List α} {l₂ : List β}, Paired F l₁ l₂ → (∀ a ∈ l₁, ∀ b, F a b → G a b) → Paired G l₁ l₂
  | [], [], .nil, _ => .nil
  | a :: l₁, b :: l₂, .cons h t, f => .cons (f a List.mem_cons_self b h) (pairedT t fun x hx => f x (List.mem_cons_of_mem _ hx))
section
variable {P : Program} {w : World} {K : PySem.W.Frag} {mg : Str → Option Value} {base : Heap} {C : Addr} {H H' H0 H1 : Hp} {σ : L2.St} {te tb ta tc tl : TE} {tt : TT} {tA : TA} {E Er : XK} {D : Ends} {tz : TS} {a b d : Addr} {us : Rw} {xs ys : List V} {rs qs : List Rw} {ks : List Pt} {r l : Ru} {p : Pt} {v : V} {Q : VK} {ws : List Ent}
theorem PwAt.pairs (h : PwAt K H xs ws) : ∃ ts : List Addr, xs = ts.map V.ref ∧ ts.length = ws.length ∧ Paired (fun (t : Addr) (kv : Key × V) => SqT K H t [kV kv.1, kv.2]) ts (ws.map entK) := by
  induction h with
  | nil => exact ⟨[], rfl, rfl, .nil⟩
  | @cons t z xs ws h hv hr ih =>
    obtain ⟨ts, rfl, hl, hp⟩ := ih
    exact ⟨t :: ts, rfl, by rw [List.length_cons, List.length_cons, hl], .cons h hp⟩
theorem PwAt.vals (h : PwAt K H xs ws) : ∀ z ∈ ws, (z.2.2.get z.1).At K H z.2.1 := by
  induction h with
  | nil => exact fun _ h => absurd h List.not_mem_nil
  | cons h hv hr ih =>
    intro z hz
    rcases List.mem_cons.mp hz with rfl | hz
    · exact hv
    · exact ih z hz
theorem merge_ent : ∀ (ws : List Ent) (f : Pt → V) (r : Ru), (∀ p ∈ ks, (r.get p).At K H (f p)) → (∀ z ∈ ws, z.1 ∈ ks ∧ (z.2.2.get z.1).At K H z.2.1) → ∃ f' : Pt → V, mergeK (kvs ks f) (ws.map entK) = kvs ks f' ∧ ∀ p ∈ ks, ((updAll r ws).get p).At K H (f' p)
  | [], f, r, h, _ => ⟨f, rfl, h⟩
  | z :: ws, f, r, h, hw => by
    have hz := hw z List.mem_cons_self
    obtain ⟨f', h1, h2⟩ := merge_ent ws (put f z.1 z.2.1) (r.upd z.2.2 z.1) (fun q hq => by
      rw [Ru.get_upd]
      unfold put
      by_cases e : q = z.1
      · rw [if_pos e, if_pos e, e]
        exact hz.2
      · rw [if_neg e, if_neg e]
        exact h q hq) (fun y hy => hw y (List.mem_cons_of_mem _ hy))
    refine ⟨f', ?_, h2⟩
    show mergeK (putK (kvs ks f) (.inr z.1.s) z.2.1) (ws.map entK) = _
    rw [put_old hz.1]
    exact h1
theorem PwAt.exB (h : PwAt K H xs ws) (e : ExB a H H') (n : PotAt H a) : PwAt K H' xs ws := by
  have nt := n.nt
  induction h with
  | nil => exact .nil
  | @cons t z xs ws h hv hr ih =>
    refine .cons ?_ (hv.exB e nt) ih
    rcases h with (h | ⟨o, h⟩) | h
    · exact .inl (.inl (e _ _ (fun q => Bool.noConfusion (nt _ (q ▸ h))) h))
    · exact .inl (.inr ⟨o, e _ _ (fun q => Bool.noConfusion (nt _ (q ▸ h))) h⟩)
    · exact .inr h
/-- pairs, their values by draws -/
def EvW (K : PySem.W.Frag) (tA : TA) (σ : L2.St) (H : Hp) (a : Addr) (Y : List Ent → Prop) : Prop := ∀ H1, Ex H H1 → ∀ QA : List V → Hp → Prop, (∀ xs H2 ws, ExB a H1 H2 → PotAt H2 a → PwAt K H2 xs ws → Y ws → QA xs H2) → tA σ H1 QA
theorem ew_nil (hp : PotAt H a) : EvW K tNil σ H a (fun ws => ws = []) := fun H1 e1 QA q => q [] H1 [] (ExB.refl a H1) (hp.ex e1) .nil rfl
theorem EvPt.exB {X : Ru → Prop} (h : ∀ H', ExB a H H' → PotAt H' a → EvPt K te σ H' a p X) {H' : Hp} (e : ExB a H H') (hp : PotAt H' a) : EvPt K te σ H' a p X := h H' e hp
theorem ew_cons {X : Ru → Prop} {Y : List Ent → Prop} {tn : TE} (hn : ∀ H1, Ev tn σ H1 (.str p.s)) (h : EvPt K te σ H a p X) (hr : ∀ H', ExB a H H' → PotAt H' a → EvW K tA σ H' a Y) : EvW K (tCons (tTupX (tCons tn (tCons te tNil))) tA) σ H a (fun ws => ∃ v l ws', ws = (p, v, l) :: ws' ∧ X l ∧ Y ws') := fun H0 e0 QA q =>
  cons_rw (tupx_raw (cons_raw (hn H0) fun H1 e1 => cons1_raw (h H1 (e0.trans e1) _ fun H2 v l x2 p2 hv hx => ⟨by show 2 ≤ sizeLine; decide, fun t o ht bo => by
    have x02 : ExB a H0 H2 := (ExB.of e1).trans x2
    have x03 := x02.trans (ExB.of (Ex.new (o := .frz o (.tup [.str p.s, v])) ht))
    have p3 := p2.ex (Ex.new (o := .frz o (.tup [.str p.s, v])) ht)
    refine hr _ ((ExB.of e0).trans x03) p3 _ (Ex.refl _) _ fun xs H4 ws x4 p4 hw hy => q _ H4 ((p, v, l) :: ws) (x03.trans x4) p4 ?_ ⟨v, l, ws, rfl, hx, hy⟩
    have nta : t ≠ a := p2.ne ht
    exact .cons (.inl (.inr ⟨o, x4 _ _ nta upd_same⟩)) ((hv.ex (Ex.new ht)).exB x4 p3.nt) hw⟩)))
/-- dict(list(d.items()) + [pairs]) -/
theorem dcat_raw {i : Nat} {Y : List Ent → Prop} (hp : PotAt H a) (hs : σ[i]? = some (some (.ref d))) (hd : DictAt K H d ks r) (nd : ks.Nodup) (hl : ks.length ≤ 20)
    (h : ∀ H1, Ex H H1 → EvW K tA σ H1 a Y) (hY : ∀ ws, Y ws → (∀ z ∈ ws, z.1 ∈ ks) ∧ ws.length ≤ 20) (q : ∀ ws c H3, Y ws → Sta K a c ks (updAll r ws) H H3 → (∀ z ∈ ws, (z.2.2.get z.1).At K H3 z.2.1) → Q (.ref c) H3) :
    tCB (fun xs H Q => ∃ (a : Addr) (ps : List Addr) (kvs : List (Key × V)), xs = [.ref a] ∧ SqL K H a (ps.map V.ref) ∧ Paired (fun p kv => SqT K H p [kV kv.1, kv.2]) ps kvs ∧ ∀ p, H p = none → Q (.ref p) (upd H p (.dK (mergeK [] kvs)))) (tCons (tOp rCat (LiI.tListItems (tVar i)) (tLst tA)) tNil) σ H Q := by
  obtain ⟨f, hf, hfv⟩ := id hd
  refine cb1_raw (op_raw ⟨_, hs, d, kvs ks f, rfl, hf, fun H1 p ts e1 hp0 hts hpt h1 pr1 => ?_⟩)
  have e1' : Ex H H1 := e1
  have npa : p ≠ a := hp.ne hp0
  have lts : ts.length = ks.length := by
    have h := pr1.length
    rw [List.length_map] at h
    exact h
  refine h H1 e1' H1 (Ex.refl H1) _ fun xs H2 ws x2 p2 hw hy => ?_
  obtain ⟨hks, hl2⟩ := hY ws hy
  obtain ⟨us, rfl, lus, pus⟩ := hw.pairs
  refine ⟨by rw [List.length_map, sizeLine_eq]; omega, fun p3 hp3 => ?_⟩
  have e3 : Ex H2 (upd H2 p3 (.lst (us.map V.ref))) := Ex.new hp3
  refine ⟨p, p3, _, _, rfl, rfl, e3 _ _ (x2 _ _ npa h1), upd_same, by rw [List.length_map, List.length_map, sizeLine_eq]; omega, fun p4 hp4 => ?_⟩
  have e4 : Ex (upd H2 p3 (.lst (us.map V.ref))) (upd (upd H2 p3 (.lst (us.map V.ref))) p4 (.lst (ts.map V.ref ++ us.map V.ref))) := Ex.new hp4
  have x14 := (x2.trans (ExB.of e3)).trans (ExB.of e4)
  have e24 := e3.trans e4
  refine ⟨p4, ts ++ us, kvs ks f ++ ws.map entK, rfl, sq_of (by rw [upd_same, List.map_append]), paired_app (pairedT pr1 fun t ht kv h => st_of (x14 _ _ (hp.ne (hts t ht)) h)) (pairedT pus fun t _ kv h => ex_t e24 h), fun c hc => ?_⟩
  have hfm : mergeK [] (kvs ks f ++ ws.map entK) = mergeK (kvs ks f) (ws.map entK) := by
    have h0 := made_kvs f nd
    unfold mergeK at h0 ⊢
    rw [List.foldl_append, h0]
  have x04 : ExB a H _ := (ExB.of e1').trans x14
  obtain ⟨f', hm, hf'⟩ := merge_ent (K := K) (H := upd (upd H2 p3 (.lst (us.map V.ref))) p4 (.lst (ts.map V.ref ++ us.map V.ref))) (ks := ks) ws f r (fun p hp' => (hfv p hp').exB x04 hp.nt) fun z hz => ⟨hks z hz, (hw.vals z hz).ex e24⟩
  rw [hfm, hm]
  obtain ⟨y1, y2, hy1, _⟩ := id p2
  have e5 : Ex (upd (upd H2 p3 (.lst (us.map V.ref))) p4 (.lst (ts.map V.ref ++ us.map V.ref))) (upd (upd (upd H2 p3 (.lst (us.map V.ref))) p4 (.lst (ts.map V.ref ++ us.map V.ref))) c (.dK (kvs ks f'))) := Ex.new hc
  exact q ws c _ hy ⟨x04.trans (ExB.of e5), (p2.ex e24).ex e5, x04.free (e24 _ _ hy1) hc, (p2.ex e24).ne hc, f', upd_same, fun p hp' => (hf' p hp').ex e5⟩ fun z hz => ((hw.vals z hz).ex e24).ex e5
end
end My
namespace My
open PySem PySem.Spec PyProof.Rows L2 GL Evl StX SkE
/-! ### updates by draws; other rules beside these -/
/-- pairs of a display, their values by draws -/
def EvTp (K : PySem.W.Frag) (trs : List (TE × TE)) (σ : L2.St) (H : Hp) (a : Addr) (Y : List Ent → Prop) : Prop := ∀ H1, Ex H H1 → ∀ QP : List (V × V) → Hp → Prop, (∀ H2 ws, ExB a H1 H2 → PotAt H2 a → (∀ z ∈ ws, (z.2.2.get z.1).At K H2 z.2.1) → Y ws → QP (ws.map fun z => (V.str z.1.s, z.2.1)) H2) → tPairs trs σ H1 QP
theorem ent_kvs : ∀ {ws : List Ent}, (ws.map (·.1)).Nodup → ∃ g : Pt → V, ws.map entK = kvs (ws.map (·.1)) g
  | [], _ => ⟨fun _ => .non, rfl⟩
  | z :: ws, h => by
    rw [List.map_cons, List.nodup_cons] at h
    obtain ⟨g, hg⟩ := ent_kvs h.2
    refine ⟨put g z.1 z.2.1, ?_⟩
    show entK z :: ws.map entK = (Sum.inr z.1.s, put g z.1 z.2.1 z.1) :: kvs (ws.map (·.1)) (put g z.1 z.2.1)
    have e1 : put g z.1 z.2.1 z.1 = z.2.1 := by
      unfold put
      rw [if_pos rfl]
    have e2 : kvs (ws.map (·.1)) (put g z.1 z.2.1) = kvs (ws.map (·.1)) g := List.map_congr_left fun p hp => by
      have np : p ≠ z.1 := fun e => h.1 (by rw [← e]; exact hp)
      show (Sum.inr p.s, put g z.1 z.2.1 p) = _
      unfold put
      rw [if_neg np]
    rw [e1, e2, hg]
    rfl
section
variable {P : Program} {w : World} {K : PySem.W.Frag} {mg : Str → Option Value} {base : Heap} {C : Addr} {H H' H0 H1 : Hp} {σ : L2.St} {te tb ta tc tl : TE} {tt : TT} {tA : TA} {E Er : XK} {D : Ends} {tz : TS} {a b d : Addr} {us : Rw} {xs ys : List V} {rs qs : List Rw} {ks : List Pt} {r l : Ru} {p : Pt} {v : V} {Q : VK} {ws : List Ent} {trs : List (TE × TE)}
theorem etp_nil (hp : PotAt H a) : EvTp K [] σ H a (fun ws => ws = []) := fun H1 e1 QA q => q H1 [] (ExB.refl a H1) (hp.ex e1) (fun _ h => absurd h List.not_mem_nil) rfl
theorem etp_cons {X : Ru → Prop} {Y : List Ent → Prop} {tn : TE} (hn : ∀ H1, Ev tn σ H1 (.str p.s)) (h : EvPt K te σ H a p X) (hr : ∀ H', ExB a H H' → PotAt H' a → EvTp K trs σ H' a Y) : EvTp K ((tn, te) :: trs) σ H a (fun ws => ∃ v l ws', ws = (p, v, l) :: ws' ∧ X l ∧ Y ws') := fun H0 e0 QA q =>
  hn H0 H0 (Ex.refl H0) _ fun H1 e1 => h H1 (e0.trans e1) _ fun H2 v l x2 p2 hv hx => hr H2 ((ExB.of (e0.trans e1)).trans x2) p2 H2 (Ex.refl H2) _ fun H3 ws x3 p3 hw hy => q H3 ((p, v, l) :: ws) (((ExB.of e1).trans x2).trans x3) p3 (fun z hz => by
    rcases List.mem_cons.mp hz with rfl | hz
    · exact hv.exB x3 p2.nt
    · exact hw z hz) ⟨v, l, ws, rfl, hx, hy⟩
/-- d.update({..}) -/
theorem qupd_raw {i : Nat} {Y : List Ent → Prop} (st : Sta K a d ks r H0 H) (hs : σ[i]? = some (some (.ref d))) (hl : ks.length ≤ 20) (h : ∀ H', Ex H H' → PotAt H' a → EvTp K trs σ H' a Y)
    (hY : ∀ ws, Y ws → (∀ z ∈ ws, z.1 ∈ ks) ∧ (ws.map (·.1)).Nodup ∧ ws.length ≤ 15) (k : ∀ ws H1, Y ws → Sta K a d ks (updAll r ws) H0 H1 → (∀ {u : Addr} {ks' : List Pt} {l' : Ru}, DictAt K H u ks' l' → u ≠ a → u ≠ d → DictAt K H1 u ks' l') → tz D σ H1) : tSeq (tDrop (tDUpd (tVar i) (tDisp trs))) tz D σ H := by
  obtain ⟨f, hf, hfv⟩ := id st.d
  refine q_dropR ⟨_, hs, d, rfl, .inl ⟨_, .inl hf⟩, fun b hb => ?_⟩
  have nba : b ≠ a := st.p.ne hb
  have nbd : b ≠ d := fun e => by
    rw [e, hf] at hb
    cases hb
  have e0 : Ex H (upd H b (.dK [])) := Ex.new hb
  refine h _ e0 (st.p.ex e0) _ (Ex.refl _) _ fun H2 ws x2 p2 hw hy => ⟨x2 _ _ nba upd_same, ws.map entK, by rw [List.map_map]; rfl, by rw [List.length_map]; exact (hY ws hy).2.2, ?_⟩
  obtain ⟨hks, hnd, hl2⟩ := hY ws hy
  obtain ⟨g, hg⟩ := ent_kvs hnd
  have hm0 : mergeK [] (ws.map entK) = ws.map entK := by
    rw [hg]
    exact made_kvs g hnd
  rw [hm0]
  have hf2 : H2 d = some (.dK (kvs ks f)) := x2 _ _ st.na (e0 _ _ hf)
  have b2 : H2 b = some (.dK []) := x2 _ _ nba upd_same
  have hf3 : (upd H2 b (.dK (ws.map entK))) d = some (.dK (kvs ks f)) := by
    rw [upd_ne nbd.symm]
    exact hf2
  refine ⟨b, kvs ks f, ws.map entK, rfl, nbd.symm, hf3, .inl upd_same, by rw [List.length_map, List.length_map]; omega, ?_⟩
  have x02 : ExB a H H2 := (ExB.of e0).trans x2
  have ntb : NoTup H2 b := NoTup.dK b2
  have ntd : NoTup (upd H2 b (.dK (ws.map entK))) d := NoTup.dK hf3
  obtain ⟨f', hm, hf'⟩ := merge_ent (K := K) (H := upd (upd H2 b (.dK (ws.map entK))) d (.dK (mergeK (kvs ks f) (ws.map entK)))) (ks := ks) ws f r (fun p hp' => ((((hfv p hp').exB x02 st.p.nt).exB ExB.set ntb).exB ExB.set ntd)) fun z hz => ⟨hks z hz, ((hw z hz).exB ExB.set ntb).exB ExB.set ntd⟩
  rw [hm] at hf' ⊢
  refine k ws _ hy ⟨?_, ?_, st.n, st.na, f', upd_same, hf'⟩ ?_
  · refine ExB.mut ?_ st.n
    exact (st.x.trans x02).mut (by
      cases hH : H0 b with
      | none => rfl
      | some o =>
        have := st.x _ _ nba hH
        rw [hb] at this
        cases this)
  · exact (p2.exB ExB.set nba.symm).exB ExB.set st.na.symm
  · intro u ks' l' hu n1 n2
    have n3 : u ≠ b := fun e => by
      obtain ⟨g', h1, _⟩ := hu
      rw [e, hb] at h1
      cases h1
    exact ((hu.exB x02 n1 st.p.nt).exB ExB.set n3 ntb).exB ExB.set n2 ntd
theorem ep_pickW {i : Nat} {tn : TE} (hp : PotAt H a) (hs : σ[i]? = some (some (.ref a))) (h : EvL tn σ H (us.map wV)) (h1 : us ≠ []) (h2 : us.length ≤ 100) : EvPt K (tCall sp_Lpick [] Er (tCons (tVar i) (tCons tn tNil))) σ H a .fails (fun l => l.fails ∈ us) := fun H1 e1 Q q =>
  pick_list (hp.ex e1) hs (h.mono e1) (by rw [List.length_map]; have := List.length_pos_iff.mpr h1; omega) (by rw [List.length_map]; omega) fun H2 v x2 p2 hv => by
    obtain ⟨u, hu, rfl⟩ := List.mem_map.mp hv
    exact q H2 (wV u) ⟨[], [], [], [], u, true, [], 1, true⟩ x2 p2 rfl hu
theorem ep_of {m : Ru} (h : EvP K te σ H (m.get p)) (hp : PotAt H a) : EvPt K te σ H a p (fun l => l = m) := fun H1 e1 Q q => h H1 e1 _ fun v H2 e2 hv => q H2 v m (ExB.of e2) ((hp.ex e1).ex e2) hv rfl
theorem ep_holdT {us : Rw} (h : EvA tA σ H (us.map wV)) (hl : us.length ≤ 1000) : EvP K (tTupX tA) σ H (.hold us) := fun H1 e Q q => er_tup (K := K) h hl H1 e Q fun p H2 e2 hp => q _ H2 e2 ⟨p, rfl, hp.at_⟩
theorem ev_pT {i : Nat} (hs : σ[i]? = some (some (.ref d))) (h : DictAt K H d ks r) (hp : .settles ∈ ks) : Ev (tDGet (tVar i) (tC (.str Pt.settles.s))) σ H (.bl r.settles) := by
  obtain ⟨v, h1, h2⟩ := ev_part hs h hp
  have e : v = .bl r.settles := h2
  rwa [e] at h1
theorem few_moves {us : Rw} (h : us ∈ ([[], [.set], [.tri, .set, .home]] : List Rw)) : RowOk us ∧ pMove us = true ∧ pShared us true = true := by
  simp only [List.mem_cons, List.not_mem_nil, or_false] at h
  rcases h with rfl | rfl | rfl
  · exact empty_move true
  · exact ⟨⟨by decide, by decide⟩, by decide, by decide⟩
  · exact ⟨⟨by decide, by decide⟩, by decide, by decide⟩
theorem take_ne {us : Rw} (h : pTake us = true) : us ≠ [] := fun e => by
  rw [e] at h
  exact absurd h (by decide)
end
def sp_Lothers (K : PySem.W.Frag) : Sp := fun vs H Q _ => ∃ a d r, vs = [.ref a, .ref d] ∧ PotAt H a ∧ DictAt K H d ruleKs r ∧ Ok r ∧ ∀ H' c l, ExB a H H' → PotAt H' a → H c = none → DictAt K H' c ruleKs l → Ok l → l.take = r.take → l.give = r.give → Q (.ref c) H'
section
variable {P : Program} {w : World} {K : PySem.W.Frag} {mg : Str → Option Value} {base : Heap} {C : Addr} {H H' H0 H1 : Hp} {σ : L2.St} {te tb ta tc tl : TE} {tt : TT} {tA : TA} {E Er : XK} {D : Ends} {tz : TS} {a b d : Addr} {us : Rw} {xs ys : List V} {rs qs : List Rw} {ks : List Pt} {r l : Ru} {p : Pt} {v : V} {Q : VK} {ws : List Ent} {trs : List (TE × TE)}
theorem ok_Lothers (T : Txt K mg w) (G_Lpick : FnG P w K mg base CX0 2 T.f_Lpick T.fd_Lpick ["_law_pot_here", "_law_some"] sp_Lpick) (G_Llifts : FnG P w K mg base CX0 1 T.f_Llifts T.fd_Llifts [] (sp_Llifts K)) (G_Ldraw : FnG P w K mg base CX0 1 T.f_Ldraw T.fd_Ldraw ["_law_pot_here", "_law_sides"] MyT.sp_Ldraw) : FnG P w K mg base CX0 5 T.f_Lothers T.fd_Lothers ["_law_pot_here", "_law_rules_here"] (sp_Lothers K) := by
  refine okG T.F_Lothers sc_Lothers (fun vs H Q E h => ?_) (fun cdv A outer s H vs Q E gd hr h => ?_)
  · obtain ⟨_, _, _, rfl, _⟩ := h
    all_goals rfl
  · obtain ⟨a, d, r, rfl, hp, hd, ok, q⟩ := h
    refine ⟨_, (pss_cons (ps_set (i := 2) sc_Lothers.nd rfl (Or.inl rfl) (pe_callTy (call_dictP rfl) (by rfl) T.z_dict (by decide +kernel) (pa_cons (pe_op op_cat (LiI.pe_listItems rfl (pv 1) (by rfl) T.z_list (by decide +kernel)) (pe_lst (pa_cons (pe_tupX (pa_cons pe_str (pa_cons (pc gd G_Lpick (hr.mono (by decide)) (by rfl) T.m_Lpick T.F_Lpick.kp T.b_Lpick .nil pass0 (pa_cons (pv 0) (pa_cons (pe_lst (pa_cons pe_str (pa_cons pe_str (pa_cons pe_str pa_nil)))) pa_nil))) pa_nil))) (pa_cons (pe_tupX (pa_cons pe_str (pa_cons (pe_tupX (pa_cons pe_str pa_nil)) pa_nil))) pa_nil)))) pa_nil))) (pss_cons (ps_expr (pe_dupd (pv 2) (pe_disp (pps_cons pe_str (pe_not (pe_dget (hu_of hr) (pv 1) pe_str (fun _ _ => rfl))) (pps_cons pe_str (pc gd G_Lpick (hr.mono (by decide)) (by rfl) T.m_Lpick T.F_Lpick.kp T.b_Lpick .nil pass0 (pa_cons (pv 0) (pa_cons (pc0 gd G_Llifts (hr.mono (by decide)) (by rfl) T.m_Llifts T.F_Llifts.kp T.b_Llifts .nil pass0) pa_nil))) (pps_cons pe_str pe_bl pps_nil))) rfl rfl (by simp) (by simp)) ⟨by rfl, by rfl, by rfl, by rfl⟩)) (pss_cons (ps_expr (pe_dupd (pv 2) (pe_disp (pps_cons pe_str (pc gd G_Lpick (hr.mono (by decide)) (by rfl) T.m_Lpick T.F_Lpick.kp T.b_Lpick .nil pass0 (pa_cons (pv 0) (pa_cons (pe_lst (pa_cons (pe_tupX pa_nil) (pa_cons (pe_tupX (pa_cons pe_str pa_nil)) (pa_cons (pe_tupX (pa_cons pe_str (pa_cons pe_str (pa_cons pe_str pa_nil)))) pa_nil)))) pa_nil))) pps_nil) rfl rfl (by simp) (by simp)) ⟨by rfl, by rfl, by rfl, by rfl⟩)) (pss_one (ps_ret (pe_callTy (call_dictP rfl) (by rfl) T.z_dict (by decide +kernel) (pa_cons (pe_op op_cat (LiI.pe_listItems rfl (pv 2) (by rfl) T.z_list (by decide +kernel)) (pe_lst (pa_cons (pe_tupX (pa_cons pe_str (pa_cons (pe_ifExp (pt_cmpR op_ne (pe_ix ix_tup (pe_dget (hu_of hr) (pv 1) pe_str (fun _ _ => rfl)) (pe_un un_neg pe_int) (fun _ _ => rfl)) pe_str (nomark _)) pe_int (pe_op op_add pe_int (pc gd G_Ldraw (hr.mono (by decide)) (by rfl) T.m_Ldraw T.F_Ldraw.kp T.b_Ldraw .nil pass0 (pa_cons (pv 0) (pa_cons pe_int pa_nil))))) pa_nil))) pa_nil))) pa_nil))))))), ?_⟩
    have nda : d ≠ a := fun e => by
      obtain ⟨f, hf, _⟩ := hd
      obtain ⟨x, y, hx, _⟩ := hp
      rw [e, hx] at hf
      cases hf
    refine q_asgR (dcat_raw (ks := ruleKs) hp rfl hd (by decide) (by decide) (fun H1 e1 => ew_cons (p := .fails) (fun _ => ev_c) (ep_pickW (us := [.undo, .leave, .wait]) (hp.ex e1) rfl (el_lst (ea_cons (ev_lit (w0 := .undo) rfl) (ea_cons (ev_lit (w0 := .leave) rfl) (ea_cons (ev_lit (w0 := .wait) rfl) ea_nil))) (by show 3 ≤ 100000; omega)) (by decide) (by decide)) fun H2 x2 p2 => ew_cons (p := .holds) (fun _ => ev_c) (ep_of (m := ⟨[], [], [], [], .undo, true, [.lift], 1, true⟩) (ep_holdT (us := [.lift]) (ea_cons (ev_lit (w0 := .lift) rfl) ea_nil) (by decide)) p2) fun H3 x3 p3 => ew_nil p3) (fun ws hw => ?_) fun ws c H1 hw st1 _ => ?_)
    · obtain ⟨v1, l1, _, rfl, h1, v2, l2, _, rfl, h2, rfl⟩ := hw
      exact ⟨fun z _ => ruleKs_mem _, by show 2 ≤ 20; omega⟩
    obtain ⟨v1, l1, _, rfl, h1, v2, l2, _, rfl, rfl, rfl⟩ := hw
    have ncd : d ≠ c := fun e => by
      obtain ⟨f, hf, _⟩ := hd
      have := st1.n
      rw [← e, hf] at this
      cases this
    have hd1 : DictAt K H1 d ruleKs r := hd.exB st1.x nda hp.nt
    have hd1' : ∀ {H2 : Hp}, ExB a H1 H2 → DictAt K H2 d ruleKs r := fun x => hd1.exB x nda st1.p.nt
    refine qupd_raw st1 rfl (by decide) (fun H2 e2 p2 => etp_cons (p := .settles) (fun _ => ev_c) (ep_ev (l := ⟨[], [], [], [], .undo, true, [], 1, !r.settles⟩) p2 (ev_notV (ev_pT rfl (hd1' (ExB.of e2)) (by decide))) fun _ _ => rfl) fun H3 x3 p3 => etp_cons (p := .lift) (fun _ => ev_c) (ep_row p3 rfl ers_lifts (by decide) (by decide) (by decide)) fun H4 x4 p4 => etp_cons (p := .shared) (fun _ => ev_c) (ep_ev (l := ⟨[], [], [], [], .undo, true, [], 1, true⟩) p4 ev_c fun _ _ => rfl) fun H5 x5 p5 => etp_nil p5) (fun ws hw => ?_) fun ws H2 hw st2 keep2 => ?_
    · obtain ⟨v3, l3, _, rfl, h3, v4, l4, _, rfl, h4, v5, l5, _, rfl, h5, rfl⟩ := hw
      exact ⟨fun z _ => ruleKs_mem _, show ([.settles, .lift, .shared] : List Pt).Nodup by decide, by show 3 ≤ 15; omega⟩
    obtain ⟨v3, l3, _, rfl, rfl, v4, l4, _, rfl, h4, v5, l5, _, rfl, rfl, rfl⟩ := hw
    have hd2 := keep2 hd1 nda ncd
    refine qupd_raw st2 rfl (by decide) (fun H3 e3 p3 => etp_cons (p := .move) (fun _ => ev_c) (ep_row (rs := [[], [.set], [.tri, .set, .home]]) p3 rfl (ers_lst (era_cons er_0 (era_cons (er_1 (w1 := .set) rfl) (era_cons (er_3 (w1 := .tri) (w2 := .set) (w3 := .home) rfl rfl rfl) era_nil))) (by decide)) (by decide) (by decide) (by decide)) fun H4 x4 p4 => etp_nil p4) (fun ws hw => ?_) fun ws H3 hw st3 keep3 => ?_
    · obtain ⟨v6, l6, _, rfl, h6, rfl⟩ := hw
      exact ⟨fun z _ => ruleKs_mem _, show ([.move] : List Pt).Nodup by decide, by show 1 ≤ 15; omega⟩
    obtain ⟨v6, l6, _, rfl, h6, rfl⟩ := hw
    have hd3 := keep3 hd2 nda ncd
    have eB : ∀ H4, Ex H3 H4 → EvPt K (tIf (tTest (tOp rNe (tOp (rIxT K) (tDGet (tVar 1) (tC (.str Pt.take.s))) (tUn (rU fun i => .int (-i)) (tC (.int 1)))) (tC (.str (Str.ofString "live"))))) (tC (.int 1)) (tOp (rI0 fun i j => .int (i + j)) (tC (.int 1)) (tCall sp_Ldraw [] E0 (tCons (tVar 0) (tCons (tC (.int 50)) tNil))))) [some (.ref a), some (.ref d), some (.ref c)] H4 a .batch (fun l => 1 ≤ l.batch ∧ l.batch ≤ 50 ∧ pBatch r.take l.batch = true) := fun H4 e4 H5 e5 Q q => by
      obtain ⟨x, hx, hat⟩ := at_last (take_ne ok.t.2.1)
      obtain ⟨v, hv, b', rfl, rb⟩ := ev_part (p := .take) (σ := [some (.ref a), some (.ref d), some (.ref c)]) (i := 1) rfl (hd3.ex (e4.trans e5)) (by decide)
      refine if_raw ((et_test (ev_is (ev_op (ev_op hv (ev_un ev_c ru_neg) (rv_ixT rb.sq hat)) (ev_lit (w0 := .live) rfl) (rv_ne rfl)) (cbl (congrArg _ (wV_eq x .live)))) : EvT _ _ _ (!decide (x = .live))) H5 (Ex.refl H5) _ fun H6 e6 => ?_)
      have p6 := (st3.p.ex (e4.trans e5)).ex e6
      by_cases e : x = .live
      · rw [decide_eq_true e]
        refine op_raw (ev_raw ev_c fun H7 e7 => dr (n := 50) (ea_cons (ev_var rfl) (ea_cons (ev_is ev_c rfl) ea_nil)) (p6.ex e7) (by omega) (by omega) fun H8 j x8 p8 hj => rv_I0 H8 (Ex.refl _) _ fun H9 e9 => ?_)
        have vn : (.int (1 + ((j : Nat) : Int)) : V) = nV (1 + j) := by show V.int _ = V.int _; congr 1
        rw [vn]
        exact q H9 (nV (1 + j)) ⟨[], [], [], [], .undo, true, [], 1 + j, true⟩ (((ExB.of (e6.trans e7)).trans x8).trans (ExB.of e9)) (p8.ex e9) rfl ⟨by show 1 ≤ 1 + j; omega, by show 1 + j ≤ 50; omega, by
          show pBatch r.take (1 + j) = true
          unfold pBatch
          rw [hx, e]
          simp⟩
      · rw [decide_eq_false e]
        exact q H6 (nV 1) ⟨[], [], [], [], .undo, true, [], 1, true⟩ (ExB.of e6) p6 rfl ⟨by show 1 ≤ 1; omega, by show 1 ≤ 50; omega, rfl⟩
    refine s_retR (dcat_raw (ks := ruleKs) st3.p rfl st3.d (by decide) (by decide) (fun H4 e4 => ew_cons (p := .batch) (fun _ => ev_c) (eB H4 e4) fun H5 x5 p5 => ew_nil p5) (fun ws hw => ?_) fun ws c2 H4 hw st4 _ => ?_)
    · obtain ⟨v7, l7, _, rfl, h7, rfl⟩ := hw
      exact ⟨fun z _ => ruleKs_mem _, by show 1 ≤ 20; omega⟩
    obtain ⟨v7, l7, _, rfl, h7, rfl⟩ := hw
    obtain ⟨y1, y2, hy1, _⟩ := id st3.p
    refine q H4 c2 _ (st3.x.trans st4.x) st4.p (st3.x.free hy1 st4.n) st4.d ?_ rfl rfl
    exact ⟨⟨ok.t.1, ok.t.2.1, h7.2.2⟩, ok.g, few_moves h6, lift_ok h4, (by
      show l1.fails ∈ failWs
      exact h1), show ([.lift] : Rw).Sublist kindRows by decide, ⟨h7.1, h7.2.1⟩⟩
end
end My
namespace My
open PySem PySem.Spec PyProof.Rows L2 GL Evl StX SkE
/-! ### trees beside a pot -/
theorem new_hole {C : Addr} {H0 H : Hp} {t a : Addr} {ps st : List Nat} (h : MyT.TreeNew C H0 H t ps st) (hp : PotAt H0 a) : MyT.TreeAt C (MyT.hole a H) t ps st := by
  obtain ⟨dx, la, ls, p, n1, n2, n3⟩ := h
  have m1 := hp.ne n1
  have m2 := hp.ne n2
  have m3 := hp.ne n3
  exact ⟨dx, la, ls, by rw [MyT.hole_ne m1]; exact p.ob, by rw [MyT.hole_ne m2]; exact p.ab, by rw [MyT.hole_ne m3]; exact p.sk⟩
theorem tree_back {C : Addr} {H H' : Hp} {t a : Addr} {ps st : List Nat} (h : MyT.TreeAt C (MyT.hole a H) t ps st) (x : ExB a H H') : MyT.TreeAt C (MyT.hole a H') t ps st := h.ex (MyT.hole_mono x)
theorem tree_now {C : Addr} {H : Hp} {t a : Addr} {ps st : List Nat} (h : MyT.TreeAt C (MyT.hole a H) t ps st) : MyT.TreeAt C H t ps st := h.ex (MyT.hole_ex a H)
def sp_Lright : Sp := fun vs H Q _ => ∃ a, vs = [.ref a] ∧ PotAt H a ∧ ∀ H', ExB a H H' → Q (.bl true) H'
def sp_law (K : PySem.W.Frag) : Sp := fun vs H Q _ => ∃ a, ∃ ns : List Int, vs = [.ref a] ∧ SqL K H a (ns.map V.int) ∧ ns.length ≤ 63 ∧ ∀ H', Q (.bl true) H'
section
variable {P : Program} {w : World} {K : PySem.W.Frag} {mg : Str → Option Value} {base : Heap} {C CT : Addr} {H H' H0 H1 : Hp} {σ : L2.St} {te tb ta tc tl : TE} {tt : TT} {tA : TA} {E Er : XK} {D : Ends} {tz : TS} {a b d t : Addr} {us : Rw} {xs ys : List V} {rs qs : List Rw} {ks : List Pt} {r l : Ru} {p : Pt} {v : V} {Q : VK} {ps st ps' st' : List Nat}
theorem tree2_raw (hp : PotAt H a) (ha : MyT.EvS K ta σ H (ps.map nV)) (hb : MyT.EvS K tb σ H (st.map nV)) (hg : Good ps) (hl : ps.length ≤ 199) (ok : MyT.StOk ps st) (h64 : st.length < 64) (k : ∀ t H1, Ex H H1 → MyT.TreeAt CT (MyT.hole a H1) t ps (MyT.srt st) → Q (.ref t) H1) : tMake CT (MyT.sp_Tinit K CT) [] Er (tCons ta (tCons tb tNil)) σ H Q :=
  ha H (Ex.refl H) _ fun u H2 e2 h2 => hb H2 e2 _ fun b H3 e3 h3 => fun x dx hx hdx hne => MyT.made_tr hx hdx (h2.ex e3) h3 hg hl ok h64 fun H4 e4 hT => k x H4 ((e2.trans e3).trans e4) (new_hole hT (hp.ex (e2.trans e3)))
theorem tree1_raw {d1 : Addr} (hp : PotAt H a) (hd : ∀ H, MyT.Seq K H d1 []) (ha : MyT.EvS K ta σ H (ps.map nV)) (hg : Good ps) (hl : ps.length ≤ 199) (k : ∀ t H1, Ex H H1 → MyT.TreeAt CT (MyT.hole a H1) t ps [] → Q (.ref t) H1) : tMake CT (MyT.sp_Tinit K CT) [.ref d1] Er (tCons ta tNil) σ H Q :=
  ha H (Ex.refl H) _ fun u H2 e2 h2 => fun x dx hx hdx hne => MyT.made_tr (st := []) hx hdx h2 (hd H2) hg hl (MyT.StOk.nil ps) (by decide) fun H4 e4 hT => k x H4 (e2.trans e4) (by
    rw [MyT.srt_nil] at hT
    exact new_hole hT (hp.ex e2))
theorem rv_eqTr (ha : MyT.TreeAt C H a ps st) (hb : MyT.TreeAt C H b ps' st') : RV (rEqOwn K C (MyT.sp_Teq K C) E) (.ref a) (.ref b) H (.bl (decide (ps = ps') && decide (st = st'))) := fun H1 e Q q => by
  obtain ⟨dx, la, ls, z⟩ := id (ha.ex e)
  obtain ⟨dy, la', ls', z'⟩ := id (hb.ex e)
  exact ⟨a, dx, _, rfl, z.ob, .ins z'.ob, .inl ⟨a, b, ps, st, ps', st', rfl, ha.ex e, hb.ex e, fun H4 e4 => ⟨_, rfl, q H4 e4⟩⟩⟩
theorem rv_neB {Er : XK} (ha : BookAt K C H a r) (hb : BookAt K C H b l) : RV (rNeOwn K C (sp_Beq K C) Er) (.ref a) (.ref b) H (.bl (!decide (r = l))) := fun H1 e Q q => by
  obtain ⟨dx, d, z⟩ := id (ha.ex e)
  obtain ⟨dy, d', z'⟩ := id (hb.ex e)
  exact ⟨a, dx, _, rfl, z.ob, .ins z'.ob, .inl ⟨a, b, r, l, rfl, ha.ex e, hb.ex e, fun H4 e4 => ⟨_, rfl, q H4 e4⟩⟩⟩
theorem sv_spotB {u : Addr} {g : Nat} (hb : BookAt K C H b r) (ht : MyT.TreeAt CT H t ps st) (hu : SqL K H u (MyT.upsV ps)) (hd : DictAt K H d ks l) (hk : ∀ p, p ∈ ks) (e1 : l.take = r.take) (e2 : l.give = r.give) (gd : Good ps) (hl : ps.length ≤ 199) (hg : g ≤ ps.length) : SpV (sp_Lspot K C CT) [.ref b, .ref t, .ref u, .ref d, nV g] H (.bl true) := fun H1 e Q q _ =>
  ⟨b, t, u, d, r, l, ks, g, st, ps, rfl, hb.ex e, ht.ex e, ex_l e hu, hd.ex e, hk, e1, e2, gd, hl, hg, q⟩
theorem ups_ne {u : Addr} (hp : PotAt H a) (hu : H u = some (.lst (MyT.upsV ps))) : u ≠ a := fun e => by
  obtain ⟨x, y, hx, _⟩ := id hp
  rw [e, hx] at hu
  exact nomatch (List.cons.inj (HO.lst.inj (Option.some.inj hu))).1
theorem rc_min2 {i j : Int} : RC (fun xs H Q => ∃ i j, xs = [V.int i, V.int j] ∧ Q (.int (if j < i then j else i)) H) [.int i, .int j] H (.int (if j < i then j else i)) := fun H1 _ Q q => ⟨i, j, rfl, q H1 (Ex.refl H1)⟩
theorem ev_rightPot {ta tb : TE} {a : Addr} {ns : List Int} {k : Nat} {Er Er' : XK} (ha : Ev ta σ H (.ref a)) (hb : Ev tb σ H (.int (k : Int))) (hs : SqL K H a (ns.map V.int)) (hl : ns.length ≤ 63) (hk : k < 3) : Ev (tCall sp_Lright [] Er (tCons (tCall (MyT.sp_Lpot K) [] Er' (tCons ta (tCons tb tNil))) tNil)) σ H (.bl true) := fun H1 e Q q =>
  ha H1 e _ fun H2 e2 => hb H2 (e.trans e2) _ fun H3 e3 => ⟨a, ns, k, rfl, ex_l ((e.trans e2).trans e3) hs, hl, hk, fun H4 p hp e4 p4 => ⟨p, rfl, p4, fun H5 x5 => q H5 ((e2.trans e3).trans (ExB.all e4 hp x5))⟩⟩
theorem el_rowUps {n : Nat} (h : Ev te σ H (nV n)) (hn : n ≤ 1000) : EvL (tOp rCat (tLst (tCons (tC .non) tNil)) (tLstRg (tRg1 te))) σ H (MyT.upsV (List.range n)) := MyT.el_cat (xs := [.non]) (el_lst (ea_cons ev_c ea_nil) (by show 1 ≤ 100000; omega)) (fun H9 e9 => MyT.el_rg1 (h.mono e9) hn) (by rw [List.length_map, List.length_range]; show 1 + n ≤ 100000; omega)
theorem all_rep (n : Nat) : (List.replicate n true).all id = true := by
  induction n with
  | zero => rfl
  | succ n ih => exact ih
theorem ok_Tapart {α : Prop} (T : Txt K mg w) (_ : α) : FnG P w K mg base CX0 1 T.f_Tapart T.fd_Tapart ["self", "group", "seen"] sp_never := okG T.F_Tapart sc_Tapart (fun _ _ _ _ h => h.elim) (fun _ _ _ _ _ _ _ _ _ _ h => h.elim)
theorem ok_Lright (T : Txt K mg w) (G_Lups : FnG P w K mg base CX0 2 T.f_Lups T.fd_Lups ["_law_pot_here", "_law_most"] MyT.sp_Lups) (G_Lstruck_ones : FnG P w K mg base CX0 2 T.f_Lstruck_ones T.fd_Lstruck_ones ["_law_pot_here", "_law_ups_here"] sp_Lstruck) (G_Tinit : FnG P w K mg base CX0 3 T.f_Tinit T.fd_Tinit ["self", "parents", "struck"] (MyT.sp_Tinit K T.C_Tree)) (G_Ldraw : FnG P w K mg base CX0 1 T.f_Ldraw T.fd_Ldraw ["_law_pot_here", "_law_sides"] MyT.sp_Ldraw) (G_Lrules : FnG P w K mg base CX0 4 T.f_Lrules T.fd_Lrules ["_law_pot_here", "_law_way", "_law_most"] (sp_Lrules K)) (G_Lbook : FnG P w K mg base CX0 9 T.f_Lbook T.fd_Lbook ["_law_rules_here"] (sp_Lbook K T.C)) (G_Lothers : FnG P w K mg base CX0 5 T.f_Lothers T.fd_Lothers ["_law_pot_here", "_law_rules_here"] (sp_Lothers K)) (G_Lspot_right : FnG P w K mg base CX0 9 T.f_Lspot_right T.fd_Lspot_right ["_law_made", "_law_wood", "_law_ups_here", "_law_rules_here", "_law_spot"] (sp_Lspot K T.C T.C_Tree)) (G_Beq : FnG P w K mg base CX0 1 T.f_Beq T.fd_Beq ["self", "other"] (sp_Beq K T.C)) (G_Teq : FnG P w K mg base CX0 1 T.f_Teq T.fd_Teq ["self", "other"] (MyT.sp_Teq K T.C_Tree)) (G_Tstruck : FnG P w K mg base CX0 1 T.f_Tstruck T.fd_Tstruck ["self"] (MyT.sp_Tstruck T.C_Tree)) : FnG P w K mg base CX0 12 T.f_Lright T.fd_Lright ["_law_pot_here"] sp_Lright := by
  refine okG T.F_Lright sc_Lright (fun vs H Q E h => ?_) (fun cdv A outer s H vs Q E gd hr h => ?_)
  · obtain ⟨_, rfl, _⟩ := h
    all_goals rfl
  · obtain ⟨a, rfl, hp, q⟩ := h
    refine ⟨_, (pss_cons (ps_set (i := 1) sc_Lright.nd rfl (Or.inl rfl) (pc gd G_Lups (hr.mono (by decide)) (by rfl) T.m_Lups T.F_Lups.kp T.b_Lups .nil pass0 (pa_cons (pv 0) (pa_cons pe_int pa_nil)))) (pss_cons (ps_set (i := 2) sc_Lright.nd rfl (Or.inl rfl) (pc gd G_Lstruck_ones (hr.mono (by decide)) (by rfl) T.m_Lstruck_ones T.F_Lstruck_ones.kp T.b_Lstruck_ones .nil pass0 (pa_cons (pv 0) (pa_cons (pv 1) pa_nil)))) (pss_cons (ps_par (i := 3) (j := 4) rfl sc_Lright.nd rfl rfl (by decide) rfl rfl (pa_cons (pk gd T.mk_Tree G_Tinit (hr.mono (by decide)) (by rfl) T.m_Tree T.b2_Tinit T.v2_Tinit pass0 (pa_cons (pe_slice sl_list (pv 1) (po_some pe_int) po_none) (pa_cons (pv 2) pa_nil))) (pa_cons (pk gd T.mk_Tree G_Tinit (hr.mono (by decide)) (by rfl) T.m_Tree T.b1_Tinit T.v1_Tinit pass0 (pa_cons (pe_slice sl_list (pv 1) (po_some pe_int) po_none) pa_nil)) pa_nil)) (by rfl)) (pss_cons (ps_set (i := 6) sc_Lright.nd rfl (Or.inl rfl) (pe_op op_cat (pe_lst (pa_cons pe_non pa_nil)) (pe_lc (own := [("_law_spot", 5)]) (g := gName 5) rfl sc_Lright.nd (pi_range2 (by rfl) T.z_range (pa_cons pe_int (pa_cons (pe_callB call_len_seq (by rfl) T.z_len PySem.boot_len (pa_cons (pv 1) pa_nil)) pa_nil))) (blkOk_by (N := N_Lright) (sc := defScope s_Lright) (by decide +kernel)) (fun _ _ _ _ _ => (pg_name (i := 5) sc_Lright.nd rfl (Or.inl rfl) (Or.inr rfl))) (fun _ _ _ _ _ => pts_nil) (fun _ _ _ _ _ => (pc gd G_Ldraw (hr.mono (by decide)) (by rfl) T.m_Ldraw T.F_Ldraw.kp T.b_Ldraw .nil pass0 (pa_cons (pv 0) (pa_cons (pv 5) pa_nil))))))) (pss_cons (ps_par (i := 7) (j := 8) rfl sc_Lright.nd rfl rfl (by decide) rfl rfl (pa_cons (pk gd T.mk_Tree G_Tinit (hr.mono (by decide)) (by rfl) T.m_Tree T.b1_Tinit T.v1_Tinit pass0 (pa_cons (pe_slice sl_list (pv 6) (po_some pe_int) po_none) pa_nil)) (pa_cons (pe_op op_cat (pe_lst (pa_cons pe_non pa_nil)) (pe_listRg rfl (by rfl) T.z_list (prg_1 (by rfl) T.z_range pe_int))) pa_nil)) (by rfl)) (pss_cons (ps_for PassesOwn.never rfl (pi_range1 (by rfl) T.z_range (pa_cons pe_int pa_nil)) (pg_name (i := 9) sc_Lright.nd rfl (Or.inl rfl) (Or.inr rfl)) (pss_cons (ps_set (i := 10) sc_Lright.nd rfl (Or.inl rfl) (pc gd G_Lrules (hr.mono (by decide)) (by rfl) T.m_Lrules T.F_Lrules.kp T.b_Lrules .nil pass0 (pa_cons (pv 0) (pa_cons (pc gd G_Ldraw (hr.mono (by decide)) (by rfl) T.m_Ldraw T.F_Ldraw.kp T.b_Ldraw .nil pass0 (pa_cons (pv 0) (pa_cons pe_int pa_nil))) (pa_cons pe_int pa_nil))))) (pss_cons (ps_par (i := 11) (j := 12) rfl sc_Lright.nd rfl rfl (by decide) rfl rfl (pa_cons (pc gd G_Lbook (hr.mono (by decide)) (by rfl) T.m_Lbook T.F_Lbook.kp T.b_Lbook .nil pass0 (pa_cons (pv 10) pa_nil)) (pa_cons (pc gd G_Lbook (hr.mono (by decide)) (by rfl) T.m_Lbook T.F_Lbook.kp T.b_Lbook .nil pass0 (pa_cons (pc gd G_Lothers (hr.mono (by decide)) (by rfl) T.m_Lothers T.F_Lothers.kp T.b_Lothers .nil pass0 (pa_cons (pv 0) (pa_cons (pv 10) pa_nil))) pa_nil)) pa_nil)) (by rfl)) (pss_cons (ps_for PassesOwn.never rfl (pi_range1 (by rfl) T.z_range (pa_cons (pe_callB call_len_seq (by rfl) T.z_len PySem.boot_len (pa_cons (pv 1) pa_nil)) pa_nil)) (pg_name (i := 5) sc_Lright.nd rfl (Or.inl rfl) (Or.inr rfl)) (pss_cons (ps_if ((pw_or (pt_not (pt_val (pc gd G_Lspot_right (hr.mono (by decide)) (by rfl) T.m_Lspot_right T.F_Lspot_right.kp T.b_Lspot_right .nil pass0 (pa_cons (pv 11) (pa_cons (pv 3) (pa_cons (pv 1) (pa_cons (pv 10) (pa_cons (pv 5) pa_nil)))))))) (pw_or1 (pt_not (pt_val (pc gd G_Lspot_right (hr.mono (by decide)) (by rfl) T.m_Lspot_right T.F_Lspot_right.kp T.b_Lspot_right .nil pass0 (pa_cons (pv 12) (pa_cons (pv 4) (pa_cons (pv 1) (pa_cons (pv 10) (pa_cons (pv 5) pa_nil))))))))))).pt (pss_one (ps_ret pe_bl)) pss_nil) (pss_cons (ps_if (pt_not (pt_val (pc gd G_Lspot_right (hr.mono (by decide)) (by rfl) T.m_Lspot_right T.F_Lspot_right.kp T.b_Lspot_right .nil pass0 (pa_cons (pv 11) (pa_cons (pv 7) (pa_cons (pv 6) (pa_cons (pv 10) (pa_cons (pv 5) pa_nil)))))))) (pss_one (ps_ret pe_bl)) pss_nil) (pss_one (ps_if (pt_not (pt_val (pc gd G_Lspot_right (hr.mono (by decide)) (by rfl) T.m_Lspot_right T.F_Lspot_right.kp T.b_Lspot_right .nil pass0 (pa_cons (pv 11) (pa_cons (pv 3) (pa_cons (pv 1) (pa_cons (pv 10) (pa_cons (pv 5) pa_nil)))))))) (pss_one (ps_ret pe_bl)) pss_nil))))) (pss_one (ps_if (pt_cmpR (op_neOwn gd G_Beq (hr.mono (by decide)) (roomU hr) T.b_Beq T.M_Beq.at_ T.M_Beq.fn T.x_ne T.x_mro pass0) (pv 11) (pc gd G_Lbook (hr.mono (by decide)) (by rfl) T.m_Lbook T.F_Lbook.kp T.b_Lbook .nil pass0 (pa_cons (pv 10) pa_nil)) (nomark _)) (pss_one (ps_ret pe_bl)) pss_nil)))))) (pss_cons (ps_if (pt_not (pt_val (pc gd G_Lspot_right (hr.mono (by decide)) (by rfl) T.m_Lspot_right T.F_Lspot_right.kp T.b_Lspot_right .nil pass0 (pa_cons (pv 11) (pa_cons (pk gd T.mk_Tree G_Tinit (hr.mono (by decide)) (by rfl) T.m_Tree T.b1_Tinit T.v1_Tinit pass0 (pa_cons (pe_slice sl_list (pv 8) (po_some pe_int) po_none) pa_nil)) (pa_cons (pv 8) (pa_cons (pv 10) (pa_cons pe_int pa_nil)))))))) (pss_one (ps_ret pe_bl)) pss_nil) (pss_one (ps_ret (pe_and (pe_cmpR (op_eqOwn gd G_Teq (hr.mono (by decide)) (roomU hr) T.b_Teq T.M_Teq.at_ T.M_Teq.fn pass0) (pv 3) (pk gd T.mk_Tree G_Tinit (hr.mono (by decide)) (by rfl) T.m_Tree T.b2_Tinit T.v2_Tinit pass0 (pa_cons (pe_slice sl_list (pv 1) (po_some pe_int) po_none) (pa_cons (pv 2) pa_nil))) (nomark _)) (pe_one (pe_cmpR (op_eqD (roomU hr)) (pm0 gd (pv 4) T.c_Tree T.M_Tstruck G_Tstruck (hr.mono (by decide)) T.b_Tstruck .nil pass0) (pe_lst pa_nil) (nomark _))))))))))))), ?_⟩
    have d1 : ∀ H, MyT.Seq K H T.d1_Tinit [] := fun H => MyT.Seq.kst (fun H => T.e1_Tinit H) (fun H => T.y1_Tinit H)
    refine q_asgR ((ea_cons (ev_var rfl) (ea_cons ev_c ea_nil) : EvA _ _ _ [.ref a, nV 9]) H (Ex.refl H) _ fun H0 e0 => ⟨a, 9, rfl, hp.ex e0, by omega, fun H1 u ps hu0 x1 p1 hu1 gd1 l9 => ?_⟩)
    have x01 : ExB a H H1 := (ExB.of e0).trans x1
    have p1' : PotAt H1 a := p1
    have nua := ups_ne p1' hu1
    refine q_asgR ((ea_cons (ev_var rfl) (ea_cons (ev_var rfl) ea_nil) : EvA _ _ _ [.ref a, .ref u]) H1 (Ex.refl H1) _ fun H2 e2 => ⟨a, u, ps, rfl, p1'.ex e2, e2 _ _ hu1, gd1, by omega, fun H3 s st hs0 x3 p3 hs3 ok => ?_⟩)
    have x03 : ExB a H H3 := (x01.trans (ExB.of e2)).trans x3
    have nsa := (p1'.ex e2).ne hs0
    have hu3 := x3 _ _ nua (e2 _ _ hu1)
    have lst := ok.len
    refine q_parR (cons_rw (tree2_raw p3 (MyT.es_l (MyT.el_tail (sq_of hu3) (ev_var rfl))) (MyT.es_v (ev_var rfl) (.lst hs3)) gd1 (by omega) ok (by omega) fun tw H4 e4 hw => cons1_raw (tree1_raw (p3.ex e4) d1 (MyT.es_l (MyT.el_tail (sq_of (e4 _ _ hu3)) (ev_var rfl))) gd1 (by omega) fun tb H5 e5 hb => ⟨_, _, rfl, ?_⟩)))
    have hw5 := tree_back hw (ExB.of e5)
    have e45 := e4.trans e5
    have p5 := p3.ex e45
    have hu5 := e45 _ _ hu3
    have hs5 := e45 _ _ hs3
    have x05 := x03.trans (ExB.of e45)
    -- a second tree of as many groups
    refine q_asgR (op_raw (el_raw (el_lst (ea_cons ev_c ea_nil) (by show 1 ≤ 100000; omega)) fun f0 H6 hf0 e6 hf6 => MyT.lc_R2 (lo := 1) (n := ((ps.length + 1 : Nat) : Int)) (fun Dl i G => ∃ qs : List Nat, ExB a H6 G ∧ PotAt G a ∧ G Dl = some (.lst (qs.map nV)) ∧ qs.length = i ∧ Good qs ∧ H6 Dl = none ∧ Dl ≠ a) (ea_cons ev_c (ea_cons (ev_is (ev_len (ev_var rfl) (sq_of (e6 _ _ hu5))) (by rw [MyT.upsV_len])) ea_nil)) (by omega) (fun G Dl eG hD => ⟨[], (ExB.of eG).mut (fresh_back eG hD), ((p5.ex e6).ex eG).ex (Ex.new hD), upd_same, rfl, Good.nil, fresh_back eG hD, ((p5.ex e6).ex eG).ne hD⟩) (fun Dl i G hi z => ?_) (fun Dl G z => ?_)))
    · obtain ⟨qs, z1, z2, z3, z4, z5, z6, z7⟩ := z
      refine ⟨rfl, yes_raw ?_⟩
      have vn : (.int (1 + ((i : Nat) : Int)) : V) = nV (i + 1) := by show V.int _ = V.int _; congr 1; omega
      refine dr (n := i + 1) (ea_cons (ev_var rfl) (ea_cons (ev_is (ev_var rfl) vn) ea_nil)) z2 (by omega) (by omega) fun G2 j x2 p2 hj => ⟨qs.map nV, x2 _ _ z7 z3, by rw [List.length_map, sizeLine_eq]; omega, qs ++ [j], (z1.trans x2).mut z6, p2.exB ExB.set z7.symm, ?_, by rw [List.length_append, z4]; rfl, ?_, z6, z7⟩
      · rw [upd_same, List.map_append]
        rfl
      · exact z5.snoc (by omega)
    obtain ⟨qs, z1, z2, z3, z4, z5, z6, z7⟩ := z
    have lq : qs.length = ps.length := by omega
    have nf0 : f0 ≠ a := p5.ne hf0
    refine ⟨f0, Dl, [.non], qs.map nV, rfl, rfl, z1 _ _ nf0 hf6, z3, by rw [List.length_map, sizeLine_eq]; show 1 + _ ≤ _; omega, fun fu hfu => ?_⟩
    have x07 : ExB a H (upd G fu (.lst ([.non] ++ qs.map nV))) := ((x05.trans (ExB.of e6)).trans z1).trans (ExB.of (Ex.new hfu))
    have x57 : ExB a H5 (upd G fu (.lst ([.non] ++ qs.map nV))) := ((ExB.of e6).trans z1).trans (ExB.of (Ex.new hfu))
    have p7 : PotAt (upd G fu (.lst ([.non] ++ qs.map nV))) a := z2.ex (Ex.new hfu)
    have hf7 : (upd G fu (.lst ([.non] ++ qs.map nV))) fu = some (.lst (MyT.upsV qs)) := upd_same
    show tSeq _ _ _ [some (.ref a), some (.ref u), some (.ref s), some (.ref tw), some (.ref tb), none, some (.ref fu), none, none, none, none, none, none] (upd G fu (.lst ([.non] ++ qs.map nV)))
    generalize upd G fu (.lst ([.non] ++ qs.map nV)) = H7 at x07 x57 p7 hf7
    refine q_parR (cons_rw (tree1_raw p7 d1 (MyT.es_l (MyT.el_tail (sq_of hf7) (ev_var rfl))) z5 (by omega) fun tf H8 e8 hT8 => cons1_raw (el_rowUps (n := 199) ev_c (by omega) H8 (Ex.refl H8) _ fun ru H9 hru e9 hr9 => ⟨_, _, rfl, ?_⟩)))
    have e79 := e8.trans e9
    have x59 := x57.trans (ExB.of e79)
    have p9 := p7.ex e79
    have x09 := x07.trans (ExB.of e79)
    have hw9 := tree_back hw5 x59
    have hb9 := tree_back hb x59
    have hf9 := tree_back hT8 (ExB.of e9)
    have hu9 := x59 _ _ nua hu5
    have hs9 := x59 _ _ nsa hs5
    have hfu9 := e79 _ _ hf7
    have nfa := ups_ne p7 hf7
    have nra := ups_ne p9 hr9
    obtain ⟨ws, hws⟩ : ∃ ws, ws = List.range 199 := ⟨_, rfl⟩
    rw [← hws] at hr9
    have gw : Good ws := by
      rw [hws]
      exact Good.range _
    have lw : ws.length = 199 := by
      rw [hws]
      exact List.length_range
    -- books and their plans
    refine q_forR1 (n := 4) (ea_cons ev_c ea_nil) (by omega) (fun k σ' G => ∃ x5 x9 x10 x11 x12, σ' = [some (.ref a), some (.ref u), some (.ref s), some (.ref tw), some (.ref tb), x5, some (.ref fu), some (.ref tf), some (.ref ru), x9, x10, x11, x12] ∧ ExB a H9 G ∧ PotAt G a ∧ (1 ≤ k → ∃ d b r, x10 = some (.ref d) ∧ x11 = some (.ref b) ∧ DictAt K G d ruleKs r ∧ BookAt K T.C G b r)) (fun G e => ⟨_, _, _, _, _, rfl, ExB.of e, p9.ex e, fun h => absurd h (by omega)⟩) (fun k σ' G hk z => ?_) (fun σ' G z => ?_)
    · obtain ⟨x5, x9, x10, x11, x12, rfl, z1, z2, _⟩ := z
      refine q_asgR (cons_raw (ev_var rfl) fun G1 g1 => cons_rw (dr (n := 3) (ea_cons (ev_var rfl) (ea_cons (ev_is ev_c rfl) ea_nil)) (z2.ex g1) (by omega) (by omega) fun G2 i y2 p2 hi => cons1_raw (ev_raw (v := nV 50) (ev_is ev_c rfl) fun G3 g3 => ⟨a, i, 50, rfl, p2.ex g3, by omega, by omega, fun G4 d r y4 p4 hd0 hd4 okr => ?_⟩)))
      have y04 : ExB a H9 G4 := (z1.trans (((ExB.of g1).trans y2).trans (ExB.of g3))).trans y4
      have nda := (p2.ex g3).ne hd0
      have hdx : ∀ {G5 : Hp}, ExB a G4 G5 → DictAt K G5 d ruleKs r := fun y => hd4.exB y nda p4.nt
      refine q_parR (cons_rw (cons1_raw (te := tVar 10) (ev_raw (ev_var rfl) fun G5 g5 => ⟨d, ruleKs, r, rfl, hd4.ex g5, ruleKs_mem, okr, fun G6 b hb0 g6 hB6 => ?_⟩)))
      have g46 := g5.trans g6
      refine cons1_raw (te := tCall (sp_Lbook K T.C) [] E0 (tCons (tCall (sp_Lothers K) [] E0 (tCons (tVar 0) (tCons (tVar 10) tNil))) tNil)) (cons1_raw (te := tCall (sp_Lothers K) [] E0 (tCons (tVar 0) (tCons (tVar 10) tNil))) ((ea_cons (ev_var rfl) (ea_cons (ev_var rfl) ea_nil) : EvA _ _ _ [.ref a, .ref d]) G6 (Ex.refl G6) _ fun G7 g7 => ⟨a, d, r, rfl, (p4.ex g46).ex g7, hd4.ex (g46.trans g7), okr, fun G8 c l y8 p8 hc0 hc8 okl et eg => ⟨c, ruleKs, l, rfl, hc8, ruleKs_mem, okl, fun G9 m hm0 g9 hM9 => ⟨_, _, rfl, ?_⟩⟩⟩))
      have y49 : ExB a G4 G9 := ((ExB.of (g46.trans g7)).trans y8).trans (ExB.of g9)
      have y09 := y04.trans y49
      have p9' : PotAt G9 a := p8.ex g9
      have hd9 := hdx y49
      obtain ⟨yp, yq, hpa, _⟩ := id (p4.ex (g46.trans g7))
      have hB9 : BookAt K T.C G9 b r := ((hB6.at.ex g7).exL y8 hpa).ex g9
      have hM : BookAt K T.C G9 m l := hM9.at
      have trees : ∀ {G : Hp}, ExB a H9 G → MyT.TreeAt T.C_Tree G tw ps (MyT.srt st) ∧ MyT.TreeAt T.C_Tree G tb ps [] ∧ MyT.TreeAt T.C_Tree G tf qs [] ∧ SqL K G u (MyT.upsV ps) ∧ SqL K G fu (MyT.upsV qs) := fun y => ⟨tree_now (tree_back hw9 y), tree_now (tree_back hb9 y), tree_now (tree_back hf9 y), sq_of (y _ _ nua hu9), sq_of (y _ _ nfa hfu9)⟩
      refine q_forR1 (n := ((ps.length + 1 : Nat) : Int)) (ea_cons (ev_is (ev_len (ev_var rfl) (trees y09).2.2.2.1) (by rw [MyT.upsV_len])) ea_nil) (by omega) (fun j σ' G => ∃ x5', σ' = [some (.ref a), some (.ref u), some (.ref s), some (.ref tw), some (.ref tb), x5', some (.ref fu), some (.ref tf), some (.ref ru), some (.int (k : Int)), some (.ref d), some (.ref b), some (.ref m)] ∧ Ex G9 G) (fun G e => ⟨_, rfl, e⟩) (fun j σ' G hj z => ?_) (fun σ' G z => ?_)
      · obtain ⟨x5', rfl, e⟩ := z
        have tr : ∀ {G' : Hp}, Ex G G' → _ := fun e' => trees (y09.trans (ExB.of (e.trans e')))
        have hj' : j ≤ ps.length := by omega
        have one : ∀ {G' : Hp}, Ex G G' → SpV (sp_Lspot K T.C T.C_Tree) [.ref b, .ref tw, .ref u, .ref d, nV j] G' (.bl true) := fun e' => sv_spotB (hB9.ex (e.trans e')) (tr e').1 (tr e').2.2.2.1 (hd9.ex (e.trans e')) ruleKs_mem rfl rfl gd1 (by omega) hj'
        have two : ∀ {G' : Hp}, Ex G G' → SpV (sp_Lspot K T.C T.C_Tree) [.ref m, .ref tb, .ref u, .ref d, nV j] G' (.bl true) := fun e' => sv_spotB (hM.ex (e.trans e')) (tr e').2.1 (tr e').2.2.2.1 (hd9.ex (e.trans e')) ruleKs_mem et.symm eg.symm gd1 (by omega) hj'
        have far : ∀ {G' : Hp}, Ex G G' → SpV (sp_Lspot K T.C T.C_Tree) [.ref b, .ref tf, .ref fu, .ref d, nV j] G' (.bl true) := fun e' => sv_spotB (hB9.ex (e.trans e')) (tr e').2.2.1 (tr e').2.2.2.2 (hd9.ex (e.trans e')) ruleKs_mem rfl rfl z5 (by omega) (by omega)
        refine q_when (b := false) (et_or (a := false) (b := false) (et_is (et_not (a := true) (et_B (ev_call (vs := [.ref b, .ref tw, .ref u, .ref d, nV j]) (ea_cons (ev_var rfl) (ea_cons (ev_var rfl) (ea_cons (ev_var rfl) (ea_cons (ev_var rfl) (ea_cons (ev_var rfl) ea_nil))))) (one (Ex.refl G))))) rfl) fun _ => et_is (et_not (a := true) (et_B (ev_call (vs := [.ref m, .ref tb, .ref u, .ref d, nV j]) (ea_cons (ev_var rfl) (ea_cons (ev_var rfl) (ea_cons (ev_var rfl) (ea_cons (ev_var rfl) (ea_cons (ev_var rfl) ea_nil))))) (two (Ex.refl G))))) rfl) (fun z => nomatch z) fun _ Ga ga => ?_
        refine q_when (b := false) (et_is (et_not (a := true) (et_B (ev_call (vs := [.ref b, .ref tf, .ref fu, .ref d, nV j]) (ea_cons (ev_var rfl) (ea_cons (ev_var rfl) (ea_cons (ev_var rfl) (ea_cons (ev_var rfl) (ea_cons (ev_var rfl) ea_nil))))) (far ga)))) rfl) (fun z => nomatch z) fun _ Gb gb => ?_
        exact s_when (b := false) (et_is (et_not (a := true) (et_B (ev_call (vs := [.ref b, .ref tw, .ref u, .ref d, nV j]) (ea_cons (ev_var rfl) (ea_cons (ev_var rfl) (ea_cons (ev_var rfl) (ea_cons (ev_var rfl) (ea_cons (ev_var rfl) ea_nil))))) (one (ga.trans gb))))) rfl) (fun z => nomatch z) fun _ Gc gc => ⟨_, rfl, e.trans ((ga.trans gb).trans gc)⟩
      · obtain ⟨x5', rfl, e⟩ := z
        dsimp only
        refine s_when (b := false) (et_test fun Ga ga Q2 q2 => op_raw (ev_raw (ev_var (v := .ref b) rfl) fun Gb gb => cons1_raw (te := tVar 10) (ev_raw (ev_var (v := .ref d) rfl) fun Gc gc => ⟨d, ruleKs, r, rfl, hd9.ex (e.trans ((ga.trans gb).trans gc)), ruleKs_mem, okr, fun Gd b2 hb2 gd2 hB2 => ?_⟩))) (fun z => nomatch z) fun _ Ga ga => ⟨_, _, _, _, _, rfl, y09.trans (ExB.of (e.trans ga)), p9'.ex (e.trans ga), fun _ => ⟨d, b, r, rfl, rfl, hd9.ex (e.trans ga), hB9.ex (e.trans ga)⟩⟩
        have gad := (gb.trans gc).trans gd2
        have ne := rv_neB (K := K) (C := T.C) (Er := E0) (hB9.ex (e.trans (ga.trans gad))) hB2.at
        rw [decide_eq_true rfl] at ne
        exact ne Gd (Ex.refl Gd) Q2 fun Ge ge => q2 Ge (gad.trans ge)
    · obtain ⟨x5, x9, x10, x11, x12, rfl, z1', z2', z3'⟩ := z
      obtain ⟨d, b, r, rfl, rfl, hd, hB⟩ := z3' (by decide)
      have hr10 : G ru = some (.lst (MyT.upsV ws)) := z1' _ _ nra hr9
      refine q_when (b := false) (et_is (et_not (a := true) (et_B fun Ga ga Q2 q2 => ?_)) rfl) (fun z => nomatch z) fun _ G1 g1 => ?_
      · refine cons_raw (ev_var (v := .ref b) rfl) fun Gb gb => cons_rw (tree1_raw (z2'.ex (ga.trans gb)) d1 (MyT.es_l (MyT.el_tail (ps := ws) (sq_of ((ga.trans gb) _ _ hr10)) (ev_var rfl))) gw (by omega) fun t Gc gc hT => cons_raw (ev_var (v := .ref ru) rfl) fun Gd gd' => cons_raw (ev_var (v := .ref d) rfl) fun Ge ge => cons1_raw (ev_raw (v := nV 199) (ev_is ev_c rfl) fun Gf gf => ?_))
        have gcf := (gd'.trans ge).trans gf
        have gaf := (gb.trans gc).trans gcf
        exact sv_spotB (hB.ex (ga.trans gaf)) ((tree_now hT).ex gcf) (sq_of ((ga.trans gaf) _ _ hr10)) (hd.ex (ga.trans gaf)) ruleKs_mem rfl rfl gw (by omega) (by omega) Gf (Ex.refl Gf) Q2 (fun Gz gz => q2 Gz (gaf.trans gz)) E0
      · have x1 := z1'.trans (ExB.of g1)
        have hw1 := tree_back hw9 x1
        have hb1 := tree_now (tree_back hb9 x1)
        have p1'' := z2'.ex g1
        have hu1' := x1 _ _ nua hu9
        have hs1' := x1 _ _ nsa hs9
        obtain ⟨dt, la, ls, pt⟩ := id hb1
        refine s_ret (ev_is (ev_andV (a := true) (b := true) (fun Ga ga Q2 q2 => op_raw (ev_raw (ev_var (v := .ref tw) rfl) fun Gb gb => tree2_raw (p1''.ex (ga.trans gb)) (MyT.es_l (MyT.el_tail (sq_of ((ga.trans gb) _ _ hu1')) (ev_var rfl))) (MyT.es_v (ev_var rfl) (.lst ((ga.trans gb) _ _ hs1'))) gd1 (by omega) ok (by omega) fun t Gc gc hT => ?_)) fun _ => ev_is (MyT.ev_eqE (e := .list []) (MyT.ed_n (l := []) (MyT.el_meth (ev_var rfl) pt.ob (MyT.tf_no la ls (by decide +kernel) (by decide +kernel)) ea_nil (MyT.sl_struck hb1))) (MyT.ed_lst MyT.eda_nil (by decide)) (MyT.shaped_nats []) (MyT.shaped_nats [])) (cbl ?_)) rfl) fun G2 g2 => q G2 ((x09.trans x1).trans (ExB.of g2))
        · have eq := rv_eqTr (K := K) (E := E0) (C := T.C_Tree) ((tree_now hw1).ex (ga.trans (gb.trans gc))) (tree_now hT)
          rw [decide_eq_true rfl, decide_eq_true rfl] at eq
          exact eq Gc (Ex.refl Gc) Q2 fun Gd gd' => q2 Gd ((gb.trans gc).trans gd')
        · show PyData.eqv (.list []) (.list []) = true
          simp only [PyData.eqv, PyData.eqvAll]
theorem ok_law (T : Txt K mg w) (G_Lright : FnG P w K mg base CX0 12 T.f_Lright T.fd_Lright ["_law_pot_here"] sp_Lright) (G_Lpot : FnG P w K mg base CX0 1 T.f_Lpot T.fd_Lpot ["_law_script", "_law_k"] (MyT.sp_Lpot K)) : FnG P w K mg base CX0 13 T.f_law T.fd_law ["_law_script"] (sp_law K) := by
  refine okG T.F_law sc_law (fun vs H Q E h => ?_) (fun cdv A outer s H vs Q E gd hr h => ?_)
  · obtain ⟨_, _, rfl, _⟩ := h
    all_goals rfl
  · obtain ⟨a, ns, rfl, hs, hl, q⟩ := h
    refine ⟨_, (pss_one (ps_ret (pe_callB (cr_all rfl) (by rfl) T.z_all boot_all (pa_cons (pe_lc (own := [("_law_k", 1)]) (g := gName 1) rfl sc_law.nd (pi_range1 (by rfl) T.z_range (pa_cons (pe_callB (call_max2 rfl) (by rfl) T.z_max boot_max (pa_cons pe_int (pa_cons (pe_callB (call_min2 rfl) (by rfl) T.z_min boot_min (pa_cons (pe_callB call_len_seq (by rfl) T.z_len PySem.boot_len (pa_cons (pv 0) pa_nil)) (pa_cons pe_int pa_nil))) pa_nil))) pa_nil)) (blkOk_by (N := N_law) (sc := defScope s_law) (by decide +kernel)) (fun _ _ _ _ _ => (pg_name (i := 1) sc_law.nd rfl (Or.inl rfl) (Or.inr rfl))) (fun _ _ _ _ _ => pts_nil) (fun _ _ _ _ _ => (pc gd G_Lright (hr.mono (by decide)) (by rfl) T.m_Lright T.F_Lright.kp T.b_Lright .nil pass0 (pa_cons (pc gd G_Lpot (hr.mono (by decide)) (by rfl) T.m_Lpot T.F_Lpot.kp T.b_Lpot .nil pass0 (pa_cons (pv 0) (pa_cons (pv 1) pa_nil))) pa_nil)))) pa_nil)))), ?_⟩
    have hn : ∃ n : Nat, n ≤ 3 ∧ Ev (tCB (fun xs H Q => ∃ i j, xs = [V.int i, V.int j] ∧ Q (.int (if j > i then j else i)) H) (tCons (tC (.int 1)) (tCons (tCB (fun xs H Q => ∃ i j, xs = [V.int i, V.int j] ∧ Q (.int (if j < i then j else i)) H) (tCons (tCB (rLenS K) (tCons (tVar 0) tNil)) (tCons (tC (.int 3)) tNil))) tNil))) [some (.ref a), none] H (nV n) := by
      refine ⟨if ns.length < 3 then max 1 ns.length else 3, by split <;> omega, ev_is (ev_cb (ea_cons ev_c (ea_cons (ev_cb (ea_cons (ev_cb (ea_cons (ev_var rfl) ea_nil) (rc_lenL hs)) (ea_cons ev_c ea_nil)) rc_min2) ea_nil)) rc_max2) (congrArg V.int ?_)⟩
      rw [List.length_map]
      split <;> split <;> split <;> omega
    obtain ⟨n, hn2, hev⟩ := hn
    refine s_ret (v := .bl true) (ev_is (ev_allB (bs := List.replicate n true) (el_is (el_lcR1 (n := (n : Int)) (fun _ => true) (fun _ => .bl true) (ea_cons hev ea_nil) (by omega) (fun _ => rfl) (fun i H3 e3 hi => et_yes) (fun i H3 e3 hi _ => ev_rightPot (ev_var rfl) (ev_var rfl) (ex_l e3 hs) hl (by omega))) (by
      rw [given_all, Int.toNat_natCast, List.map_replicate]
      refine List.ext_getElem (by simp) fun i h1 h2 => ?_
      simp))) (cbl (all_rep n))) fun H2 e2 => q H2
end
end My
/-! the head by one observation: facts of the heap behind the top, each a Bool -/
namespace HK
open PySem PySem.Spec PyProof.Rows L2 He
abbrev At : Type := Str × Option Str
abbrev Al : Type := Bool × List FnW × List (Option (List (Option (Str × Int))))
def obsK (at_ : List At) (ts : List Tab) (ex : List (PySem.W.Frag → Bool)) (K : PySem.W.Frag) : Al := (ex.all fun b => b K, at_.map (fnW K), ts.map fun t => dicW K (t.1 K))
def obsM (as : List Addr) (at_ : List At) (ts : List Tab) (ex : List (PySem.W.Frag → Bool)) (g : Addr → Option Obj) : Al := obsK at_ ts ex (frT g as)
def valM (fv : List FnW) (ts : List Tab) (w : World) : Al := (true, fv, ts.map fun t => some (keysIn w.params t.2))
/-- what is told -/
def Says (at_ : List At) (fv : List FnW) (ts : List Tab) (ex : List (PySem.W.Frag → Bool)) (w : World) (K : PySem.W.Frag) : Prop := obsK at_ ts ex K = valM fv ts w
def hook (as : List Addr) (at_ : List At) (fv : List FnW) (ts : List Tab) (ex : List (PySem.W.Frag → Bool)) : PySem.W.Hook where
  α := Al
  obs := fun s => obsM as at_ ts ex s.heap.get?
  val := fun w => valM fv ts w
  says := fun w h => ∃ K : PySem.W.Frag, K.In h ∧ Says at_ fv ts ex w K
  of := fun _ _ e => ⟨_, frT_in, e⟩
  keeps := fun _ _ _ ⟨K, hK, c⟩ k => ⟨K, PySem.W.Frag.In.keeps hK k, c⟩
theorem obs_eq {as : List Addr} {at_ : List At} {fv : List FnW} {ts : List Tab} {ex : List (PySem.W.Frag → Bool)} {g : Addr → Option Obj} {s : Shared} (h : ∀ a, g a = s.heap.get? a) : obsM as at_ ts ex g = (hook as at_ fv ts ex).obs s := by
  have e : g = s.heap.get? := funext h
  rw [e] <;> rfl
section
variable {at_ : List At} {fv : List FnW} {ts : List Tab} {ex : List (PySem.W.Frag → Bool)} {w : World} {K : PySem.W.Frag}
theorem Says.fact (c : Says at_ fv ts ex w K) (i : Nat) {b : PySem.W.Frag → Bool} (h : ex[i]? = some b := by rfl) : b K = true := by
  have c1 : (ex.all fun b => b K) = true := congrArg (fun z : Al => z.1) c
  exact List.all_eq_true.mp c1 b (List.mem_of_getElem? h)
theorem Says.fn (c : Says at_ fv ts ex w K) (i : Nat) {p : At} {v : FnW} (h : at_[i]? = some p := by rfl) (hv : fv[i]? = some v := by rfl) : fnW K p = v := by
  have e : at_.map (fnW K) = fv := congrArg (fun z : Al => z.2.1) c
  have e2 : (at_.map (fnW K))[i]? = fv[i]? := by rw [e]
  rw [List.getElem?_map, h, hv] at e2
  exact Option.some.inj e2
theorem Says.tab (c : Says at_ fv ts ex w K) (i : Nat) {t : Tab} (h : ts[i]? = some t := by rfl) : dicW K (t.1 K) = some (keysIn w.params t.2) := by
  have e : ts.map (fun t => dicW K (t.1 K)) = ts.map fun t => some (keysIn w.params t.2) := congrArg (fun z : Al => z.2.2) c
  have e2 : (ts.map fun t => dicW K (t.1 K))[i]? = (ts.map fun t => some (keysIn w.params t.2))[i]? := by rw [e]
  rw [List.getElem?_map, List.getElem?_map, h] at e2
  exact Option.some.inj e2
end
/-! ### facts of forms -/
def eqB {α : Type} [DecidableEq α] (a b : α) : Bool := decide (a = b)
theorem eqB_ok {α : Type} [DecidableEq α] {a b : α} (h : eqB a b = true) : a = b := of_decide_eq_true h
/-- a function's defaults, by what they should be -/
def dfA (K : PySem.W.Frag) (f : Addr) : Addr := match K.lookup f with
  | some ⟨_, _, .func fd, _⟩ => (match fd.defaults with
    | .ref a => a
    | _ => 0)
  | _ => 0
def itA (K : PySem.W.Frag) (T : Addr) (i : Nat) : Addr := match K.lookup T with
  | some ⟨_, _, .seq its _, _⟩ => (match its[i]? with
    | some (.ref a) => a
    | _ => 0)
  | _ => 0
def fB (K : PySem.W.Frag) (f : Addr) (q : Str) (dv : Value) : Bool := match K.lookup f with
  | some ⟨_, _, .func fd, _⟩ => decide (fd.defaults = dv) && PySem.W.codeIn K fd.code q
  | _ => false
theorem f_ok {K : PySem.W.Frag} {p : At} {n q : Str} {ps : Arguments} {bd : List Stmt} {sc : Scope} {dv : Value} (e : fnW K p = some (n, q, ps, .stmts bd, sc, mainGlobals, [], builtinsNs)) (c : fB K (fAd K p) q dv = true) :
    ∃ (oc : Value) (od : Option Addr) (kV dc pm : Value) (an : Option Addr) (cd ct : Value) (sl : Array (Option Value)), K.lookup (fAd K p) = some ⟨oc, od, .func (PySem.W.fnOf n q ps bd sc dv kV dc pm an cd ct), sl⟩ ∧ PySem.W.codeIn K cd q = true := by
  unfold fnW at e
  unfold fB at c
  cases z : K.lookup (fAd K p) with
  | none =>
    rw [z] at c
    cases c
  | some o =>
    obtain ⟨oc, od, dt, osl⟩ := o
    rw [z] at c e
    cases dt with
    | func fd =>
      obtain ⟨n1, n2, n3, n4, n5, n6, n7, n8, n9, n10, n11, n12, n13, n14, n15⟩ := fd
      have e2 : (some (n1, n2, n3, n4, n5, n6, n7, n15) : FnW) = some (n, q, ps, .stmts bd, sc, mainGlobals, [], builtinsNs) := e
      simp only [Option.some.injEq, Prod.mk.injEq] at e2
      obtain ⟨h1, h2, h3, h4, h5, h6, h7, h8⟩ := e2
      subst h1 h2 h3 h4 h5 h6 h7 h8
      obtain ⟨k1, k2⟩ := ba (show (decide (n8 = dv) && PySem.W.codeIn K n13 _) = true from c)
      have k3 := of_decide_eq_true k1
      subst k3
      exact ⟨oc, od, n9, n10, n11, n12, n13, n14, osl, rfl, k2⟩
    | _ => cases c
/-- values, some of whose parts are not asked -/
inductive VP where
  | val (v : Value) | str (s : Str) | int (i : Int) | any
def VP.ok : VP → Value → Bool
  | .val v, u => decide (u = v)
  | .str s, .str z _ => decide (z = s)
  | .int i, .int j _ => decide (j = i)
  | .any, _ => true
  | _, _ => false
def vpAll : List VP → List Value → Bool
  | [], [] => true
  | p :: ps, v :: vs => p.ok v && vpAll ps vs
  | _, _ => false
def VP.ex : List VP → (List Value → Prop) → Prop
  | [], k => k []
  | .val v :: ps, k => VP.ex ps fun vs => k (v :: vs)
  | .str s :: ps, k => ∃ t, VP.ex ps fun vs => k (.str s t :: vs)
  | .int i :: ps, k => ∃ t, VP.ex ps fun vs => k (.int i t :: vs)
  | .any :: ps, k => ∃ v, VP.ex ps fun vs => k (v :: vs)
theorem vp_ok : ∀ {ps : List VP} {vs : List Value} {k : List Value → Prop}, vpAll ps vs = true → k vs → VP.ex ps k
  | [], [], k, _, h => h
  | [], _ :: _, _, c, _ => by cases c
  | _ :: _, [], _, c, _ => by cases c
  | p :: ps, v :: vs, k, c, h => by
    obtain ⟨c1, c2⟩ := ba (show (p.ok v && vpAll ps vs) = true from c)
    cases p with
    | val u =>
      have e : v = u := of_decide_eq_true c1
      subst e
      exact vp_ok (k := fun vs => k (v :: vs)) c2 h
    | str s =>
      cases v with
      | str z t =>
        have e : z = s := of_decide_eq_true c1
        subst e
        exact ⟨t, vp_ok (k := fun vs => k (.str z t :: vs)) c2 h⟩
      | _ => cases c1
    | int i =>
      cases v with
      | int z t =>
        have e : z = i := of_decide_eq_true c1
        subst e
        exact ⟨t, vp_ok (k := fun vs => k (.int z t :: vs)) c2 h⟩
      | _ => cases c1
    | any => exact ⟨v, vp_ok (k := fun vs => k (v :: vs)) c2 h⟩
/-- a sequence of the heap, of a class or of any -/
def seqB (K : PySem.W.Frag) (a : Addr) (c : Option Value) (ps : List VP) : Bool := match K.lookup a with
  | some ⟨oc, _, .seq its _, _⟩ => (match c with
    | some u => decide (oc = u)
    | none => true) && vpAll ps its.toList
  | _ => false
theorem seq_any {K : PySem.W.Frag} {a : Addr} {ps : List VP} (c : seqB K a none ps = true) : VP.ex ps fun vs => ∃ (oc : Value) (od : Option Addr) (n : Nat) (sl : Array (Option Value)), K.lookup a = some ⟨oc, od, .seq ⟨vs⟩ n, sl⟩ := by
  unfold seqB at c
  cases z : K.lookup a with
  | none =>
    rw [z] at c
    cases c
  | some o =>
    obtain ⟨oc, od, dt, osl⟩ := o
    rw [z] at c
    cases dt with
    | seq its n => exact vp_ok (k := fun vs => ∃ (oc' : Value) (od' : Option Addr) (n' : Nat) (sl : Array (Option Value)), some (⟨oc, od, .seq its n, osl⟩ : Obj) = some ⟨oc', od', .seq ⟨vs⟩ n', sl⟩) (ba c).2 ⟨oc, od, n, osl, rfl⟩
    | _ => cases c
theorem seq_is {K : PySem.W.Frag} {a : Addr} {u : Value} {ps : List VP} (c : seqB K a (some u) ps = true) : VP.ex ps fun vs => ∃ (od : Option Addr) (n : Nat) (sl : Array (Option Value)), K.lookup a = some ⟨u, od, .seq ⟨vs⟩ n, sl⟩ := by
  unfold seqB at c
  cases z : K.lookup a with
  | none =>
    rw [z] at c
    cases c
  | some o =>
    obtain ⟨oc, od, dt, osl⟩ := o
    rw [z] at c
    cases dt with
    | seq its n =>
      obtain ⟨c1, c2⟩ := ba c
      have e : oc = u := of_decide_eq_true c1
      subst e
      exact vp_ok (k := fun vs => ∃ (od' : Option Addr) (n' : Nat) (sl : Array (Option Value)), some (⟨oc, od, .seq its n, osl⟩ : Obj) = some ⟨oc, od', .seq ⟨vs⟩ n', sl⟩) c2 ⟨od, n, osl, rfl⟩
    | _ => cases c
/-- a name of the module with a value, a part of which is not asked -/
def nsB (K : PySem.W.Frag) (x : Str) (p : VP) : Bool := match PySem.W.nsIn K mainGlobals x with
  | some (some v) => p.ok v
  | _ => false
theorem ns_int {K : PySem.W.Frag} {x : Str} {i : Int} (c : nsB K x (.int i) = true) : ∃ t, PySem.W.nsIn K mainGlobals x = some (some (.int i t)) := by
  unfold nsB at c
  cases z : PySem.W.nsIn K mainGlobals x with
  | none =>
    rw [z] at c
    cases c
  | some o =>
    rw [z] at c
    cases o with
    | none => cases c
    | some v =>
      cases v with
      | int j t =>
        have e : j = i := of_decide_eq_true c
        subst e
        exact ⟨t, rfl⟩
      | _ => cases c
theorem dic_ok {K : PySem.W.Frag} {w : World} {a : Addr} {ks : List Str} (h : dicW K a = some (keysIn w.params ks)) : ∃ (es : Array DictEntry) (n : Nat), K.lookup a = some ⟨.type "dict", none, .dict es n, #[]⟩ ∧ PySem.W.KeysLit w.params es.toList ∧ True := by
  obtain ⟨es, n, k⟩ := dicW_ok h
  exact ⟨es, n, k.at_, k.lit, trivial⟩
/-- a law: F gives the written part, the function object, the promise over every base -/
theorem walkH {l : PySem.W.OpenLaw} {k : Nat} {q : Program} {loose : List Str} {XP : (Str → Option Value) → Heap → Prop} {YP : World → Heap → Prop} {d : DefRec} {sp : PySem.W.Frag → Sp} {x : Str}
    (hn : l.most = some 63) (hdf : d.params.defaults = []) (hr : Room k callerA)
    (F : ∀ (w : World) (mg : Str → Option Value) (fa : Addr) (h : Heap), YP w h → h.Ns mainGlobals mg → mg d.name = some (.ref fa) →
      ∃ (K : PySem.W.Frag) (fd : FuncData), K.In h ∧ (∀ (s : Shared) (u : Value), BindsTo s fd ⟨[u], []⟩ [(x, u)]) ∧ ∀ base : Heap, K.In base → base.Ns mainGlobals mg → GL.FnG l.prog w K mg base CX0 k fa fd [x] (sp K))
    (hsp : ∀ (K : PySem.W.Frag) (H : Hp) (a : Addr) (ns : List Int), ns.length ≤ 63 → SqL K H a (ns.map V.int) → sp K [.ref a] H (fun v _ => v = .bl true) fun _ _ _ => False) :
    PySem.W.WalkO q loose XP YP l.row.toRowW d [] (fun f vs => PySem.call f vs) := by
  refine Att.attach_call hn hdf fun w s₀ s₁ mg mb fa o pm cd doc a vs ns G Y ho hd hcd hmg hobj hints hlen hg => ?_
  obtain ⟨K, fd, KX, hb, hF⟩ := F w mg fa _ Y G.T.g hmg
  exact GL.law_at KX G.T.g G.T.b G.T.builtins G.T.nolimit hg hobj hints (Nat.le_trans hlen (by decide)) hr hF hb fun H _ hS => hsp _ H a ns hlen hS
end HK
namespace My
open PySem PySem.Spec PyProof.Rows L2 GL Evl StX SkE
section
variable {P : Program} {w : World} {K : PySem.W.Frag} {mg : Str → Option Value} {base : Heap}
theorem ok_text (T : Txt K mg w) : FnG P w K mg base CX0 13 T.f_law T.fd_law ["_law_script"] (sp_law K) := by
  have G_Ldraw : FnG P w K mg base CX0 1 T.f_Ldraw T.fd_Ldraw ["_law_pot_here", "_law_sides"] MyT.sp_Ldraw := MyT.ok_Ldraw T 
  have G_Lups : FnG P w K mg base CX0 2 T.f_Lups T.fd_Lups ["_law_pot_here", "_law_most"] MyT.sp_Lups := MyT.ok_Lups T G_Ldraw
  have G_Lstruck_ones : FnG P w K mg base CX0 2 T.f_Lstruck_ones T.fd_Lstruck_ones ["_law_pot_here", "_law_ups_here"] sp_Lstruck := My.ok_Lstruck_ones T G_Ldraw
  have G_is_list : FnG P w K mg base CX0 1 T.f_is_list T.fd_is_list ["value"] (MyT.sp_is_list K) := MyT.ok_is_list T 
  have G_is_an_integer : FnG P w K mg base CX0 1 T.f_is_an_integer T.fd_is_an_integer ["value"] MyT.sp_is_an_integer := MyT.ok_is_an_integer T 
  have G_check_parents : FnG P w K mg base CX0 2 T.f_check_parents T.fd_check_parents ["parents"] (MyT.sp_check_parents K) := MyT.ok_check_parents T G_is_list G_is_an_integer
  have G_check_struck : FnG P w K mg base CX0 2 T.f_check_struck T.fd_check_struck ["parents", "struck"] (MyT.sp_check_struck K w) := MyT.ok_check_struck T G_is_list G_is_an_integer
  have G_Tinit : FnG P w K mg base CX0 3 T.f_Tinit T.fd_Tinit ["self", "parents", "struck"] (MyT.sp_Tinit K T.C_Tree) := MyT.ok_Tinit T G_check_parents G_check_struck
  have G_Lpick : FnG P w K mg base CX0 2 T.f_Lpick T.fd_Lpick ["_law_pot_here", "_law_some"] sp_Lpick := My.ok_Lpick T G_Ldraw
  have G_Lmenu : FnG P w K mg base CX0 1 T.f_Lmenu T.fd_Lmenu ["_law_sort"] (sp_Lmenu K) := My.ok_Lmenu T 
  have G_Lrules : FnG P w K mg base CX0 4 T.f_Lrules T.fd_Lrules ["_law_pot_here", "_law_way", "_law_most"] (sp_Lrules K) := My.ok_Lrules T G_Lpick G_Ldraw G_Lmenu
  have G_is_word : FnG P w K mg base CX0 1 T.f_is_word T.fd_is_word ["value", "words"] (sp_isword K) := My.ok_is_word T 
  have G_are_different_words : FnG P w K mg base CX0 2 T.f_are_different_words T.fd_are_different_words ["values", "words"] (sp_adw K) := My.ok_are_different_words T G_is_word
  have G_has_words_of : FnG P w K mg base CX0 3 T.f_has_words_of T.fd_has_words_of ["value", "words"] (sp_hwo K) := My.ok_has_words_of T G_are_different_words
  have G_tests_are_ahead : FnG P w K mg base CX0 1 T.f_tests_are_ahead T.fd_tests_are_ahead ["row", "word"] (sp_taa K) := My.ok_tests_are_ahead T 
  have G_is_take_row : FnG P w K mg base CX0 4 T.f_is_take_row T.fd_is_take_row ["value"] (sp_row K pTake) := My.ok_is_take_row T G_has_words_of G_tests_are_ahead
  have G_off_has_home : FnG P w K mg base CX0 1 T.f_off_has_home T.fd_off_has_home ["row"] (sp_ohh K) := My.ok_off_has_home T 
  have G_is_give_row : FnG P w K mg base CX0 4 T.f_is_give_row T.fd_is_give_row ["value"] (sp_row K pGive) := My.ok_is_give_row T G_has_words_of G_off_has_home
  have G_is_move_row : FnG P w K mg base CX0 4 T.f_is_move_row T.fd_is_move_row ["value"] (sp_row K pMove) := My.ok_is_move_row T G_has_words_of G_off_has_home G_tests_are_ahead
  have G_is_lift_row : FnG P w K mg base CX0 4 T.f_is_lift_row T.fd_is_lift_row ["value"] (sp_row K pLift) := My.ok_is_lift_row T G_has_words_of
  have G_is_row : FnG P w K mg base CX0 5 T.f_is_row T.fd_is_row ["kind", "value"] (sp_isrow K) := My.ok_is_row T G_is_take_row G_is_give_row G_is_move_row G_is_lift_row
  have G_check_rows : FnG P w K mg base CX0 6 T.f_check_rows T.fd_check_rows ["rows"] (sp_crows K) := My.ok_check_rows T G_is_row
  have G_check_fails : FnG P w K mg base CX0 2 T.f_check_fails T.fd_check_fails ["value"] sp_cfails := My.ok_check_fails T G_is_word
  have G_check_bool : FnG P w K mg base CX0 1 T.f_check_bool T.fd_check_bool ["name", "value"] sp_cbool := My.ok_check_bool T 
  have G_is_listB : FnG P w K mg base CX0 1 T.f_is_list T.fd_is_list ["value"] (sp_islist K) := My.ok_is_list T 
  have G_check_holds : FnG P w K mg base CX0 3 T.f_check_holds T.fd_check_holds ["value"] (sp_cholds K) := My.ok_check_holds T G_is_listB G_are_different_words
  have G_check_batch : FnG P w K mg base CX0 2 T.f_check_batch T.fd_check_batch ["value"] sp_cbatch := My.ok_check_batch T G_is_an_integer
  have G_fits_batch : FnG P w K mg base CX0 1 T.f_fits_batch T.fd_fits_batch ["row", "batch"] (sp_fitb K) := My.ok_fits_batch T 
  have G_fits_shared : FnG P w K mg base CX0 1 T.f_fits_shared T.fd_fits_shared ["row", "shared"] (sp_fits K) := My.ok_fits_shared T 
  have G_Binit : FnG P w K mg base CX0 7 T.f_Binit T.fd_Binit ["self", "take", "give", "move", "lift", "fails", "shared", "holds", "batch", "settles"] (sp_Binit K T.C) := My.ok_Binit T G_check_rows G_check_fails G_check_bool G_check_holds G_check_batch G_fits_batch G_fits_shared
  have G_Lbook : FnG P w K mg base CX0 9 T.f_Lbook T.fd_Lbook ["_law_rules_here"] (sp_Lbook K T.C) := My.ok_Lbook T G_Binit
  have G_Llifts : FnG P w K mg base CX0 1 T.f_Llifts T.fd_Llifts [] (sp_Llifts K) := My.ok_Llifts T 
  have G_Lothers : FnG P w K mg base CX0 5 T.f_Lothers T.fd_Lothers ["_law_pot_here", "_law_rules_here"] (sp_Lothers K) := My.ok_Lothers T G_Lpick G_Llifts G_Ldraw
  have G_Lpath : FnG P w K mg base CX0 1 T.f_Lpath T.fd_Lpath ["_law_ups_here", "_law_spot"] (MyT.sp_Lpath K) := MyT.ok_Lpath T 
  have G_Ldeeds_due : FnG P w K mg base CX0 1 T.f_Ldeeds_due T.fd_Ldeeds_due ["_law_words", "_law_path_here"] (sp_Ldue K) := My.ok_Ldeeds_due T 
  have G_Tlen : FnG P w K mg base CX0 1 T.f_Tlen T.fd_Tlen ["self"] (MyT.sp_Tlen T.C_Tree) := MyT.ok_Tlen T 
  have G_check_group : FnG P w K mg base CX0 3 T.f_check_group T.fd_check_group ["tree", "value"] (MyT.sp_check_group T.C_Tree) := MyT.ok_check_group T G_is_an_integer G_Tlen
  have G_Tway : FnG P w K mg base CX0 4 T.f_Tway T.fd_Tway ["self", "group"] (MyT.sp_Tway T.C_Tree) := MyT.ok_Tway T G_check_group
  have G_Tapart : FnG P w K mg base CX0 1 T.f_Tapart T.fd_Tapart ["self", "group", "seen"] sp_never := My.ok_Tapart T G_Tway
  have G_Cgroups : FnG P w K mg base CX0 5 T.f_Cgroups T.fd_Cgroups ["self", "tree", "word"] (sp_Cgroups K T.C_Course T.C_Tree) := My.ok_Cgroups T G_Tapart G_Tway
  have G_Csingle_deeds : FnG P w K mg base CX0 6 T.f_Csingle_deeds T.fd_Csingle_deeds ["self", "tree", "words"] (sp_Csingle K T.C_Course T.C_Tree) := My.ok_Csingle_deeds T G_Cgroups
  have G_plan : FnG P w K mg base CX0 7 T.f_plan T.fd_plan ["course", "tree"] (sp_plan K T.C_Course T.C_Tree) := My.ok_plan T G_Csingle_deeds
  have G_Cinit : FnG P w K mg base CX0 1 T.f_Cinit T.fd_Cinit ["self", "kind", "words", "group", "old", "leaves_out"] (sp_Cinit T.C_Course) := My.ok_Cinit T 
  have G_check_row_kind : FnG P w K mg base CX0 2 T.f_check_row_kind T.fd_check_row_kind ["value"] sp_ckind := My.ok_check_row_kind T G_is_word
  have G_Brow : FnG P w K mg base CX0 3 T.f_Brow T.fd_Brow ["self", "kind"] (sp_Brow K T.C) := My.ok_Brow T G_check_row_kind
  have G_take_course : FnG P w K mg base CX0 4 T.f_take_course T.fd_take_course ["book", "group"] (sp_tcourse K T.C T.C_Course) := My.ok_take_course T G_Cinit G_Brow
  have G_take_plan : FnG P w K mg base CX0 8 T.f_take_plan T.fd_take_plan ["book", "tree", "group"] (sp_tplan K T.C T.C_Tree) := My.ok_take_plan T G_check_group G_plan G_take_course
  have G_give_course : FnG P w K mg base CX0 4 T.f_give_course T.fd_give_course ["book", "old"] (sp_gcourse K T.C T.C_Course) := My.ok_give_course T G_Cinit G_Brow
  have G_give_plan : FnG P w K mg base CX0 8 T.f_give_plan T.fd_give_plan ["book", "tree", "home"] (sp_gplan K T.C T.C_Tree) := My.ok_give_plan T G_check_group G_plan G_give_course
  have G_Lspot_right : FnG P w K mg base CX0 9 T.f_Lspot_right T.fd_Lspot_right ["_law_made", "_law_wood", "_law_ups_here", "_law_rules_here", "_law_spot"] (sp_Lspot K T.C T.C_Tree) := My.ok_Lspot_right T G_Lpath G_Ldeeds_due G_take_plan G_give_plan
  have G_Beq : FnG P w K mg base CX0 1 T.f_Beq T.fd_Beq ["self", "other"] (sp_Beq K T.C) := My.ok_Beq T 
  have G_Teq : FnG P w K mg base CX0 1 T.f_Teq T.fd_Teq ["self", "other"] (MyT.sp_Teq K T.C_Tree) := MyT.ok_Teq T 
  have G_Tstruck : FnG P w K mg base CX0 1 T.f_Tstruck T.fd_Tstruck ["self"] (MyT.sp_Tstruck T.C_Tree) := MyT.ok_Tstruck T 
  have G_Lright : FnG P w K mg base CX0 12 T.f_Lright T.fd_Lright ["_law_pot_here"] sp_Lright := My.ok_Lright T G_Lups G_Lstruck_ones G_Tinit G_Ldraw G_Lrules G_Lbook G_Lothers G_Lspot_right G_Beq G_Teq G_Tstruck
  have G_Lpot : FnG P w K mg base CX0 1 T.f_Lpot T.fd_Lpot ["_law_script", "_law_k"] (MyT.sp_Lpot K) := MyT.ok_Lpot T 
  have G_law : FnG P w K mg base CX0 13 T.f_law T.fd_law ["_law_script"] (sp_law K) := My.ok_law T G_Lright G_Lpot
  exact G_law
end
theorem law_start {K : PySem.W.Frag} {H : Hp} {a : Addr} {ns : List Int} (h : SqL K H a (ns.map V.int)) (hl : ns.length ≤ 63) : sp_law K [.ref a] H (fun v _ => v = .bl true) fun _ _ _ => False := ⟨a, ns, rfl, h, hl, fun _ => rfl⟩
theorem all_mk {l : PySem.W.OpenLaw} {w : World} {K : PySem.W.Frag} {h : Heap} {mg : Str → Option Value} {fa : Addr} (X : K.In h) (G : h.Ns mainGlobals mg) (hfa : mg "law" = some (.ref fa))
    {C C_Tree C_Course f1 f2 f3 f4 f5 f6 T6 d6_0 d6_1 f7 f8 f9 f10 f11 f12 f13 f14 f15 f16 f17 f18 f19 f20 f21 f22 f23 f24 f25 f26 f27 f28 f29 f30 f31 f32 f33 T33 f34 f35 f36 f37 T37 f38 f39 f40 f41 f42 f43 f44 f45 f46 f47 f48 f49 f50 f51 f52 f53 f54 f55 T_FAILS T_ROW_KINDS T_WAY_WORDS T_LIFT_ROWS T0_LIFT_ROWS T1_LIFT_ROWS T2_LIFT_ROWS T3_LIFT_ROWS T4_LIFT_ROWS T5_LIFT_ROWS T_ROW_CHECKS : Addr} {od1 an1 od2 an2 od3 an3 od4 an4 od5 an5 od6 an6 td6 ud6_0 ud6_1 od7 an7 od8 an8 od9 an9 od10 an10 od11 an11 od12 an12 od13 an13 od14 an14 od15 an15 od16 an16 od17 an17 od18 an18 od19 an19 od20 an20 od21 an21 od22 an22 od23 an23 od24 an24 od25 an25 od26 an26 od27 an27 od28 an28 od29 an29 od30 an30 od31 an31 od32 an32 od33 an33 td33 od34 an34 od35 an35 od36 an36 od37 an37 td37 od38 an38 od39 an39 od40 an40 od41 an41 od42 an42 od43 an43 od44 an44 od45 an45 od46 an46 od47 an47 od48 an48 od49 an49 od50 an50 od51 an51 od52 an52 od53 an53 od54 an54 od55 an55 d_T_FAILS d_T_ROW_KINDS d_T_WAY_WORDS d_T_LIFT_ROWS d_T0_LIFT_ROWS d_T1_LIFT_ROWS d_T2_LIFT_ROWS d_T3_LIFT_ROWS d_T4_LIFT_ROWS d_T5_LIFT_ROWS : Option Addr} {sl1 sl2 sl3 sl4 sl5 sl6 tl6 ul6_0 ul6_1 sl7 sl8 sl9 sl10 sl11 sl12 sl13 sl14 sl15 sl16 sl17 sl18 sl19 sl20 sl21 sl22 sl23 sl24 sl25 sl26 sl27 sl28 sl29 sl30 sl31 sl32 sl33 tl33 sl34 sl35 sl36 sl37 tl37 sl38 sl39 sl40 sl41 sl42 sl43 sl44 sl45 sl46 sl47 sl48 sl49 sl50 sl51 sl52 sl53 sl54 sl55 l_T_FAILS l_T_ROW_KINDS l_T_WAY_WORDS l_T_LIFT_ROWS l_T0_LIFT_ROWS l_T1_LIFT_ROWS l_T2_LIFT_ROWS l_T3_LIFT_ROWS l_T4_LIFT_ROWS l_T5_LIFT_ROWS : Array (Option Value)} {oc1 kV1 dc1 pm1 cd1 ct1 oc2 kV2 dc2 pm2 cd2 ct2 oc3 kV3 dc3 pm3 cd3 ct3 oc4 kV4 dc4 pm4 cd4 ct4 oc5 kV5 dc5 pm5 cd5 ct5 oc6 kV6 dc6 pm6 cd6 ct6 tc6 oc7 kV7 dc7 pm7 cd7 ct7 oc8 kV8 dc8 pm8 cd8 ct8 oc9 kV9 dc9 pm9 cd9 ct9 oc10 kV10 dc10 pm10 cd10 ct10 oc11 kV11 dc11 pm11 cd11 ct11 oc12 kV12 dc12 pm12 cd12 ct12 oc13 kV13 dc13 pm13 cd13 ct13 oc14 kV14 dc14 pm14 cd14 ct14 oc15 kV15 dc15 pm15 cd15 ct15 oc16 kV16 dc16 pm16 cd16 ct16 oc17 kV17 dc17 pm17 cd17 ct17 oc18 kV18 dc18 pm18 cd18 ct18 oc19 kV19 dc19 pm19 cd19 ct19 oc20 kV20 dc20 pm20 cd20 ct20 oc21 kV21 dc21 pm21 cd21 ct21 oc22 kV22 dc22 pm22 cd22 ct22 oc23 kV23 dc23 pm23 cd23 ct23 oc24 kV24 dc24 pm24 cd24 ct24 oc25 kV25 dc25 pm25 cd25 ct25 oc26 kV26 dc26 pm26 cd26 ct26 oc27 kV27 dc27 pm27 cd27 ct27 oc28 kV28 dc28 pm28 cd28 ct28 oc29 kV29 dc29 pm29 cd29 ct29 oc30 kV30 dc30 pm30 cd30 ct30 oc31 kV31 dc31 pm31 cd31 ct31 oc32 kV32 dc32 pm32 cd32 ct32 oc33 kV33 dc33 pm33 cd33 ct33 tc33 oc34 kV34 dc34 pm34 cd34 ct34 oc35 kV35 dc35 pm35 cd35 ct35 oc36 kV36 dc36 pm36 cd36 ct36 oc37 kV37 dc37 pm37 cd37 ct37 tc37 oc38 kV38 dc38 pm38 cd38 ct38 oc39 kV39 dc39 pm39 cd39 ct39 oc40 kV40 dc40 pm40 cd40 ct40 oc41 kV41 dc41 pm41 cd41 ct41 oc42 kV42 dc42 pm42 cd42 ct42 oc43 kV43 dc43 pm43 cd43 ct43 oc44 kV44 dc44 pm44 cd44 ct44 oc45 kV45 dc45 pm45 cd45 ct45 oc46 kV46 dc46 pm46 cd46 ct46 oc47 kV47 dc47 pm47 cd47 ct47 oc48 kV48 dc48 pm48 cd48 ct48 oc49 kV49 dc49 pm49 cd49 ct49 oc50 kV50 dc50 pm50 cd50 ct50 oc51 kV51 dc51 pm51 cd51 ct51 oc52 kV52 dc52 pm52 cd52 ct52 oc53 kV53 dc53 pm53 cd53 ct53 oc54 kV54 dc54 pm54 cd54 ct54 oc55 kV55 dc55 pm55 cd55 ct55 : Value} {tn6 un6_0 un6_1 tn33 tn37 n_T_FAILS n_T_ROW_KINDS n_T_WAY_WORDS n_T_LIFT_ROWS n_T0_LIFT_ROWS n_T1_LIFT_ROWS n_T2_LIFT_ROWS n_T3_LIFT_ROWS n_T4_LIFT_ROWS n_T5_LIFT_ROWS n_ROW_CHECKS : Nat} {t_MOST_BATCH t_MOST_GROUPS k0_T_FAILS k1_T_FAILS k2_T_FAILS k0_T_ROW_KINDS k1_T_ROW_KINDS k2_T_ROW_KINDS k3_T_ROW_KINDS k0_T_WAY_WORDS k1_T_WAY_WORDS k2_T_WAY_WORDS k3_T_WAY_WORDS k0_T1_LIFT_ROWS k0_T2_LIFT_ROWS k0_T3_LIFT_ROWS k1_T3_LIFT_ROWS k0_T4_LIFT_ROWS k1_T4_LIFT_ROWS k0_T5_LIFT_ROWS : Tok} {es_ROW_CHECKS : Array DictEntry}
    (aC : PySem.W.nsIn K mainGlobals "Book" = some (some (.ref C)))
    (pg : PySem.W.plainGet K C Str.empty = true)
    (hd : PySem.W.hasDictIn K C = true)
    (po : PySem.W.plainOver K C = true)
    (sa : PySem.W.findIn K (.ref C) "__setattr__" = some (some (.builtin "object.__setattr__")))
    (mk : PySem.W.makesIn K C = true)
    (kc : PySem.W.keepIn K (.ref C) = true)
    (n_parts : PySem.W.findIn K (.ref C) "_parts" = some none)
    (x_class : PySem.W.findIn K (.ref C) "__class__" = some (some (.builtin "object.__class__")))
    (x_get : PySem.W.specialIn K (.builtin "object.__class__") "__get__" = some (some (.builtin "getset_descriptor.__get__")))
    (x_tk : PySem.W.takesIn K (.builtin "object.__class__") = some true)
    (x_mro : PySem.W.mroIn K C (.type "object") = some true)
    (x_ne : PySem.W.findIn K (.ref C) "__ne__" = some (some (.builtin "object.__ne__")))
    (x_cls : PySem.W.isClsIn K C = true)
    (x_ty : PySem.W.typeIn K (.ref C) = some (.type "type"))
    (aC_Tree : PySem.W.nsIn K mainGlobals "Tree" = some (some (.ref C_Tree)))
    (pg_Tree : PySem.W.plainGet K C_Tree Str.empty = true)
    (hd_Tree : PySem.W.hasDictIn K C_Tree = true)
    (po_Tree : PySem.W.plainOver K C_Tree = true)
    (sa_Tree : PySem.W.findIn K (.ref C_Tree) "__setattr__" = some (some (.builtin "object.__setattr__")))
    (mk_Tree : PySem.W.makesIn K C_Tree = true)
    (kc_Tree : PySem.W.keepIn K (.ref C_Tree) = true)
    (n_above : PySem.W.findIn K (.ref C_Tree) "_above" = some none)
    (n_struck : PySem.W.findIn K (.ref C_Tree) "_struck" = some none)
    (x_class_Tree : PySem.W.findIn K (.ref C_Tree) "__class__" = some (some (.builtin "object.__class__")))
    (x_get_Tree : PySem.W.specialIn K (.builtin "object.__class__") "__get__" = some (some (.builtin "getset_descriptor.__get__")))
    (x_tk_Tree : PySem.W.takesIn K (.builtin "object.__class__") = some true)
    (x_mro_Tree : PySem.W.mroIn K C_Tree (.type "object") = some true)
    (x_ne_Tree : PySem.W.findIn K (.ref C_Tree) "__ne__" = some (some (.builtin "object.__ne__")))
    (x_cls_Tree : PySem.W.isClsIn K C_Tree = true)
    (x_ty_Tree : PySem.W.typeIn K (.ref C_Tree) = some (.type "type"))
    (aC_Course : PySem.W.nsIn K mainGlobals "Course" = some (some (.ref C_Course)))
    (pg_Course : PySem.W.plainGet K C_Course Str.empty = true)
    (hd_Course : PySem.W.hasDictIn K C_Course = true)
    (po_Course : PySem.W.plainOver K C_Course = true)
    (sa_Course : PySem.W.findIn K (.ref C_Course) "__setattr__" = some (some (.builtin "object.__setattr__")))
    (mk_Course : PySem.W.makesIn K C_Course = true)
    (kc_Course : PySem.W.keepIn K (.ref C_Course) = true)
    (nkind : PySem.W.findIn K (.ref C_Course) "kind" = some none)
    (nwords : PySem.W.findIn K (.ref C_Course) "words" = some none)
    (ngroup : PySem.W.findIn K (.ref C_Course) "group" = some none)
    (nold : PySem.W.findIn K (.ref C_Course) "old" = some none)
    (nleaves_out : PySem.W.findIn K (.ref C_Course) "leaves_out" = some none)
    (a1 : PySem.W.nsIn K mainGlobals "is_an_integer" = some (some (.ref f1)))
    (l1 : K.lookup f1 = some ⟨oc1, od1, .func (PySem.W.fnOf "is_an_integer" "is_an_integer" (defArgs s_is_an_integer) (defBody s_is_an_integer) (defScope s_is_an_integer) .none kV1 dc1 pm1 an1 cd1 ct1), sl1⟩)
    (c1 : PySem.W.codeIn K cd1 "is_an_integer" = true)
    (k1 : PySem.W.keepIn K (.ref f1) = true)
    (a2 : PySem.W.nsIn K mainGlobals "is_list" = some (some (.ref f2)))
    (l2 : K.lookup f2 = some ⟨oc2, od2, .func (PySem.W.fnOf "is_list" "is_list" (defArgs s_is_list) (defBody s_is_list) (defScope s_is_list) .none kV2 dc2 pm2 an2 cd2 ct2), sl2⟩)
    (c2 : PySem.W.codeIn K cd2 "is_list" = true)
    (k2 : PySem.W.keepIn K (.ref f2) = true)
    (a3 : PySem.W.nsIn K mainGlobals "check_group" = some (some (.ref f3)))
    (l3 : K.lookup f3 = some ⟨oc3, od3, .func (PySem.W.fnOf "check_group" "check_group" (defArgs s_check_group) (defBody s_check_group) (defScope s_check_group) .none kV3 dc3 pm3 an3 cd3 ct3), sl3⟩)
    (c3 : PySem.W.codeIn K cd3 "check_group" = true)
    (k3 : PySem.W.keepIn K (.ref f3) = true)
    (a4 : PySem.W.nsIn K mainGlobals "check_parents" = some (some (.ref f4)))
    (l4 : K.lookup f4 = some ⟨oc4, od4, .func (PySem.W.fnOf "check_parents" "check_parents" (defArgs s_check_parents) (defBody s_check_parents) (defScope s_check_parents) .none kV4 dc4 pm4 an4 cd4 ct4), sl4⟩)
    (c4 : PySem.W.codeIn K cd4 "check_parents" = true)
    (k4 : PySem.W.keepIn K (.ref f4) = true)
    (a5 : PySem.W.nsIn K mainGlobals "check_struck" = some (some (.ref f5)))
    (l5 : K.lookup f5 = some ⟨oc5, od5, .func (PySem.W.fnOf "check_struck" "check_struck" (defArgs s_check_struck) (defBody s_check_struck) (defScope s_check_struck) .none kV5 dc5 pm5 an5 cd5 ct5), sl5⟩)
    (c5 : PySem.W.codeIn K cd5 "check_struck" = true)
    (k5 : PySem.W.keepIn K (.ref f5) = true)
    (a6 : PySem.W.findIn K (.ref C_Tree) "__init__" = some (some (.ref f6)))
    (i6 : PySem.W.isFn K (.ref f6) = true)
    (l6 : K.lookup f6 = some ⟨oc6, od6, .func (PySem.W.fnOf "__init__" "Tree.__init__" (defArgs s_Tinit) (defBody s_Tinit) (defScope s_Tinit) (.ref T6) kV6 dc6 pm6 an6 cd6 ct6), sl6⟩)
    (c6 : PySem.W.codeIn K cd6 "Tree.__init__" = true)
    (k6 : PySem.W.keepIn K (.ref f6) = true)
    (t6 : K.lookup T6 = some ⟨tc6, td6, .seq #[.ref d6_0, .ref d6_1] tn6, tl6⟩)
    (u6_0 : K.lookup d6_0 = some ⟨.type "tuple", ud6_0, .seq #[] un6_0, ul6_0⟩)
    (u6_1 : K.lookup d6_1 = some ⟨.type "tuple", ud6_1, .seq #[] un6_1, ul6_1⟩)
    (a7 : PySem.W.findIn K (.ref C_Tree) "__len__" = some (some (.ref f7)))
    (i7 : PySem.W.isFn K (.ref f7) = true)
    (l7 : K.lookup f7 = some ⟨oc7, od7, .func (PySem.W.fnOf "__len__" "Tree.__len__" (defArgs s_Tlen) (defBody s_Tlen) (defScope s_Tlen) .none kV7 dc7 pm7 an7 cd7 ct7), sl7⟩)
    (c7 : PySem.W.codeIn K cd7 "Tree.__len__" = true)
    (k7 : PySem.W.keepIn K (.ref f7) = true)
    (a8 : PySem.W.findIn K (.ref C_Tree) "__eq__" = some (some (.ref f8)))
    (i8 : PySem.W.isFn K (.ref f8) = true)
    (l8 : K.lookup f8 = some ⟨oc8, od8, .func (PySem.W.fnOf "__eq__" "Tree.__eq__" (defArgs s_Teq) (defBody s_Teq) (defScope s_Teq) .none kV8 dc8 pm8 an8 cd8 ct8), sl8⟩)
    (c8 : PySem.W.codeIn K cd8 "Tree.__eq__" = true)
    (k8 : PySem.W.keepIn K (.ref f8) = true)
    (a9 : PySem.W.findIn K (.ref C_Tree) "way" = some (some (.ref f9)))
    (i9 : PySem.W.isFn K (.ref f9) = true)
    (l9 : K.lookup f9 = some ⟨oc9, od9, .func (PySem.W.fnOf "way" "Tree.way" (defArgs s_Tway) (defBody s_Tway) (defScope s_Tway) .none kV9 dc9 pm9 an9 cd9 ct9), sl9⟩)
    (c9 : PySem.W.codeIn K cd9 "Tree.way" = true)
    (k9 : PySem.W.keepIn K (.ref f9) = true)
    (a10 : PySem.W.findIn K (.ref C_Tree) "struck" = some (some (.ref f10)))
    (i10 : PySem.W.isFn K (.ref f10) = true)
    (l10 : K.lookup f10 = some ⟨oc10, od10, .func (PySem.W.fnOf "struck" "Tree.struck" (defArgs s_Tstruck) (defBody s_Tstruck) (defScope s_Tstruck) .none kV10 dc10 pm10 an10 cd10 ct10), sl10⟩)
    (c10 : PySem.W.codeIn K cd10 "Tree.struck" = true)
    (k10 : PySem.W.keepIn K (.ref f10) = true)
    (a11 : PySem.W.findIn K (.ref C_Tree) "apart" = some (some (.ref f11)))
    (i11 : PySem.W.isFn K (.ref f11) = true)
    (l11 : K.lookup f11 = some ⟨oc11, od11, .func (PySem.W.fnOf "apart" "Tree.apart" (defArgs s_Tapart) (defBody s_Tapart) (defScope s_Tapart) .none kV11 dc11 pm11 an11 cd11 ct11), sl11⟩)
    (c11 : PySem.W.codeIn K cd11 "Tree.apart" = true)
    (k11 : PySem.W.keepIn K (.ref f11) = true)
    (a12 : PySem.W.nsIn K mainGlobals "is_word" = some (some (.ref f12)))
    (l12 : K.lookup f12 = some ⟨oc12, od12, .func (PySem.W.fnOf "is_word" "is_word" (defArgs s_is_word) (defBody s_is_word) (defScope s_is_word) .none kV12 dc12 pm12 an12 cd12 ct12), sl12⟩)
    (c12 : PySem.W.codeIn K cd12 "is_word" = true)
    (k12 : PySem.W.keepIn K (.ref f12) = true)
    (a13 : PySem.W.nsIn K mainGlobals "are_different_words" = some (some (.ref f13)))
    (l13 : K.lookup f13 = some ⟨oc13, od13, .func (PySem.W.fnOf "are_different_words" "are_different_words" (defArgs s_are_different_words) (defBody s_are_different_words) (defScope s_are_different_words) .none kV13 dc13 pm13 an13 cd13 ct13), sl13⟩)
    (c13 : PySem.W.codeIn K cd13 "are_different_words" = true)
    (k13 : PySem.W.keepIn K (.ref f13) = true)
    (a14 : PySem.W.nsIn K mainGlobals "has_words_of" = some (some (.ref f14)))
    (l14 : K.lookup f14 = some ⟨oc14, od14, .func (PySem.W.fnOf "has_words_of" "has_words_of" (defArgs s_has_words_of) (defBody s_has_words_of) (defScope s_has_words_of) .none kV14 dc14 pm14 an14 cd14 ct14), sl14⟩)
    (c14 : PySem.W.codeIn K cd14 "has_words_of" = true)
    (k14 : PySem.W.keepIn K (.ref f14) = true)
    (a15 : PySem.W.nsIn K mainGlobals "tests_are_ahead" = some (some (.ref f15)))
    (l15 : K.lookup f15 = some ⟨oc15, od15, .func (PySem.W.fnOf "tests_are_ahead" "tests_are_ahead" (defArgs s_tests_are_ahead) (defBody s_tests_are_ahead) (defScope s_tests_are_ahead) .none kV15 dc15 pm15 an15 cd15 ct15), sl15⟩)
    (c15 : PySem.W.codeIn K cd15 "tests_are_ahead" = true)
    (k15 : PySem.W.keepIn K (.ref f15) = true)
    (a16 : PySem.W.nsIn K mainGlobals "off_has_home" = some (some (.ref f16)))
    (l16 : K.lookup f16 = some ⟨oc16, od16, .func (PySem.W.fnOf "off_has_home" "off_has_home" (defArgs s_off_has_home) (defBody s_off_has_home) (defScope s_off_has_home) .none kV16 dc16 pm16 an16 cd16 ct16), sl16⟩)
    (c16 : PySem.W.codeIn K cd16 "off_has_home" = true)
    (k16 : PySem.W.keepIn K (.ref f16) = true)
    (a17 : PySem.W.nsIn K mainGlobals "is_take_row" = some (some (.ref f17)))
    (l17 : K.lookup f17 = some ⟨oc17, od17, .func (PySem.W.fnOf "is_take_row" "is_take_row" (defArgs s_is_take_row) (defBody s_is_take_row) (defScope s_is_take_row) .none kV17 dc17 pm17 an17 cd17 ct17), sl17⟩)
    (c17 : PySem.W.codeIn K cd17 "is_take_row" = true)
    (k17 : PySem.W.keepIn K (.ref f17) = true)
    (a18 : PySem.W.nsIn K mainGlobals "is_give_row" = some (some (.ref f18)))
    (l18 : K.lookup f18 = some ⟨oc18, od18, .func (PySem.W.fnOf "is_give_row" "is_give_row" (defArgs s_is_give_row) (defBody s_is_give_row) (defScope s_is_give_row) .none kV18 dc18 pm18 an18 cd18 ct18), sl18⟩)
    (c18 : PySem.W.codeIn K cd18 "is_give_row" = true)
    (k18 : PySem.W.keepIn K (.ref f18) = true)
    (a19 : PySem.W.nsIn K mainGlobals "is_move_row" = some (some (.ref f19)))
    (l19 : K.lookup f19 = some ⟨oc19, od19, .func (PySem.W.fnOf "is_move_row" "is_move_row" (defArgs s_is_move_row) (defBody s_is_move_row) (defScope s_is_move_row) .none kV19 dc19 pm19 an19 cd19 ct19), sl19⟩)
    (c19 : PySem.W.codeIn K cd19 "is_move_row" = true)
    (k19 : PySem.W.keepIn K (.ref f19) = true)
    (a20 : PySem.W.nsIn K mainGlobals "is_lift_row" = some (some (.ref f20)))
    (l20 : K.lookup f20 = some ⟨oc20, od20, .func (PySem.W.fnOf "is_lift_row" "is_lift_row" (defArgs s_is_lift_row) (defBody s_is_lift_row) (defScope s_is_lift_row) .none kV20 dc20 pm20 an20 cd20 ct20), sl20⟩)
    (c20 : PySem.W.codeIn K cd20 "is_lift_row" = true)
    (k20 : PySem.W.keepIn K (.ref f20) = true)
    (a21 : PySem.W.nsIn K mainGlobals "is_row" = some (some (.ref f21)))
    (l21 : K.lookup f21 = some ⟨oc21, od21, .func (PySem.W.fnOf "is_row" "is_row" (defArgs s_is_row) (defBody s_is_row) (defScope s_is_row) .none kV21 dc21 pm21 an21 cd21 ct21), sl21⟩)
    (c21 : PySem.W.codeIn K cd21 "is_row" = true)
    (k21 : PySem.W.keepIn K (.ref f21) = true)
    (a22 : PySem.W.nsIn K mainGlobals "fits_batch" = some (some (.ref f22)))
    (l22 : K.lookup f22 = some ⟨oc22, od22, .func (PySem.W.fnOf "fits_batch" "fits_batch" (defArgs s_fits_batch) (defBody s_fits_batch) (defScope s_fits_batch) .none kV22 dc22 pm22 an22 cd22 ct22), sl22⟩)
    (c22 : PySem.W.codeIn K cd22 "fits_batch" = true)
    (k22 : PySem.W.keepIn K (.ref f22) = true)
    (a23 : PySem.W.nsIn K mainGlobals "fits_shared" = some (some (.ref f23)))
    (l23 : K.lookup f23 = some ⟨oc23, od23, .func (PySem.W.fnOf "fits_shared" "fits_shared" (defArgs s_fits_shared) (defBody s_fits_shared) (defScope s_fits_shared) .none kV23 dc23 pm23 an23 cd23 ct23), sl23⟩)
    (c23 : PySem.W.codeIn K cd23 "fits_shared" = true)
    (k23 : PySem.W.keepIn K (.ref f23) = true)
    (a24 : PySem.W.nsIn K mainGlobals "check_rows" = some (some (.ref f24)))
    (l24 : K.lookup f24 = some ⟨oc24, od24, .func (PySem.W.fnOf "check_rows" "check_rows" (defArgs s_check_rows) (defBody s_check_rows) (defScope s_check_rows) .none kV24 dc24 pm24 an24 cd24 ct24), sl24⟩)
    (c24 : PySem.W.codeIn K cd24 "check_rows" = true)
    (k24 : PySem.W.keepIn K (.ref f24) = true)
    (a25 : PySem.W.nsIn K mainGlobals "check_fails" = some (some (.ref f25)))
    (l25 : K.lookup f25 = some ⟨oc25, od25, .func (PySem.W.fnOf "check_fails" "check_fails" (defArgs s_check_fails) (defBody s_check_fails) (defScope s_check_fails) .none kV25 dc25 pm25 an25 cd25 ct25), sl25⟩)
    (c25 : PySem.W.codeIn K cd25 "check_fails" = true)
    (k25 : PySem.W.keepIn K (.ref f25) = true)
    (a26 : PySem.W.nsIn K mainGlobals "check_bool" = some (some (.ref f26)))
    (l26 : K.lookup f26 = some ⟨oc26, od26, .func (PySem.W.fnOf "check_bool" "check_bool" (defArgs s_check_bool) (defBody s_check_bool) (defScope s_check_bool) .none kV26 dc26 pm26 an26 cd26 ct26), sl26⟩)
    (c26 : PySem.W.codeIn K cd26 "check_bool" = true)
    (k26 : PySem.W.keepIn K (.ref f26) = true)
    (a27 : PySem.W.nsIn K mainGlobals "check_holds" = some (some (.ref f27)))
    (l27 : K.lookup f27 = some ⟨oc27, od27, .func (PySem.W.fnOf "check_holds" "check_holds" (defArgs s_check_holds) (defBody s_check_holds) (defScope s_check_holds) .none kV27 dc27 pm27 an27 cd27 ct27), sl27⟩)
    (c27 : PySem.W.codeIn K cd27 "check_holds" = true)
    (k27 : PySem.W.keepIn K (.ref f27) = true)
    (a28 : PySem.W.nsIn K mainGlobals "check_batch" = some (some (.ref f28)))
    (l28 : K.lookup f28 = some ⟨oc28, od28, .func (PySem.W.fnOf "check_batch" "check_batch" (defArgs s_check_batch) (defBody s_check_batch) (defScope s_check_batch) .none kV28 dc28 pm28 an28 cd28 ct28), sl28⟩)
    (c28 : PySem.W.codeIn K cd28 "check_batch" = true)
    (k28 : PySem.W.keepIn K (.ref f28) = true)
    (a29 : PySem.W.nsIn K mainGlobals "check_row_kind" = some (some (.ref f29)))
    (l29 : K.lookup f29 = some ⟨oc29, od29, .func (PySem.W.fnOf "check_row_kind" "check_row_kind" (defArgs s_check_row_kind) (defBody s_check_row_kind) (defScope s_check_row_kind) .none kV29 dc29 pm29 an29 cd29 ct29), sl29⟩)
    (c29 : PySem.W.codeIn K cd29 "check_row_kind" = true)
    (k29 : PySem.W.keepIn K (.ref f29) = true)
    (a30 : PySem.W.findIn K (.ref C) "__init__" = some (some (.ref f30)))
    (i30 : PySem.W.isFn K (.ref f30) = true)
    (l30 : K.lookup f30 = some ⟨oc30, od30, .func (PySem.W.fnOf "__init__" "Book.__init__" (defArgs s_Binit) (defBody s_Binit) (defScope s_Binit) .none kV30 dc30 pm30 an30 cd30 ct30), sl30⟩)
    (c30 : PySem.W.codeIn K cd30 "Book.__init__" = true)
    (k30 : PySem.W.keepIn K (.ref f30) = true)
    (a31 : PySem.W.findIn K (.ref C) "__eq__" = some (some (.ref f31)))
    (i31 : PySem.W.isFn K (.ref f31) = true)
    (l31 : K.lookup f31 = some ⟨oc31, od31, .func (PySem.W.fnOf "__eq__" "Book.__eq__" (defArgs s_Beq) (defBody s_Beq) (defScope s_Beq) .none kV31 dc31 pm31 an31 cd31 ct31), sl31⟩)
    (c31 : PySem.W.codeIn K cd31 "Book.__eq__" = true)
    (k31 : PySem.W.keepIn K (.ref f31) = true)
    (a32 : PySem.W.findIn K (.ref C) "row" = some (some (.ref f32)))
    (i32 : PySem.W.isFn K (.ref f32) = true)
    (l32 : K.lookup f32 = some ⟨oc32, od32, .func (PySem.W.fnOf "row" "Book.row" (defArgs s_Brow) (defBody s_Brow) (defScope s_Brow) .none kV32 dc32 pm32 an32 cd32 ct32), sl32⟩)
    (c32 : PySem.W.codeIn K cd32 "Book.row" = true)
    (k32 : PySem.W.keepIn K (.ref f32) = true)
    (a33 : PySem.W.findIn K (.ref C_Course) "__init__" = some (some (.ref f33)))
    (i33 : PySem.W.isFn K (.ref f33) = true)
    (l33 : K.lookup f33 = some ⟨oc33, od33, .func (PySem.W.fnOf "__init__" "Course.__init__" (defArgs s_Cinit) (defBody s_Cinit) (defScope s_Cinit) (.ref T33) kV33 dc33 pm33 an33 cd33 ct33), sl33⟩)
    (c33 : PySem.W.codeIn K cd33 "Course.__init__" = true)
    (k33 : PySem.W.keepIn K (.ref f33) = true)
    (t33 : K.lookup T33 = some ⟨tc33, td33, .seq #[.none, .none, .bool false] tn33, tl33⟩)
    (a34 : PySem.W.findIn K (.ref C_Course) "groups" = some (some (.ref f34)))
    (i34 : PySem.W.isFn K (.ref f34) = true)
    (l34 : K.lookup f34 = some ⟨oc34, od34, .func (PySem.W.fnOf "groups" "Course.groups" (defArgs s_Cgroups) (defBody s_Cgroups) (defScope s_Cgroups) .none kV34 dc34 pm34 an34 cd34 ct34), sl34⟩)
    (c34 : PySem.W.codeIn K cd34 "Course.groups" = true)
    (k34 : PySem.W.keepIn K (.ref f34) = true)
    (a35 : PySem.W.findIn K (.ref C_Course) "single_deeds" = some (some (.ref f35)))
    (i35 : PySem.W.isFn K (.ref f35) = true)
    (l35 : K.lookup f35 = some ⟨oc35, od35, .func (PySem.W.fnOf "single_deeds" "Course.single_deeds" (defArgs s_Csingle_deeds) (defBody s_Csingle_deeds) (defScope s_Csingle_deeds) .none kV35 dc35 pm35 an35 cd35 ct35), sl35⟩)
    (c35 : PySem.W.codeIn K cd35 "Course.single_deeds" = true)
    (k35 : PySem.W.keepIn K (.ref f35) = true)
    (a36 : PySem.W.nsIn K mainGlobals "take_course" = some (some (.ref f36)))
    (l36 : K.lookup f36 = some ⟨oc36, od36, .func (PySem.W.fnOf "take_course" "take_course" (defArgs s_take_course) (defBody s_take_course) (defScope s_take_course) .none kV36 dc36 pm36 an36 cd36 ct36), sl36⟩)
    (c36 : PySem.W.codeIn K cd36 "take_course" = true)
    (k36 : PySem.W.keepIn K (.ref f36) = true)
    (a37 : PySem.W.nsIn K mainGlobals "give_course" = some (some (.ref f37)))
    (l37 : K.lookup f37 = some ⟨oc37, od37, .func (PySem.W.fnOf "give_course" "give_course" (defArgs s_give_course) (defBody s_give_course) (defScope s_give_course) (.ref T37) kV37 dc37 pm37 an37 cd37 ct37), sl37⟩)
    (c37 : PySem.W.codeIn K cd37 "give_course" = true)
    (k37 : PySem.W.keepIn K (.ref f37) = true)
    (t37 : K.lookup T37 = some ⟨tc37, td37, .seq #[.none] tn37, tl37⟩)
    (a38 : PySem.W.nsIn K mainGlobals "plan" = some (some (.ref f38)))
    (l38 : K.lookup f38 = some ⟨oc38, od38, .func (PySem.W.fnOf "plan" "plan" (defArgs s_plan) (defBody s_plan) (defScope s_plan) .none kV38 dc38 pm38 an38 cd38 ct38), sl38⟩)
    (c38 : PySem.W.codeIn K cd38 "plan" = true)
    (k38 : PySem.W.keepIn K (.ref f38) = true)
    (a39 : PySem.W.nsIn K mainGlobals "take_plan" = some (some (.ref f39)))
    (l39 : K.lookup f39 = some ⟨oc39, od39, .func (PySem.W.fnOf "take_plan" "take_plan" (defArgs s_take_plan) (defBody s_take_plan) (defScope s_take_plan) .none kV39 dc39 pm39 an39 cd39 ct39), sl39⟩)
    (c39 : PySem.W.codeIn K cd39 "take_plan" = true)
    (k39 : PySem.W.keepIn K (.ref f39) = true)
    (a40 : PySem.W.nsIn K mainGlobals "give_plan" = some (some (.ref f40)))
    (l40 : K.lookup f40 = some ⟨oc40, od40, .func (PySem.W.fnOf "give_plan" "give_plan" (defArgs s_give_plan) (defBody s_give_plan) (defScope s_give_plan) .none kV40 dc40 pm40 an40 cd40 ct40), sl40⟩)
    (c40 : PySem.W.codeIn K cd40 "give_plan" = true)
    (k40 : PySem.W.keepIn K (.ref f40) = true)
    (a41 : PySem.W.nsIn K mainGlobals "_law_pot" = some (some (.ref f41)))
    (l41 : K.lookup f41 = some ⟨oc41, od41, .func (PySem.W.fnOf "_law_pot" "_law_pot" (defArgs s_Lpot) (defBody s_Lpot) (defScope s_Lpot) .none kV41 dc41 pm41 an41 cd41 ct41), sl41⟩)
    (c41 : PySem.W.codeIn K cd41 "_law_pot" = true)
    (k41 : PySem.W.keepIn K (.ref f41) = true)
    (a42 : PySem.W.nsIn K mainGlobals "_law_draw" = some (some (.ref f42)))
    (l42 : K.lookup f42 = some ⟨oc42, od42, .func (PySem.W.fnOf "_law_draw" "_law_draw" (defArgs s_Ldraw) (defBody s_Ldraw) (defScope s_Ldraw) .none kV42 dc42 pm42 an42 cd42 ct42), sl42⟩)
    (c42 : PySem.W.codeIn K cd42 "_law_draw" = true)
    (k42 : PySem.W.keepIn K (.ref f42) = true)
    (a43 : PySem.W.nsIn K mainGlobals "_law_pick" = some (some (.ref f43)))
    (l43 : K.lookup f43 = some ⟨oc43, od43, .func (PySem.W.fnOf "_law_pick" "_law_pick" (defArgs s_Lpick) (defBody s_Lpick) (defScope s_Lpick) .none kV43 dc43 pm43 an43 cd43 ct43), sl43⟩)
    (c43 : PySem.W.codeIn K cd43 "_law_pick" = true)
    (k43 : PySem.W.keepIn K (.ref f43) = true)
    (a44 : PySem.W.nsIn K mainGlobals "_law_ups" = some (some (.ref f44)))
    (l44 : K.lookup f44 = some ⟨oc44, od44, .func (PySem.W.fnOf "_law_ups" "_law_ups" (defArgs s_Lups) (defBody s_Lups) (defScope s_Lups) .none kV44 dc44 pm44 an44 cd44 ct44), sl44⟩)
    (c44 : PySem.W.codeIn K cd44 "_law_ups" = true)
    (k44 : PySem.W.keepIn K (.ref f44) = true)
    (a45 : PySem.W.nsIn K mainGlobals "_law_path" = some (some (.ref f45)))
    (l45 : K.lookup f45 = some ⟨oc45, od45, .func (PySem.W.fnOf "_law_path" "_law_path" (defArgs s_Lpath) (defBody s_Lpath) (defScope s_Lpath) .none kV45 dc45 pm45 an45 cd45 ct45), sl45⟩)
    (c45 : PySem.W.codeIn K cd45 "_law_path" = true)
    (k45 : PySem.W.keepIn K (.ref f45) = true)
    (a46 : PySem.W.nsIn K mainGlobals "_law_lifts" = some (some (.ref f46)))
    (l46 : K.lookup f46 = some ⟨oc46, od46, .func (PySem.W.fnOf "_law_lifts" "_law_lifts" (defArgs s_Llifts) (defBody s_Llifts) (defScope s_Llifts) .none kV46 dc46 pm46 an46 cd46 ct46), sl46⟩)
    (c46 : PySem.W.codeIn K cd46 "_law_lifts" = true)
    (k46 : PySem.W.keepIn K (.ref f46) = true)
    (a47 : PySem.W.nsIn K mainGlobals "_law_menu" = some (some (.ref f47)))
    (l47 : K.lookup f47 = some ⟨oc47, od47, .func (PySem.W.fnOf "_law_menu" "_law_menu" (defArgs s_Lmenu) (defBody s_Lmenu) (defScope s_Lmenu) .none kV47 dc47 pm47 an47 cd47 ct47), sl47⟩)
    (c47 : PySem.W.codeIn K cd47 "_law_menu" = true)
    (k47 : PySem.W.keepIn K (.ref f47) = true)
    (a48 : PySem.W.nsIn K mainGlobals "_law_rules" = some (some (.ref f48)))
    (l48 : K.lookup f48 = some ⟨oc48, od48, .func (PySem.W.fnOf "_law_rules" "_law_rules" (defArgs s_Lrules) (defBody s_Lrules) (defScope s_Lrules) .none kV48 dc48 pm48 an48 cd48 ct48), sl48⟩)
    (c48 : PySem.W.codeIn K cd48 "_law_rules" = true)
    (k48 : PySem.W.keepIn K (.ref f48) = true)
    (a49 : PySem.W.nsIn K mainGlobals "_law_book" = some (some (.ref f49)))
    (l49 : K.lookup f49 = some ⟨oc49, od49, .func (PySem.W.fnOf "_law_book" "_law_book" (defArgs s_Lbook) (defBody s_Lbook) (defScope s_Lbook) .none kV49 dc49 pm49 an49 cd49 ct49), sl49⟩)
    (c49 : PySem.W.codeIn K cd49 "_law_book" = true)
    (k49 : PySem.W.keepIn K (.ref f49) = true)
    (a50 : PySem.W.nsIn K mainGlobals "_law_struck_ones" = some (some (.ref f50)))
    (l50 : K.lookup f50 = some ⟨oc50, od50, .func (PySem.W.fnOf "_law_struck_ones" "_law_struck_ones" (defArgs s_Lstruck_ones) (defBody s_Lstruck_ones) (defScope s_Lstruck_ones) .none kV50 dc50 pm50 an50 cd50 ct50), sl50⟩)
    (c50 : PySem.W.codeIn K cd50 "_law_struck_ones" = true)
    (k50 : PySem.W.keepIn K (.ref f50) = true)
    (a51 : PySem.W.nsIn K mainGlobals "_law_deeds_due" = some (some (.ref f51)))
    (l51 : K.lookup f51 = some ⟨oc51, od51, .func (PySem.W.fnOf "_law_deeds_due" "_law_deeds_due" (defArgs s_Ldeeds_due) (defBody s_Ldeeds_due) (defScope s_Ldeeds_due) .none kV51 dc51 pm51 an51 cd51 ct51), sl51⟩)
    (c51 : PySem.W.codeIn K cd51 "_law_deeds_due" = true)
    (k51 : PySem.W.keepIn K (.ref f51) = true)
    (a52 : PySem.W.nsIn K mainGlobals "_law_spot_right" = some (some (.ref f52)))
    (l52 : K.lookup f52 = some ⟨oc52, od52, .func (PySem.W.fnOf "_law_spot_right" "_law_spot_right" (defArgs s_Lspot_right) (defBody s_Lspot_right) (defScope s_Lspot_right) .none kV52 dc52 pm52 an52 cd52 ct52), sl52⟩)
    (c52 : PySem.W.codeIn K cd52 "_law_spot_right" = true)
    (k52 : PySem.W.keepIn K (.ref f52) = true)
    (a53 : PySem.W.nsIn K mainGlobals "_law_others" = some (some (.ref f53)))
    (l53 : K.lookup f53 = some ⟨oc53, od53, .func (PySem.W.fnOf "_law_others" "_law_others" (defArgs s_Lothers) (defBody s_Lothers) (defScope s_Lothers) .none kV53 dc53 pm53 an53 cd53 ct53), sl53⟩)
    (c53 : PySem.W.codeIn K cd53 "_law_others" = true)
    (k53 : PySem.W.keepIn K (.ref f53) = true)
    (a54 : PySem.W.nsIn K mainGlobals "_law_right" = some (some (.ref f54)))
    (l54 : K.lookup f54 = some ⟨oc54, od54, .func (PySem.W.fnOf "_law_right" "_law_right" (defArgs s_Lright) (defBody s_Lright) (defScope s_Lright) .none kV54 dc54 pm54 an54 cd54 ct54), sl54⟩)
    (c54 : PySem.W.codeIn K cd54 "_law_right" = true)
    (k54 : PySem.W.keepIn K (.ref f54) = true)
    (a55 : PySem.W.nsIn K mainGlobals "law" = some (some (.ref f55)))
    (l55 : K.lookup f55 = some ⟨oc55, od55, .func (PySem.W.fnOf "law" "law" (defArgs s_law) (defBody s_law) (defScope s_law) .none kV55 dc55 pm55 an55 cd55 ct55), sl55⟩)
    (c55 : PySem.W.codeIn K cd55 "law" = true)
    (k55 : PySem.W.keepIn K (.ref f55) = true)
    (z_abs : PySem.W.nsIn K mainGlobals "abs" = some none)
    (z_all : PySem.W.nsIn K mainGlobals "all" = some none)
    (z_bool : PySem.W.nsIn K mainGlobals "bool" = some none)
    (z_dict : PySem.W.nsIn K mainGlobals "dict" = some none)
    (z_divmod : PySem.W.nsIn K mainGlobals "divmod" = some none)
    (z_enumerate : PySem.W.nsIn K mainGlobals "enumerate" = some none)
    (z_int : PySem.W.nsIn K mainGlobals "int" = some none)
    (z_isinstance : PySem.W.nsIn K mainGlobals "isinstance" = some none)
    (z_len : PySem.W.nsIn K mainGlobals "len" = some none)
    (z_list : PySem.W.nsIn K mainGlobals "list" = some none)
    (z_max : PySem.W.nsIn K mainGlobals "max" = some none)
    (z_min : PySem.W.nsIn K mainGlobals "min" = some none)
    (z_range : PySem.W.nsIn K mainGlobals "range" = some none)
    (z_repr : PySem.W.nsIn K mainGlobals "repr" = some none)
    (z_set : PySem.W.nsIn K mainGlobals "set" = some none)
    (z_sorted : PySem.W.nsIn K mainGlobals "sorted" = some none)
    (z_str : PySem.W.nsIn K mainGlobals "str" = some none)
    (z_tuple : PySem.W.nsIn K mainGlobals "tuple" = some none)
    (g_MOST_BATCH : PySem.W.nsIn K mainGlobals "MOST_BATCH" = some (some (.int 50 t_MOST_BATCH)))
    (g_MOST_GROUPS : PySem.W.nsIn K mainGlobals "MOST_GROUPS" = some (some (.int 200 t_MOST_GROUPS)))
    (g_FAILS : PySem.W.nsIn K mainGlobals "FAILS" = some (some (.ref T_FAILS)))
    (h_T_FAILS : K.lookup T_FAILS = some ⟨.type "tuple", d_T_FAILS, .seq #[.str "undo" k0_T_FAILS, .str "leave" k1_T_FAILS, .str "wait" k2_T_FAILS] n_T_FAILS, l_T_FAILS⟩)
    (g_ROW_KINDS : PySem.W.nsIn K mainGlobals "ROW_KINDS" = some (some (.ref T_ROW_KINDS)))
    (h_T_ROW_KINDS : K.lookup T_ROW_KINDS = some ⟨.type "tuple", d_T_ROW_KINDS, .seq #[.str "take" k0_T_ROW_KINDS, .str "give" k1_T_ROW_KINDS, .str "move" k2_T_ROW_KINDS, .str "lift" k3_T_ROW_KINDS] n_T_ROW_KINDS, l_T_ROW_KINDS⟩)
    (g_WAY_WORDS : PySem.W.nsIn K mainGlobals "WAY_WORDS" = some (some (.ref T_WAY_WORDS)))
    (h_T_WAY_WORDS : K.lookup T_WAY_WORDS = some ⟨.type "tuple", d_T_WAY_WORDS, .seq #[.str "look" k0_T_WAY_WORDS, .str "add" k1_T_WAY_WORDS, .str "try" k2_T_WAY_WORDS, .str "off" k3_T_WAY_WORDS] n_T_WAY_WORDS, l_T_WAY_WORDS⟩)
    (g_LIFT_ROWS : PySem.W.nsIn K mainGlobals "LIFT_ROWS" = some (some (.ref T_LIFT_ROWS)))
    (h_T_LIFT_ROWS : K.lookup T_LIFT_ROWS = some ⟨.type "tuple", d_T_LIFT_ROWS, .seq #[.ref T0_LIFT_ROWS, .ref T1_LIFT_ROWS, .ref T2_LIFT_ROWS, .ref T3_LIFT_ROWS, .ref T4_LIFT_ROWS, .ref T5_LIFT_ROWS] n_T_LIFT_ROWS, l_T_LIFT_ROWS⟩)
    (h_T0_LIFT_ROWS : K.lookup T0_LIFT_ROWS = some ⟨.type "tuple", d_T0_LIFT_ROWS, .seq #[] n_T0_LIFT_ROWS, l_T0_LIFT_ROWS⟩)
    (h_T1_LIFT_ROWS : K.lookup T1_LIFT_ROWS = some ⟨.type "tuple", d_T1_LIFT_ROWS, .seq #[.str "set" k0_T1_LIFT_ROWS] n_T1_LIFT_ROWS, l_T1_LIFT_ROWS⟩)
    (h_T2_LIFT_ROWS : K.lookup T2_LIFT_ROWS = some ⟨.type "tuple", d_T2_LIFT_ROWS, .seq #[.str "off" k0_T2_LIFT_ROWS] n_T2_LIFT_ROWS, l_T2_LIFT_ROWS⟩)
    (h_T3_LIFT_ROWS : K.lookup T3_LIFT_ROWS = some ⟨.type "tuple", d_T3_LIFT_ROWS, .seq #[.str "set" k0_T3_LIFT_ROWS, .str "off" k1_T3_LIFT_ROWS] n_T3_LIFT_ROWS, l_T3_LIFT_ROWS⟩)
    (h_T4_LIFT_ROWS : K.lookup T4_LIFT_ROWS = some ⟨.type "tuple", d_T4_LIFT_ROWS, .seq #[.str "off" k0_T4_LIFT_ROWS, .str "set" k1_T4_LIFT_ROWS] n_T4_LIFT_ROWS, l_T4_LIFT_ROWS⟩)
    (h_T5_LIFT_ROWS : K.lookup T5_LIFT_ROWS = some ⟨.type "tuple", d_T5_LIFT_ROWS, .seq #[.str "both" k0_T5_LIFT_ROWS] n_T5_LIFT_ROWS, l_T5_LIFT_ROWS⟩)
    (g_ROW_CHECKS : PySem.W.nsIn K mainGlobals "ROW_CHECKS" = some (some (.ref T_ROW_CHECKS)))
    (h_ROW_CHECKS : K.lookup T_ROW_CHECKS = some ⟨.type "dict", none, .dict es_ROW_CHECKS n_ROW_CHECKS, #[]⟩)
    (y_ROW_CHECKS : PySem.W.KeysLit w.params es_ROW_CHECKS.toList)
    (x_ROW_CHECKS_take : PySem.W.nsIn K T_ROW_CHECKS "take" = some (some (.ref f17)))
    (x_ROW_CHECKS_give : PySem.W.nsIn K T_ROW_CHECKS "give" = some (some (.ref f18)))
    (x_ROW_CHECKS_move : PySem.W.nsIn K T_ROW_CHECKS "move" = some (some (.ref f19)))
    (x_ROW_CHECKS_lift : PySem.W.nsIn K T_ROW_CHECKS "lift" = some (some (.ref f20)))
    : ∃ fd : FuncData, (∀ (s : Shared) (v : Value), BindsTo s fd ⟨[v], []⟩ [("_law_script", v)]) ∧ ∀ base : Heap, K.In base → base.Ns mainGlobals mg → FnG l.prog w K mg base CX0 13 fa fd ["_law_script"] (sp_law K) := by
  cases hfa.symm.trans (PySem.W.mg_of X G a55)
  have F1 := fun_mk (st := s_is_an_integer) l1 c1 k1
  have B1 := F1.binds (ps := ["value"]) fun _ _ _ _ _ _ us hl => match us, hl with | [_], _ => rfl
  have F2 := fun_mk (st := s_is_list) l2 c2 k2
  have B2 := F2.binds (ps := ["value"]) fun _ _ _ _ _ _ us hl => match us, hl with | [_], _ => rfl
  have F3 := fun_mk (st := s_check_group) l3 c3 k3
  have B3 := F3.binds (ps := ["tree", "value"]) fun _ _ _ _ _ _ us hl => match us, hl with | [_, _], _ => rfl
  have F4 := fun_mk (st := s_check_parents) l4 c4 k4
  have B4 := F4.binds (ps := ["parents"]) fun _ _ _ _ _ _ us hl => match us, hl with | [_], _ => rfl
  have F5 := fun_mk (st := s_check_struck) l5 c5 k5
  have B5 := F5.binds (ps := ["parents", "struck"]) fun _ _ _ _ _ _ us hl => match us, hl with | [_, _], _ => rfl
  have D6 : L2.FunD K "__init__" "Tree.__init__" (defArgs s_Tinit) (defBody s_Tinit) (defScope s_Tinit) [.ref d6_0, .ref d6_1] [] f6 (PySem.W.fnOf "__init__" "Tree.__init__" (defArgs s_Tinit) (defBody s_Tinit) (defScope s_Tinit) (.ref T6) kV6 dc6 pm6 an6 cd6 ct6) := ⟨⟨_, _, _, _, _, _, _, _, _, _, rfl, l6, c6, .inr ⟨(fun z => nomatch z), T6, _, [.ref d6_0, .ref d6_1], _, rfl, t6, rfl, .cons rfl (.cons rfl (.nil))⟩, .inl rfl⟩, k6⟩
  obtain ⟨w6_0, v6_0, b6_0⟩ := D6.binds1 (ps := ["self", "parents", "struck"]) 1 0 (fun z => nomatch z) rfl (fun _ _ _ _ _ _ _ us its hl hi => match us, hl, its, hi with | [_], _, [_, _], _ => ⟨_, rfl, rfl⟩)
  obtain ⟨w6_1, v6_1, b6_1⟩ := D6.binds1 (ps := ["self", "parents", "struck"]) 2 1 (fun z => nomatch z) rfl (fun _ _ _ _ _ _ _ us its hl hi => match us, hl, its, hi with | [_, _], _, [_, _], _ => ⟨_, rfl, rfl⟩)
  obtain ⟨w6_2, v6_2, b6_2⟩ := D6.binds1 (ps := ["self", "parents", "struck"]) 3 2 (fun z => nomatch z) rfl (fun _ _ _ _ _ _ _ us its hl hi => match us, hl, its, hi with | [_, _, _], _, [_, _], _ => ⟨_, rfl, rfl⟩)
  have F7 := fun_mk (st := s_Tlen) l7 c7 k7
  have B7 := F7.binds (ps := ["self"]) fun _ _ _ _ _ _ us hl => match us, hl with | [_], _ => rfl
  have F8 := fun_mk (st := s_Teq) l8 c8 k8
  have B8 := F8.binds (ps := ["self", "other"]) fun _ _ _ _ _ _ us hl => match us, hl with | [_, _], _ => rfl
  have F9 := fun_mk (st := s_Tway) l9 c9 k9
  have B9 := F9.binds (ps := ["self", "group"]) fun _ _ _ _ _ _ us hl => match us, hl with | [_, _], _ => rfl
  have F10 := fun_mk (st := s_Tstruck) l10 c10 k10
  have B10 := F10.binds (ps := ["self"]) fun _ _ _ _ _ _ us hl => match us, hl with | [_], _ => rfl
  have F11 := fun_mk (st := s_Tapart) l11 c11 k11
  have B11 := F11.binds (ps := ["self", "group", "seen"]) fun _ _ _ _ _ _ us hl => match us, hl with | [_, _, _], _ => rfl
  have F12 := fun_mk (st := s_is_word) l12 c12 k12
  have B12 := F12.binds (ps := ["value", "words"]) fun _ _ _ _ _ _ us hl => match us, hl with | [_, _], _ => rfl
  have F13 := fun_mk (st := s_are_different_words) l13 c13 k13
  have B13 := F13.binds (ps := ["values", "words"]) fun _ _ _ _ _ _ us hl => match us, hl with | [_, _], _ => rfl
  have F14 := fun_mk (st := s_has_words_of) l14 c14 k14
  have B14 := F14.binds (ps := ["value", "words"]) fun _ _ _ _ _ _ us hl => match us, hl with | [_, _], _ => rfl
  have F15 := fun_mk (st := s_tests_are_ahead) l15 c15 k15
  have B15 := F15.binds (ps := ["row", "word"]) fun _ _ _ _ _ _ us hl => match us, hl with | [_, _], _ => rfl
  have F16 := fun_mk (st := s_off_has_home) l16 c16 k16
  have B16 := F16.binds (ps := ["row"]) fun _ _ _ _ _ _ us hl => match us, hl with | [_], _ => rfl
  have F17 := fun_mk (st := s_is_take_row) l17 c17 k17
  have B17 := F17.binds (ps := ["value"]) fun _ _ _ _ _ _ us hl => match us, hl with | [_], _ => rfl
  have F18 := fun_mk (st := s_is_give_row) l18 c18 k18
  have B18 := F18.binds (ps := ["value"]) fun _ _ _ _ _ _ us hl => match us, hl with | [_], _ => rfl
  have F19 := fun_mk (st := s_is_move_row) l19 c19 k19
  have B19 := F19.binds (ps := ["value"]) fun _ _ _ _ _ _ us hl => match us, hl with | [_], _ => rfl
  have F20 := fun_mk (st := s_is_lift_row) l20 c20 k20
  have B20 := F20.binds (ps := ["value"]) fun _ _ _ _ _ _ us hl => match us, hl with | [_], _ => rfl
  have F21 := fun_mk (st := s_is_row) l21 c21 k21
  have B21 := F21.binds (ps := ["kind", "value"]) fun _ _ _ _ _ _ us hl => match us, hl with | [_, _], _ => rfl
  have F22 := fun_mk (st := s_fits_batch) l22 c22 k22
  have B22 := F22.binds (ps := ["row", "batch"]) fun _ _ _ _ _ _ us hl => match us, hl with | [_, _], _ => rfl
  have F23 := fun_mk (st := s_fits_shared) l23 c23 k23
  have B23 := F23.binds (ps := ["row", "shared"]) fun _ _ _ _ _ _ us hl => match us, hl with | [_, _], _ => rfl
  have F24 := fun_mk (st := s_check_rows) l24 c24 k24
  have B24 := F24.binds (ps := ["rows"]) fun _ _ _ _ _ _ us hl => match us, hl with | [_], _ => rfl
  have F25 := fun_mk (st := s_check_fails) l25 c25 k25
  have B25 := F25.binds (ps := ["value"]) fun _ _ _ _ _ _ us hl => match us, hl with | [_], _ => rfl
  have F26 := fun_mk (st := s_check_bool) l26 c26 k26
  have B26 := F26.binds (ps := ["name", "value"]) fun _ _ _ _ _ _ us hl => match us, hl with | [_, _], _ => rfl
  have F27 := fun_mk (st := s_check_holds) l27 c27 k27
  have B27 := F27.binds (ps := ["value"]) fun _ _ _ _ _ _ us hl => match us, hl with | [_], _ => rfl
  have F28 := fun_mk (st := s_check_batch) l28 c28 k28
  have B28 := F28.binds (ps := ["value"]) fun _ _ _ _ _ _ us hl => match us, hl with | [_], _ => rfl
  have F29 := fun_mk (st := s_check_row_kind) l29 c29 k29
  have B29 := F29.binds (ps := ["value"]) fun _ _ _ _ _ _ us hl => match us, hl with | [_], _ => rfl
  have F30 := fun_mk (st := s_Binit) l30 c30 k30
  have F31 := fun_mk (st := s_Beq) l31 c31 k31
  have B31 := F31.binds (ps := ["self", "other"]) fun _ _ _ _ _ _ us hl => match us, hl with | [_, _], _ => rfl
  have F32 := fun_mk (st := s_Brow) l32 c32 k32
  have B32 := F32.binds (ps := ["self", "kind"]) fun _ _ _ _ _ _ us hl => match us, hl with | [_, _], _ => rfl
  have D33 : L2.FunD K "__init__" "Course.__init__" (defArgs s_Cinit) (defBody s_Cinit) (defScope s_Cinit) [.non, .non, .bl false] [] f33 (PySem.W.fnOf "__init__" "Course.__init__" (defArgs s_Cinit) (defBody s_Cinit) (defScope s_Cinit) (.ref T33) kV33 dc33 pm33 an33 cd33 ct33) := ⟨⟨_, _, _, _, _, _, _, _, _, _, rfl, l33, c33, .inr ⟨(fun z => nomatch z), T33, _, [.none, .none, .bool false], _, rfl, t33, rfl, .cons rfl (.cons rfl (.cons rfl (.nil)))⟩, .inl rfl⟩, k33⟩
  obtain ⟨w33_0, v33_0, b33_0⟩ := D33.binds1 (ps := ["self", "kind", "words", "group", "old", "leaves_out"]) 3 0 (fun z => nomatch z) rfl (fun _ _ _ _ _ _ _ us its hl hi => match us, hl, its, hi with | [_, _, _], _, [_, _, _], _ => ⟨_, rfl, rfl⟩)
  obtain ⟨w33_1, v33_1, b33_1⟩ := D33.binds1 (ps := ["self", "kind", "words", "group", "old", "leaves_out"]) 4 1 (fun z => nomatch z) rfl (fun _ _ _ _ _ _ _ us its hl hi => match us, hl, its, hi with | [_, _, _, _], _, [_, _, _], _ => ⟨_, rfl, rfl⟩)
  obtain ⟨w33_2, v33_2, b33_2⟩ := D33.binds1 (ps := ["self", "kind", "words", "group", "old", "leaves_out"]) 5 2 (fun z => nomatch z) rfl (fun _ _ _ _ _ _ _ us its hl hi => match us, hl, its, hi with | [_, _, _, _, _], _, [_, _, _], _ => ⟨_, rfl, rfl⟩)
  obtain ⟨w33_3, v33_3, b33_3⟩ := D33.binds1 (ps := ["self", "kind", "words", "group", "old", "leaves_out"]) 6 3 (fun z => nomatch z) rfl (fun _ _ _ _ _ _ _ us its hl hi => match us, hl, its, hi with | [_, _, _, _, _, _], _, [_, _, _], _ => ⟨_, rfl, rfl⟩)
  have F34 := fun_mk (st := s_Cgroups) l34 c34 k34
  have B34 := F34.binds (ps := ["self", "tree", "word"]) fun _ _ _ _ _ _ us hl => match us, hl with | [_, _, _], _ => rfl
  have F35 := fun_mk (st := s_Csingle_deeds) l35 c35 k35
  have B35 := F35.binds (ps := ["self", "tree", "words"]) fun _ _ _ _ _ _ us hl => match us, hl with | [_, _, _], _ => rfl
  have F36 := fun_mk (st := s_take_course) l36 c36 k36
  have B36 := F36.binds (ps := ["book", "group"]) fun _ _ _ _ _ _ us hl => match us, hl with | [_, _], _ => rfl
  have D37 : L2.FunD K "give_course" "give_course" (defArgs s_give_course) (defBody s_give_course) (defScope s_give_course) [.non] [] f37 (PySem.W.fnOf "give_course" "give_course" (defArgs s_give_course) (defBody s_give_course) (defScope s_give_course) (.ref T37) kV37 dc37 pm37 an37 cd37 ct37) := ⟨⟨_, _, _, _, _, _, _, _, _, _, rfl, l37, c37, .inr ⟨(fun z => nomatch z), T37, _, [.none], _, rfl, t37, rfl, .cons rfl (.nil)⟩, .inl rfl⟩, k37⟩
  obtain ⟨w37_0, v37_0, b37_0⟩ := D37.binds1 (ps := ["book", "old"]) 1 0 (fun z => nomatch z) rfl (fun _ _ _ _ _ _ _ us its hl hi => match us, hl, its, hi with | [_], _, [_], _ => ⟨_, rfl, rfl⟩)
  obtain ⟨w37_1, v37_1, b37_1⟩ := D37.binds1 (ps := ["book", "old"]) 2 1 (fun z => nomatch z) rfl (fun _ _ _ _ _ _ _ us its hl hi => match us, hl, its, hi with | [_, _], _, [_], _ => ⟨_, rfl, rfl⟩)
  have F38 := fun_mk (st := s_plan) l38 c38 k38
  have B38 := F38.binds (ps := ["course", "tree"]) fun _ _ _ _ _ _ us hl => match us, hl with | [_, _], _ => rfl
  have F39 := fun_mk (st := s_take_plan) l39 c39 k39
  have B39 := F39.binds (ps := ["book", "tree", "group"]) fun _ _ _ _ _ _ us hl => match us, hl with | [_, _, _], _ => rfl
  have F40 := fun_mk (st := s_give_plan) l40 c40 k40
  have B40 := F40.binds (ps := ["book", "tree", "home"]) fun _ _ _ _ _ _ us hl => match us, hl with | [_, _, _], _ => rfl
  have F41 := fun_mk (st := s_Lpot) l41 c41 k41
  have B41 := F41.binds (ps := ["_law_script", "_law_k"]) fun _ _ _ _ _ _ us hl => match us, hl with | [_, _], _ => rfl
  have F42 := fun_mk (st := s_Ldraw) l42 c42 k42
  have B42 := F42.binds (ps := ["_law_pot_here", "_law_sides"]) fun _ _ _ _ _ _ us hl => match us, hl with | [_, _], _ => rfl
  have F43 := fun_mk (st := s_Lpick) l43 c43 k43
  have B43 := F43.binds (ps := ["_law_pot_here", "_law_some"]) fun _ _ _ _ _ _ us hl => match us, hl with | [_, _], _ => rfl
  have F44 := fun_mk (st := s_Lups) l44 c44 k44
  have B44 := F44.binds (ps := ["_law_pot_here", "_law_most"]) fun _ _ _ _ _ _ us hl => match us, hl with | [_, _], _ => rfl
  have F45 := fun_mk (st := s_Lpath) l45 c45 k45
  have B45 := F45.binds (ps := ["_law_ups_here", "_law_spot"]) fun _ _ _ _ _ _ us hl => match us, hl with | [_, _], _ => rfl
  have F46 := fun_mk (st := s_Llifts) l46 c46 k46
  have B46 := F46.binds (ps := []) fun _ _ _ _ _ _ us hl => match us, hl with | [], _ => rfl
  have F47 := fun_mk (st := s_Lmenu) l47 c47 k47
  have B47 := F47.binds (ps := ["_law_sort"]) fun _ _ _ _ _ _ us hl => match us, hl with | [_], _ => rfl
  have F48 := fun_mk (st := s_Lrules) l48 c48 k48
  have B48 := F48.binds (ps := ["_law_pot_here", "_law_way", "_law_most"]) fun _ _ _ _ _ _ us hl => match us, hl with | [_, _, _], _ => rfl
  have F49 := fun_mk (st := s_Lbook) l49 c49 k49
  have B49 := F49.binds (ps := ["_law_rules_here"]) fun _ _ _ _ _ _ us hl => match us, hl with | [_], _ => rfl
  have F50 := fun_mk (st := s_Lstruck_ones) l50 c50 k50
  have B50 := F50.binds (ps := ["_law_pot_here", "_law_ups_here"]) fun _ _ _ _ _ _ us hl => match us, hl with | [_, _], _ => rfl
  have F51 := fun_mk (st := s_Ldeeds_due) l51 c51 k51
  have B51 := F51.binds (ps := ["_law_words", "_law_path_here"]) fun _ _ _ _ _ _ us hl => match us, hl with | [_, _], _ => rfl
  have F52 := fun_mk (st := s_Lspot_right) l52 c52 k52
  have B52 := F52.binds (ps := ["_law_made", "_law_wood", "_law_ups_here", "_law_rules_here", "_law_spot"]) fun _ _ _ _ _ _ us hl => match us, hl with | [_, _, _, _, _], _ => rfl
  have F53 := fun_mk (st := s_Lothers) l53 c53 k53
  have B53 := F53.binds (ps := ["_law_pot_here", "_law_rules_here"]) fun _ _ _ _ _ _ us hl => match us, hl with | [_, _], _ => rfl
  have F54 := fun_mk (st := s_Lright) l54 c54 k54
  have B54 := F54.binds (ps := ["_law_pot_here"]) fun _ _ _ _ _ _ us hl => match us, hl with | [_], _ => rfl
  have F55 := fun_mk (st := s_law) l55 c55 k55
  have B55 := F55.binds (ps := ["_law_script"]) fun _ _ _ _ _ _ us hl => match us, hl with | [_], _ => rfl
  let T : Txt K mg w := {
    C := C,
    c_Book := ⟨pg, hd, po, sa⟩,
    m_Book := PySem.W.mg_of X G aC,
    n_parts := n_parts,
    x_class := x_class,
    x_get := x_get,
    x_tk := x_tk,
    x_mro := x_mro,
    x_ne := x_ne,
    x_cls := x_cls,
    x_ty := x_ty,
    C_Tree := C_Tree,
    c_Tree := ⟨pg_Tree, hd_Tree, po_Tree, sa_Tree⟩,
    m_Tree := PySem.W.mg_of X G aC_Tree,
    n_above := n_above,
    n_struck := n_struck,
    x_class_Tree := x_class_Tree,
    x_get_Tree := x_get_Tree,
    x_tk_Tree := x_tk_Tree,
    x_mro_Tree := x_mro_Tree,
    x_ne_Tree := x_ne_Tree,
    x_cls_Tree := x_cls_Tree,
    x_ty_Tree := x_ty_Tree,
    C_Course := C_Course,
    c_Course := ⟨pg_Course, hd_Course, po_Course, sa_Course⟩,
    m_Course := PySem.W.mg_of X G aC_Course,
    nkind := nkind,
    nwords := nwords,
    ngroup := ngroup,
    nold := nold,
    nleaves_out := nleaves_out,
    f_is_an_integer := f1,
    fd_is_an_integer := PySem.W.fnOf "is_an_integer" "is_an_integer" (defArgs s_is_an_integer) (defBody s_is_an_integer) (defScope s_is_an_integer) .none kV1 dc1 pm1 an1 cd1 ct1,
    F_is_an_integer := F1,
    b_is_an_integer := B1,
    m_is_an_integer := PySem.W.mg_of X G a1,
    f_is_list := f2,
    fd_is_list := PySem.W.fnOf "is_list" "is_list" (defArgs s_is_list) (defBody s_is_list) (defScope s_is_list) .none kV2 dc2 pm2 an2 cd2 ct2,
    F_is_list := F2,
    b_is_list := B2,
    m_is_list := PySem.W.mg_of X G a2,
    f_check_group := f3,
    fd_check_group := PySem.W.fnOf "check_group" "check_group" (defArgs s_check_group) (defBody s_check_group) (defScope s_check_group) .none kV3 dc3 pm3 an3 cd3 ct3,
    F_check_group := F3,
    b_check_group := B3,
    m_check_group := PySem.W.mg_of X G a3,
    f_check_parents := f4,
    fd_check_parents := PySem.W.fnOf "check_parents" "check_parents" (defArgs s_check_parents) (defBody s_check_parents) (defScope s_check_parents) .none kV4 dc4 pm4 an4 cd4 ct4,
    F_check_parents := F4,
    b_check_parents := B4,
    m_check_parents := PySem.W.mg_of X G a4,
    f_check_struck := f5,
    fd_check_struck := PySem.W.fnOf "check_struck" "check_struck" (defArgs s_check_struck) (defBody s_check_struck) (defScope s_check_struck) .none kV5 dc5 pm5 an5 cd5 ct5,
    F_check_struck := F5,
    b_check_struck := B5,
    m_check_struck := PySem.W.mg_of X G a5,
    f_Tinit := f6,
    fd_Tinit := PySem.W.fnOf "__init__" "Tree.__init__" (defArgs s_Tinit) (defBody s_Tinit) (defScope s_Tinit) (.ref T6) kV6 dc6 pm6 an6 cd6 ct6,
    d0_Tinit := d6_0,
    e0_Tinit := fun H => .inr ⟨_, #[], _, u6_0, rfl, rfl, by decide, .nil⟩,
    y0_Tinit := fun H => .kTuple u6_0 rfl,
    d1_Tinit := d6_1,
    e1_Tinit := fun H => .inr ⟨_, #[], _, u6_1, rfl, rfl, by decide, .nil⟩,
    y1_Tinit := fun H => .kTuple u6_1 rfl,
    F_Tinit := D6,
    w0_Tinit := w6_0,
    v0_Tinit := v6_0,
    b0_Tinit := b6_0,
    w1_Tinit := w6_1,
    v1_Tinit := v6_1,
    b1_Tinit := b6_1,
    w2_Tinit := w6_2,
    v2_Tinit := v6_2,
    b2_Tinit := b6_2,
    mk_Tree := ⟨mk_Tree, a6, i6, kc_Tree⟩,
    f_Tlen := f7,
    fd_Tlen := PySem.W.fnOf "__len__" "Tree.__len__" (defArgs s_Tlen) (defBody s_Tlen) (defScope s_Tlen) .none kV7 dc7 pm7 an7 cd7 ct7,
    F_Tlen := F7,
    b_Tlen := B7,
    M_Tlen := ⟨a7, i7, k7⟩,
    f_Teq := f8,
    fd_Teq := PySem.W.fnOf "__eq__" "Tree.__eq__" (defArgs s_Teq) (defBody s_Teq) (defScope s_Teq) .none kV8 dc8 pm8 an8 cd8 ct8,
    F_Teq := F8,
    b_Teq := B8,
    M_Teq := ⟨a8, i8, k8⟩,
    f_Tway := f9,
    fd_Tway := PySem.W.fnOf "way" "Tree.way" (defArgs s_Tway) (defBody s_Tway) (defScope s_Tway) .none kV9 dc9 pm9 an9 cd9 ct9,
    F_Tway := F9,
    b_Tway := B9,
    M_Tway := ⟨a9, i9, k9⟩,
    f_Tstruck := f10,
    fd_Tstruck := PySem.W.fnOf "struck" "Tree.struck" (defArgs s_Tstruck) (defBody s_Tstruck) (defScope s_Tstruck) .none kV10 dc10 pm10 an10 cd10 ct10,
    F_Tstruck := F10,
    b_Tstruck := B10,
    M_Tstruck := ⟨a10, i10, k10⟩,
    f_Tapart := f11,
    fd_Tapart := PySem.W.fnOf "apart" "Tree.apart" (defArgs s_Tapart) (defBody s_Tapart) (defScope s_Tapart) .none kV11 dc11 pm11 an11 cd11 ct11,
    F_Tapart := F11,
    b_Tapart := B11,
    M_Tapart := ⟨a11, i11, k11⟩,
    f_is_word := f12,
    fd_is_word := PySem.W.fnOf "is_word" "is_word" (defArgs s_is_word) (defBody s_is_word) (defScope s_is_word) .none kV12 dc12 pm12 an12 cd12 ct12,
    F_is_word := F12,
    b_is_word := B12,
    m_is_word := PySem.W.mg_of X G a12,
    f_are_different_words := f13,
    fd_are_different_words := PySem.W.fnOf "are_different_words" "are_different_words" (defArgs s_are_different_words) (defBody s_are_different_words) (defScope s_are_different_words) .none kV13 dc13 pm13 an13 cd13 ct13,
    F_are_different_words := F13,
    b_are_different_words := B13,
    m_are_different_words := PySem.W.mg_of X G a13,
    f_has_words_of := f14,
    fd_has_words_of := PySem.W.fnOf "has_words_of" "has_words_of" (defArgs s_has_words_of) (defBody s_has_words_of) (defScope s_has_words_of) .none kV14 dc14 pm14 an14 cd14 ct14,
    F_has_words_of := F14,
    b_has_words_of := B14,
    m_has_words_of := PySem.W.mg_of X G a14,
    f_tests_are_ahead := f15,
    fd_tests_are_ahead := PySem.W.fnOf "tests_are_ahead" "tests_are_ahead" (defArgs s_tests_are_ahead) (defBody s_tests_are_ahead) (defScope s_tests_are_ahead) .none kV15 dc15 pm15 an15 cd15 ct15,
    F_tests_are_ahead := F15,
    b_tests_are_ahead := B15,
    m_tests_are_ahead := PySem.W.mg_of X G a15,
    f_off_has_home := f16,
    fd_off_has_home := PySem.W.fnOf "off_has_home" "off_has_home" (defArgs s_off_has_home) (defBody s_off_has_home) (defScope s_off_has_home) .none kV16 dc16 pm16 an16 cd16 ct16,
    F_off_has_home := F16,
    b_off_has_home := B16,
    m_off_has_home := PySem.W.mg_of X G a16,
    f_is_take_row := f17,
    fd_is_take_row := PySem.W.fnOf "is_take_row" "is_take_row" (defArgs s_is_take_row) (defBody s_is_take_row) (defScope s_is_take_row) .none kV17 dc17 pm17 an17 cd17 ct17,
    F_is_take_row := F17,
    b_is_take_row := B17,
    m_is_take_row := PySem.W.mg_of X G a17,
    f_is_give_row := f18,
    fd_is_give_row := PySem.W.fnOf "is_give_row" "is_give_row" (defArgs s_is_give_row) (defBody s_is_give_row) (defScope s_is_give_row) .none kV18 dc18 pm18 an18 cd18 ct18,
    F_is_give_row := F18,
    b_is_give_row := B18,
    m_is_give_row := PySem.W.mg_of X G a18,
    f_is_move_row := f19,
    fd_is_move_row := PySem.W.fnOf "is_move_row" "is_move_row" (defArgs s_is_move_row) (defBody s_is_move_row) (defScope s_is_move_row) .none kV19 dc19 pm19 an19 cd19 ct19,
    F_is_move_row := F19,
    b_is_move_row := B19,
    m_is_move_row := PySem.W.mg_of X G a19,
    f_is_lift_row := f20,
    fd_is_lift_row := PySem.W.fnOf "is_lift_row" "is_lift_row" (defArgs s_is_lift_row) (defBody s_is_lift_row) (defScope s_is_lift_row) .none kV20 dc20 pm20 an20 cd20 ct20,
    F_is_lift_row := F20,
    b_is_lift_row := B20,
    m_is_lift_row := PySem.W.mg_of X G a20,
    f_is_row := f21,
    fd_is_row := PySem.W.fnOf "is_row" "is_row" (defArgs s_is_row) (defBody s_is_row) (defScope s_is_row) .none kV21 dc21 pm21 an21 cd21 ct21,
    F_is_row := F21,
    b_is_row := B21,
    m_is_row := PySem.W.mg_of X G a21,
    f_fits_batch := f22,
    fd_fits_batch := PySem.W.fnOf "fits_batch" "fits_batch" (defArgs s_fits_batch) (defBody s_fits_batch) (defScope s_fits_batch) .none kV22 dc22 pm22 an22 cd22 ct22,
    F_fits_batch := F22,
    b_fits_batch := B22,
    m_fits_batch := PySem.W.mg_of X G a22,
    f_fits_shared := f23,
    fd_fits_shared := PySem.W.fnOf "fits_shared" "fits_shared" (defArgs s_fits_shared) (defBody s_fits_shared) (defScope s_fits_shared) .none kV23 dc23 pm23 an23 cd23 ct23,
    F_fits_shared := F23,
    b_fits_shared := B23,
    m_fits_shared := PySem.W.mg_of X G a23,
    f_check_rows := f24,
    fd_check_rows := PySem.W.fnOf "check_rows" "check_rows" (defArgs s_check_rows) (defBody s_check_rows) (defScope s_check_rows) .none kV24 dc24 pm24 an24 cd24 ct24,
    F_check_rows := F24,
    b_check_rows := B24,
    m_check_rows := PySem.W.mg_of X G a24,
    f_check_fails := f25,
    fd_check_fails := PySem.W.fnOf "check_fails" "check_fails" (defArgs s_check_fails) (defBody s_check_fails) (defScope s_check_fails) .none kV25 dc25 pm25 an25 cd25 ct25,
    F_check_fails := F25,
    b_check_fails := B25,
    m_check_fails := PySem.W.mg_of X G a25,
    f_check_bool := f26,
    fd_check_bool := PySem.W.fnOf "check_bool" "check_bool" (defArgs s_check_bool) (defBody s_check_bool) (defScope s_check_bool) .none kV26 dc26 pm26 an26 cd26 ct26,
    F_check_bool := F26,
    b_check_bool := B26,
    m_check_bool := PySem.W.mg_of X G a26,
    f_check_holds := f27,
    fd_check_holds := PySem.W.fnOf "check_holds" "check_holds" (defArgs s_check_holds) (defBody s_check_holds) (defScope s_check_holds) .none kV27 dc27 pm27 an27 cd27 ct27,
    F_check_holds := F27,
    b_check_holds := B27,
    m_check_holds := PySem.W.mg_of X G a27,
    f_check_batch := f28,
    fd_check_batch := PySem.W.fnOf "check_batch" "check_batch" (defArgs s_check_batch) (defBody s_check_batch) (defScope s_check_batch) .none kV28 dc28 pm28 an28 cd28 ct28,
    F_check_batch := F28,
    b_check_batch := B28,
    m_check_batch := PySem.W.mg_of X G a28,
    f_check_row_kind := f29,
    fd_check_row_kind := PySem.W.fnOf "check_row_kind" "check_row_kind" (defArgs s_check_row_kind) (defBody s_check_row_kind) (defScope s_check_row_kind) .none kV29 dc29 pm29 an29 cd29 ct29,
    F_check_row_kind := F29,
    b_check_row_kind := B29,
    m_check_row_kind := PySem.W.mg_of X G a29,
    f_Binit := f30,
    fd_Binit := PySem.W.fnOf "__init__" "Book.__init__" (defArgs s_Binit) (defBody s_Binit) (defScope s_Binit) .none kV30 dc30 pm30 an30 cd30 ct30,
    F_Binit := F30,
    mk_Book := ⟨mk, a30, i30, kc⟩,
    k_Binit := ⟨fun s us ws _ l1 l2 => match us, l1, ws, l2 with | [_], _, [_, _, _, _, _, _, _, _, _], _ => .of_eq rfl, fun r1 r2 => r1.append r2⟩,
    f_Beq := f31,
    fd_Beq := PySem.W.fnOf "__eq__" "Book.__eq__" (defArgs s_Beq) (defBody s_Beq) (defScope s_Beq) .none kV31 dc31 pm31 an31 cd31 ct31,
    F_Beq := F31,
    b_Beq := B31,
    M_Beq := ⟨a31, i31, k31⟩,
    f_Brow := f32,
    fd_Brow := PySem.W.fnOf "row" "Book.row" (defArgs s_Brow) (defBody s_Brow) (defScope s_Brow) .none kV32 dc32 pm32 an32 cd32 ct32,
    F_Brow := F32,
    b_Brow := B32,
    M_Brow := ⟨a32, i32, k32⟩,
    f_Cinit := f33,
    fd_Cinit := PySem.W.fnOf "__init__" "Course.__init__" (defArgs s_Cinit) (defBody s_Cinit) (defScope s_Cinit) (.ref T33) kV33 dc33 pm33 an33 cd33 ct33,
    F_Cinit := D33,
    w0_Cinit := w33_0,
    v0_Cinit := v33_0,
    b0_Cinit := b33_0,
    w1_Cinit := w33_1,
    v1_Cinit := v33_1,
    b1_Cinit := b33_1,
    w2_Cinit := w33_2,
    v2_Cinit := v33_2,
    b2_Cinit := b33_2,
    w3_Cinit := w33_3,
    v3_Cinit := v33_3,
    b3_Cinit := b33_3,
    mk_Course := ⟨mk_Course, a33, i33, kc_Course⟩,
    f_Cgroups := f34,
    fd_Cgroups := PySem.W.fnOf "groups" "Course.groups" (defArgs s_Cgroups) (defBody s_Cgroups) (defScope s_Cgroups) .none kV34 dc34 pm34 an34 cd34 ct34,
    F_Cgroups := F34,
    b_Cgroups := B34,
    M_Cgroups := ⟨a34, i34, k34⟩,
    f_Csingle_deeds := f35,
    fd_Csingle_deeds := PySem.W.fnOf "single_deeds" "Course.single_deeds" (defArgs s_Csingle_deeds) (defBody s_Csingle_deeds) (defScope s_Csingle_deeds) .none kV35 dc35 pm35 an35 cd35 ct35,
    F_Csingle_deeds := F35,
    b_Csingle_deeds := B35,
    M_Csingle_deeds := ⟨a35, i35, k35⟩,
    f_take_course := f36,
    fd_take_course := PySem.W.fnOf "take_course" "take_course" (defArgs s_take_course) (defBody s_take_course) (defScope s_take_course) .none kV36 dc36 pm36 an36 cd36 ct36,
    F_take_course := F36,
    b_take_course := B36,
    m_take_course := PySem.W.mg_of X G a36,
    f_give_course := f37,
    fd_give_course := PySem.W.fnOf "give_course" "give_course" (defArgs s_give_course) (defBody s_give_course) (defScope s_give_course) (.ref T37) kV37 dc37 pm37 an37 cd37 ct37,
    F_give_course := D37,
    w0_give_course := w37_0,
    v0_give_course := v37_0,
    b0_give_course := b37_0,
    w1_give_course := w37_1,
    v1_give_course := v37_1,
    b1_give_course := b37_1,
    m_give_course := PySem.W.mg_of X G a37,
    f_plan := f38,
    fd_plan := PySem.W.fnOf "plan" "plan" (defArgs s_plan) (defBody s_plan) (defScope s_plan) .none kV38 dc38 pm38 an38 cd38 ct38,
    F_plan := F38,
    b_plan := B38,
    m_plan := PySem.W.mg_of X G a38,
    f_take_plan := f39,
    fd_take_plan := PySem.W.fnOf "take_plan" "take_plan" (defArgs s_take_plan) (defBody s_take_plan) (defScope s_take_plan) .none kV39 dc39 pm39 an39 cd39 ct39,
    F_take_plan := F39,
    b_take_plan := B39,
    m_take_plan := PySem.W.mg_of X G a39,
    k_take_plan_group_tree_book := ⟨fun s us ws _ l1 l2 => match us, l1, ws, l2 with | [], _, [_, _, _], _ => .of_eq rfl, fun r1 r2 => sel_rel r1 .nil r2 _⟩,
    f_give_plan := f40,
    fd_give_plan := PySem.W.fnOf "give_plan" "give_plan" (defArgs s_give_plan) (defBody s_give_plan) (defScope s_give_plan) .none kV40 dc40 pm40 an40 cd40 ct40,
    F_give_plan := F40,
    b_give_plan := B40,
    m_give_plan := PySem.W.mg_of X G a40,
    k_give_plan_home_book_tree := ⟨fun s us ws _ l1 l2 => match us, l1, ws, l2 with | [], _, [_, _, _], _ => .of_eq rfl, fun r1 r2 => sel_rel r1 .nil r2 _⟩,
    f_Lpot := f41,
    fd_Lpot := PySem.W.fnOf "_law_pot" "_law_pot" (defArgs s_Lpot) (defBody s_Lpot) (defScope s_Lpot) .none kV41 dc41 pm41 an41 cd41 ct41,
    F_Lpot := F41,
    b_Lpot := B41,
    m_Lpot := PySem.W.mg_of X G a41,
    f_Ldraw := f42,
    fd_Ldraw := PySem.W.fnOf "_law_draw" "_law_draw" (defArgs s_Ldraw) (defBody s_Ldraw) (defScope s_Ldraw) .none kV42 dc42 pm42 an42 cd42 ct42,
    F_Ldraw := F42,
    b_Ldraw := B42,
    m_Ldraw := PySem.W.mg_of X G a42,
    f_Lpick := f43,
    fd_Lpick := PySem.W.fnOf "_law_pick" "_law_pick" (defArgs s_Lpick) (defBody s_Lpick) (defScope s_Lpick) .none kV43 dc43 pm43 an43 cd43 ct43,
    F_Lpick := F43,
    b_Lpick := B43,
    m_Lpick := PySem.W.mg_of X G a43,
    f_Lups := f44,
    fd_Lups := PySem.W.fnOf "_law_ups" "_law_ups" (defArgs s_Lups) (defBody s_Lups) (defScope s_Lups) .none kV44 dc44 pm44 an44 cd44 ct44,
    F_Lups := F44,
    b_Lups := B44,
    m_Lups := PySem.W.mg_of X G a44,
    f_Lpath := f45,
    fd_Lpath := PySem.W.fnOf "_law_path" "_law_path" (defArgs s_Lpath) (defBody s_Lpath) (defScope s_Lpath) .none kV45 dc45 pm45 an45 cd45 ct45,
    F_Lpath := F45,
    b_Lpath := B45,
    m_Lpath := PySem.W.mg_of X G a45,
    f_Llifts := f46,
    fd_Llifts := PySem.W.fnOf "_law_lifts" "_law_lifts" (defArgs s_Llifts) (defBody s_Llifts) (defScope s_Llifts) .none kV46 dc46 pm46 an46 cd46 ct46,
    F_Llifts := F46,
    b_Llifts := B46,
    m_Llifts := PySem.W.mg_of X G a46,
    f_Lmenu := f47,
    fd_Lmenu := PySem.W.fnOf "_law_menu" "_law_menu" (defArgs s_Lmenu) (defBody s_Lmenu) (defScope s_Lmenu) .none kV47 dc47 pm47 an47 cd47 ct47,
    F_Lmenu := F47,
    b_Lmenu := B47,
    m_Lmenu := PySem.W.mg_of X G a47,
    f_Lrules := f48,
    fd_Lrules := PySem.W.fnOf "_law_rules" "_law_rules" (defArgs s_Lrules) (defBody s_Lrules) (defScope s_Lrules) .none kV48 dc48 pm48 an48 cd48 ct48,
    F_Lrules := F48,
    b_Lrules := B48,
    m_Lrules := PySem.W.mg_of X G a48,
    f_Lbook := f49,
    fd_Lbook := PySem.W.fnOf "_law_book" "_law_book" (defArgs s_Lbook) (defBody s_Lbook) (defScope s_Lbook) .none kV49 dc49 pm49 an49 cd49 ct49,
    F_Lbook := F49,
    b_Lbook := B49,
    m_Lbook := PySem.W.mg_of X G a49,
    f_Lstruck_ones := f50,
    fd_Lstruck_ones := PySem.W.fnOf "_law_struck_ones" "_law_struck_ones" (defArgs s_Lstruck_ones) (defBody s_Lstruck_ones) (defScope s_Lstruck_ones) .none kV50 dc50 pm50 an50 cd50 ct50,
    F_Lstruck_ones := F50,
    b_Lstruck_ones := B50,
    m_Lstruck_ones := PySem.W.mg_of X G a50,
    f_Ldeeds_due := f51,
    fd_Ldeeds_due := PySem.W.fnOf "_law_deeds_due" "_law_deeds_due" (defArgs s_Ldeeds_due) (defBody s_Ldeeds_due) (defScope s_Ldeeds_due) .none kV51 dc51 pm51 an51 cd51 ct51,
    F_Ldeeds_due := F51,
    b_Ldeeds_due := B51,
    m_Ldeeds_due := PySem.W.mg_of X G a51,
    f_Lspot_right := f52,
    fd_Lspot_right := PySem.W.fnOf "_law_spot_right" "_law_spot_right" (defArgs s_Lspot_right) (defBody s_Lspot_right) (defScope s_Lspot_right) .none kV52 dc52 pm52 an52 cd52 ct52,
    F_Lspot_right := F52,
    b_Lspot_right := B52,
    m_Lspot_right := PySem.W.mg_of X G a52,
    f_Lothers := f53,
    fd_Lothers := PySem.W.fnOf "_law_others" "_law_others" (defArgs s_Lothers) (defBody s_Lothers) (defScope s_Lothers) .none kV53 dc53 pm53 an53 cd53 ct53,
    F_Lothers := F53,
    b_Lothers := B53,
    m_Lothers := PySem.W.mg_of X G a53,
    f_Lright := f54,
    fd_Lright := PySem.W.fnOf "_law_right" "_law_right" (defArgs s_Lright) (defBody s_Lright) (defScope s_Lright) .none kV54 dc54 pm54 an54 cd54 ct54,
    F_Lright := F54,
    b_Lright := B54,
    m_Lright := PySem.W.mg_of X G a54,
    f_law := fa,
    fd_law := PySem.W.fnOf "law" "law" (defArgs s_law) (defBody s_law) (defScope s_law) .none kV55 dc55 pm55 an55 cd55 ct55,
    F_law := F55,
    b_law := B55,
    m_law := PySem.W.mg_of X G a55,
    z_abs := PySem.W.mg_none_of X G z_abs,
    z_all := PySem.W.mg_none_of X G z_all,
    z_bool := PySem.W.mg_none_of X G z_bool,
    z_dict := PySem.W.mg_none_of X G z_dict,
    z_divmod := PySem.W.mg_none_of X G z_divmod,
    z_enumerate := PySem.W.mg_none_of X G z_enumerate,
    z_int := PySem.W.mg_none_of X G z_int,
    z_isinstance := PySem.W.mg_none_of X G z_isinstance,
    z_len := PySem.W.mg_none_of X G z_len,
    z_list := PySem.W.mg_none_of X G z_list,
    z_max := PySem.W.mg_none_of X G z_max,
    z_min := PySem.W.mg_none_of X G z_min,
    z_range := PySem.W.mg_none_of X G z_range,
    z_repr := PySem.W.mg_none_of X G z_repr,
    z_set := PySem.W.mg_none_of X G z_set,
    z_sorted := PySem.W.mg_none_of X G z_sorted,
    z_str := PySem.W.mg_none_of X G z_str,
    z_tuple := PySem.W.mg_none_of X G z_tuple,
    t_MOST_BATCH := t_MOST_BATCH,
    m_MOST_BATCH := PySem.W.mg_of X G g_MOST_BATCH,
    t_MOST_GROUPS := t_MOST_GROUPS,
    m_MOST_GROUPS := PySem.W.mg_of X G g_MOST_GROUPS,
    g_FAILS := T_FAILS,
    m_FAILS := PySem.W.mg_of X G g_FAILS,
    s_FAILS := fun H => .inr ⟨_, _, _, h_T_FAILS, rfl, rfl, (by show 3 ≤ sizeLine; decide), .cons ⟨_, rfl⟩ (.cons ⟨_, rfl⟩ (.cons ⟨_, rfl⟩ (.nil)))⟩,
    g_ROW_KINDS := T_ROW_KINDS,
    m_ROW_KINDS := PySem.W.mg_of X G g_ROW_KINDS,
    s_ROW_KINDS := fun H => .inr ⟨_, _, _, h_T_ROW_KINDS, rfl, rfl, (by show 4 ≤ sizeLine; decide), .cons ⟨_, rfl⟩ (.cons ⟨_, rfl⟩ (.cons ⟨_, rfl⟩ (.cons ⟨_, rfl⟩ (.nil))))⟩,
    g_WAY_WORDS := T_WAY_WORDS,
    m_WAY_WORDS := PySem.W.mg_of X G g_WAY_WORDS,
    s_WAY_WORDS := fun H => .inr ⟨_, _, _, h_T_WAY_WORDS, rfl, rfl, (by show 4 ≤ sizeLine; decide), .cons ⟨_, rfl⟩ (.cons ⟨_, rfl⟩ (.cons ⟨_, rfl⟩ (.cons ⟨_, rfl⟩ (.nil))))⟩,
    g_LIFT_ROWS := T_LIFT_ROWS,
    m_LIFT_ROWS := PySem.W.mg_of X G g_LIFT_ROWS,
    g0_LIFT_ROWS := T0_LIFT_ROWS,
    s0_LIFT_ROWS := fun H => .inr ⟨_, _, _, h_T0_LIFT_ROWS, rfl, rfl, (by show 0 ≤ sizeLine; decide), .nil⟩,
    g1_LIFT_ROWS := T1_LIFT_ROWS,
    s1_LIFT_ROWS := fun H => .inr ⟨_, _, _, h_T1_LIFT_ROWS, rfl, rfl, (by show 1 ≤ sizeLine; decide), .cons ⟨_, rfl⟩ (.nil)⟩,
    g2_LIFT_ROWS := T2_LIFT_ROWS,
    s2_LIFT_ROWS := fun H => .inr ⟨_, _, _, h_T2_LIFT_ROWS, rfl, rfl, (by show 1 ≤ sizeLine; decide), .cons ⟨_, rfl⟩ (.nil)⟩,
    g3_LIFT_ROWS := T3_LIFT_ROWS,
    s3_LIFT_ROWS := fun H => .inr ⟨_, _, _, h_T3_LIFT_ROWS, rfl, rfl, (by show 2 ≤ sizeLine; decide), .cons ⟨_, rfl⟩ (.cons ⟨_, rfl⟩ (.nil))⟩,
    g4_LIFT_ROWS := T4_LIFT_ROWS,
    s4_LIFT_ROWS := fun H => .inr ⟨_, _, _, h_T4_LIFT_ROWS, rfl, rfl, (by show 2 ≤ sizeLine; decide), .cons ⟨_, rfl⟩ (.cons ⟨_, rfl⟩ (.nil))⟩,
    g5_LIFT_ROWS := T5_LIFT_ROWS,
    s5_LIFT_ROWS := fun H => .inr ⟨_, _, _, h_T5_LIFT_ROWS, rfl, rfl, (by show 1 ≤ sizeLine; decide), .cons ⟨_, rfl⟩ (.nil)⟩,
    s_LIFT_ROWS := fun H => .inr ⟨_, _, _, h_T_LIFT_ROWS, rfl, rfl, (by show 6 ≤ sizeLine; decide), .cons rfl (.cons rfl (.cons rfl (.cons rfl (.cons rfl (.cons rfl (.nil))))))⟩,
    g_ROW_CHECKS := T_ROW_CHECKS,
    m_ROW_CHECKS := PySem.W.mg_of X G g_ROW_CHECKS,
    k_ROW_CHECKS_take := ⟨_, _, _, h_ROW_CHECKS, y_ROW_CHECKS, x_ROW_CHECKS_take, rfl⟩,
    k_ROW_CHECKS_give := ⟨_, _, _, h_ROW_CHECKS, y_ROW_CHECKS, x_ROW_CHECKS_give, rfl⟩,
    k_ROW_CHECKS_move := ⟨_, _, _, h_ROW_CHECKS, y_ROW_CHECKS, x_ROW_CHECKS_move, rfl⟩,
    k_ROW_CHECKS_lift := ⟨_, _, _, h_ROW_CHECKS, y_ROW_CHECKS, x_ROW_CHECKS_lift, rfl⟩ }
  exact ⟨T.fd_law, fun s v => .of_eq rfl, fun base _ _ => ok_text T⟩
end My
namespace Hd
open PySem PySem.Spec PyProof.Rows L2 GL My
def aa_C (K : PySem.W.Frag) : Addr := He.ga K "Book"
def aa_C_Tree (K : PySem.W.Frag) : Addr := He.ga K "Tree"
def aa_C_Course (K : PySem.W.Frag) : Addr := He.ga K "Course"
def aa_f1 (K : PySem.W.Frag) : Addr := He.ga K "is_an_integer"
def aa_f2 (K : PySem.W.Frag) : Addr := He.ga K "is_list"
def aa_f3 (K : PySem.W.Frag) : Addr := He.ga K "check_group"
def aa_f4 (K : PySem.W.Frag) : Addr := He.ga K "check_parents"
def aa_f5 (K : PySem.W.Frag) : Addr := He.ga K "check_struck"
def aa_f6 (K : PySem.W.Frag) : Addr := He.ma K (aa_C_Tree K) "__init__"
def aa_T6 (K : PySem.W.Frag) : Addr := HK.dfA K (aa_f6 K)
def aa_d6_0 (K : PySem.W.Frag) : Addr := HK.itA K (aa_T6 K) 0
def aa_d6_1 (K : PySem.W.Frag) : Addr := HK.itA K (aa_T6 K) 1
def aa_f7 (K : PySem.W.Frag) : Addr := He.ma K (aa_C_Tree K) "__len__"
def aa_f8 (K : PySem.W.Frag) : Addr := He.ma K (aa_C_Tree K) "__eq__"
def aa_f9 (K : PySem.W.Frag) : Addr := He.ma K (aa_C_Tree K) "way"
def aa_f10 (K : PySem.W.Frag) : Addr := He.ma K (aa_C_Tree K) "struck"
def aa_f11 (K : PySem.W.Frag) : Addr := He.ma K (aa_C_Tree K) "apart"
def aa_f12 (K : PySem.W.Frag) : Addr := He.ga K "is_word"
def aa_f13 (K : PySem.W.Frag) : Addr := He.ga K "are_different_words"
def aa_f14 (K : PySem.W.Frag) : Addr := He.ga K "has_words_of"
def aa_f15 (K : PySem.W.Frag) : Addr := He.ga K "tests_are_ahead"
def aa_f16 (K : PySem.W.Frag) : Addr := He.ga K "off_has_home"
def aa_f17 (K : PySem.W.Frag) : Addr := He.ga K "is_take_row"
def aa_f18 (K : PySem.W.Frag) : Addr := He.ga K "is_give_row"
def aa_f19 (K : PySem.W.Frag) : Addr := He.ga K "is_move_row"
def aa_f20 (K : PySem.W.Frag) : Addr := He.ga K "is_lift_row"
def aa_f21 (K : PySem.W.Frag) : Addr := He.ga K "is_row"
def aa_f22 (K : PySem.W.Frag) : Addr := He.ga K "fits_batch"
def aa_f23 (K : PySem.W.Frag) : Addr := He.ga K "fits_shared"
def aa_f24 (K : PySem.W.Frag) : Addr := He.ga K "check_rows"
def aa_f25 (K : PySem.W.Frag) : Addr := He.ga K "check_fails"
def aa_f26 (K : PySem.W.Frag) : Addr := He.ga K "check_bool"
def aa_f27 (K : PySem.W.Frag) : Addr := He.ga K "check_holds"
def aa_f28 (K : PySem.W.Frag) : Addr := He.ga K "check_batch"
def aa_f29 (K : PySem.W.Frag) : Addr := He.ga K "check_row_kind"
def aa_f30 (K : PySem.W.Frag) : Addr := He.ma K (aa_C K) "__init__"
def aa_f31 (K : PySem.W.Frag) : Addr := He.ma K (aa_C K) "__eq__"
def aa_f32 (K : PySem.W.Frag) : Addr := He.ma K (aa_C K) "row"
def aa_f33 (K : PySem.W.Frag) : Addr := He.ma K (aa_C_Course K) "__init__"
def aa_T33 (K : PySem.W.Frag) : Addr := HK.dfA K (aa_f33 K)
def aa_f34 (K : PySem.W.Frag) : Addr := He.ma K (aa_C_Course K) "groups"
def aa_f35 (K : PySem.W.Frag) : Addr := He.ma K (aa_C_Course K) "single_deeds"
def aa_f36 (K : PySem.W.Frag) : Addr := He.ga K "take_course"
def aa_f37 (K : PySem.W.Frag) : Addr := He.ga K "give_course"
def aa_T37 (K : PySem.W.Frag) : Addr := HK.dfA K (aa_f37 K)
def aa_f38 (K : PySem.W.Frag) : Addr := He.ga K "plan"
def aa_f39 (K : PySem.W.Frag) : Addr := He.ga K "take_plan"
def aa_f40 (K : PySem.W.Frag) : Addr := He.ga K "give_plan"
def aa_f41 (K : PySem.W.Frag) : Addr := He.ga K "_law_pot"
def aa_f42 (K : PySem.W.Frag) : Addr := He.ga K "_law_draw"
def aa_f43 (K : PySem.W.Frag) : Addr := He.ga K "_law_pick"
def aa_f44 (K : PySem.W.Frag) : Addr := He.ga K "_law_ups"
def aa_f45 (K : PySem.W.Frag) : Addr := He.ga K "_law_path"
def aa_f46 (K : PySem.W.Frag) : Addr := He.ga K "_law_lifts"
def aa_f47 (K : PySem.W.Frag) : Addr := He.ga K "_law_menu"
def aa_f48 (K : PySem.W.Frag) : Addr := He.ga K "_law_rules"
def aa_f49 (K : PySem.W.Frag) : Addr := He.ga K "_law_book"
def aa_f50 (K : PySem.W.Frag) : Addr := He.ga K "_law_struck_ones"
def aa_f51 (K : PySem.W.Frag) : Addr := He.ga K "_law_deeds_due"
def aa_f52 (K : PySem.W.Frag) : Addr := He.ga K "_law_spot_right"
def aa_f53 (K : PySem.W.Frag) : Addr := He.ga K "_law_others"
def aa_f54 (K : PySem.W.Frag) : Addr := He.ga K "_law_right"
def aa_f55 (K : PySem.W.Frag) : Addr := He.ga K "law"
def aa_T_FAILS (K : PySem.W.Frag) : Addr := He.ga K "FAILS"
def aa_T_ROW_KINDS (K : PySem.W.Frag) : Addr := He.ga K "ROW_KINDS"
def aa_T_WAY_WORDS (K : PySem.W.Frag) : Addr := He.ga K "WAY_WORDS"
def aa_T_LIFT_ROWS (K : PySem.W.Frag) : Addr := He.ga K "LIFT_ROWS"
def aa_T0_LIFT_ROWS (K : PySem.W.Frag) : Addr := HK.itA K (aa_T_LIFT_ROWS K) 0
def aa_T1_LIFT_ROWS (K : PySem.W.Frag) : Addr := HK.itA K (aa_T_LIFT_ROWS K) 1
def aa_T2_LIFT_ROWS (K : PySem.W.Frag) : Addr := HK.itA K (aa_T_LIFT_ROWS K) 2
def aa_T3_LIFT_ROWS (K : PySem.W.Frag) : Addr := HK.itA K (aa_T_LIFT_ROWS K) 3
def aa_T4_LIFT_ROWS (K : PySem.W.Frag) : Addr := HK.itA K (aa_T_LIFT_ROWS K) 4
def aa_T5_LIFT_ROWS (K : PySem.W.Frag) : Addr := HK.itA K (aa_T_LIFT_ROWS K) 5
def aa_T_ROW_CHECKS (K : PySem.W.Frag) : Addr := He.ga K "ROW_CHECKS"
def ex0 : List (PySem.W.Frag → Bool) := [
  fun K => HK.eqB (PySem.W.nsIn K mainGlobals "Book") (some (some (.ref (aa_C K)))),
  fun K => PySem.W.plainGet K (aa_C K) Str.empty,
  fun K => PySem.W.hasDictIn K (aa_C K),
  fun K => PySem.W.plainOver K (aa_C K),
  fun K => HK.eqB (PySem.W.findIn K (.ref (aa_C K)) "__setattr__") (some (some (.builtin "object.__setattr__"))),
  fun K => PySem.W.makesIn K (aa_C K),
  fun K => PySem.W.keepIn K (.ref (aa_C K)),
  fun K => HK.eqB (PySem.W.findIn K (.ref (aa_C K)) "_parts") (some none),
  fun K => HK.eqB (PySem.W.findIn K (.ref (aa_C K)) "__class__") (some (some (.builtin "object.__class__"))),
  fun K => HK.eqB (PySem.W.specialIn K (.builtin "object.__class__") "__get__") (some (some (.builtin "getset_descriptor.__get__"))),
  fun K => HK.eqB (PySem.W.takesIn K (.builtin "object.__class__")) (some true),
  fun K => HK.eqB (PySem.W.mroIn K (aa_C K) (.type "object")) (some true),
  fun K => HK.eqB (PySem.W.findIn K (.ref (aa_C K)) "__ne__") (some (some (.builtin "object.__ne__"))),
  fun K => PySem.W.isClsIn K (aa_C K),
  fun K => HK.eqB (PySem.W.typeIn K (.ref (aa_C K))) (some (.type "type")),
  fun K => HK.eqB (PySem.W.nsIn K mainGlobals "Tree") (some (some (.ref (aa_C_Tree K)))),
  fun K => PySem.W.plainGet K (aa_C_Tree K) Str.empty,
  fun K => PySem.W.hasDictIn K (aa_C_Tree K),
  fun K => PySem.W.plainOver K (aa_C_Tree K),
  fun K => HK.eqB (PySem.W.findIn K (.ref (aa_C_Tree K)) "__setattr__") (some (some (.builtin "object.__setattr__"))),
  fun K => PySem.W.makesIn K (aa_C_Tree K),
  fun K => PySem.W.keepIn K (.ref (aa_C_Tree K)),
  fun K => HK.eqB (PySem.W.findIn K (.ref (aa_C_Tree K)) "_above") (some none),
  fun K => HK.eqB (PySem.W.findIn K (.ref (aa_C_Tree K)) "_struck") (some none),
  fun K => HK.eqB (PySem.W.findIn K (.ref (aa_C_Tree K)) "__class__") (some (some (.builtin "object.__class__"))),
  fun K => HK.eqB (PySem.W.specialIn K (.builtin "object.__class__") "__get__") (some (some (.builtin "getset_descriptor.__get__"))),
  fun K => HK.eqB (PySem.W.takesIn K (.builtin "object.__class__")) (some true),
  fun K => HK.eqB (PySem.W.mroIn K (aa_C_Tree K) (.type "object")) (some true),
  fun K => HK.eqB (PySem.W.findIn K (.ref (aa_C_Tree K)) "__ne__") (some (some (.builtin "object.__ne__"))),
  fun K => PySem.W.isClsIn K (aa_C_Tree K)]
def ex1 : List (PySem.W.Frag → Bool) := [
  fun K => HK.eqB (PySem.W.typeIn K (.ref (aa_C_Tree K))) (some (.type "type")),
  fun K => HK.eqB (PySem.W.nsIn K mainGlobals "Course") (some (some (.ref (aa_C_Course K)))),
  fun K => PySem.W.plainGet K (aa_C_Course K) Str.empty,
  fun K => PySem.W.hasDictIn K (aa_C_Course K),
  fun K => PySem.W.plainOver K (aa_C_Course K),
  fun K => HK.eqB (PySem.W.findIn K (.ref (aa_C_Course K)) "__setattr__") (some (some (.builtin "object.__setattr__"))),
  fun K => PySem.W.makesIn K (aa_C_Course K),
  fun K => PySem.W.keepIn K (.ref (aa_C_Course K)),
  fun K => HK.eqB (PySem.W.findIn K (.ref (aa_C_Course K)) "kind") (some none),
  fun K => HK.eqB (PySem.W.findIn K (.ref (aa_C_Course K)) "words") (some none),
  fun K => HK.eqB (PySem.W.findIn K (.ref (aa_C_Course K)) "group") (some none),
  fun K => HK.eqB (PySem.W.findIn K (.ref (aa_C_Course K)) "old") (some none),
  fun K => HK.eqB (PySem.W.findIn K (.ref (aa_C_Course K)) "leaves_out") (some none),
  fun K => HK.eqB (PySem.W.nsIn K mainGlobals "is_an_integer") (some (some (.ref (aa_f1 K)))),
  fun K => HK.fB K (He.fAd K ("is_an_integer", none)) "is_an_integer" .none,
  fun K => PySem.W.keepIn K (.ref (aa_f1 K)),
  fun K => HK.eqB (PySem.W.nsIn K mainGlobals "is_list") (some (some (.ref (aa_f2 K)))),
  fun K => HK.fB K (He.fAd K ("is_list", none)) "is_list" .none,
  fun K => PySem.W.keepIn K (.ref (aa_f2 K)),
  fun K => HK.eqB (PySem.W.nsIn K mainGlobals "check_group") (some (some (.ref (aa_f3 K)))),
  fun K => HK.fB K (He.fAd K ("check_group", none)) "check_group" .none,
  fun K => PySem.W.keepIn K (.ref (aa_f3 K)),
  fun K => HK.eqB (PySem.W.nsIn K mainGlobals "check_parents") (some (some (.ref (aa_f4 K)))),
  fun K => HK.fB K (He.fAd K ("check_parents", none)) "check_parents" .none,
  fun K => PySem.W.keepIn K (.ref (aa_f4 K)),
  fun K => HK.eqB (PySem.W.nsIn K mainGlobals "check_struck") (some (some (.ref (aa_f5 K)))),
  fun K => HK.fB K (He.fAd K ("check_struck", none)) "check_struck" .none,
  fun K => PySem.W.keepIn K (.ref (aa_f5 K)),
  fun K => HK.eqB (PySem.W.findIn K (.ref (aa_C_Tree K)) "__init__") (some (some (.ref (aa_f6 K)))),
  fun K => PySem.W.isFn K (.ref (aa_f6 K))]
def ex2 : List (PySem.W.Frag → Bool) := [
  fun K => HK.fB K (He.fAd K ("Tree", some "__init__")) "Tree.__init__" (.ref (aa_T6 K)),
  fun K => PySem.W.keepIn K (.ref (aa_f6 K)),
  fun K => HK.seqB K (aa_T6 K) (none) [.val (.ref (aa_d6_0 K)), .val (.ref (aa_d6_1 K))],
  fun K => HK.seqB K (aa_d6_0 K) (some (.type "tuple")) [],
  fun K => HK.seqB K (aa_d6_1 K) (some (.type "tuple")) [],
  fun K => HK.eqB (PySem.W.findIn K (.ref (aa_C_Tree K)) "__len__") (some (some (.ref (aa_f7 K)))),
  fun K => PySem.W.isFn K (.ref (aa_f7 K)),
  fun K => HK.fB K (He.fAd K ("Tree", some "__len__")) "Tree.__len__" .none,
  fun K => PySem.W.keepIn K (.ref (aa_f7 K)),
  fun K => HK.eqB (PySem.W.findIn K (.ref (aa_C_Tree K)) "__eq__") (some (some (.ref (aa_f8 K)))),
  fun K => PySem.W.isFn K (.ref (aa_f8 K)),
  fun K => HK.fB K (He.fAd K ("Tree", some "__eq__")) "Tree.__eq__" .none,
  fun K => PySem.W.keepIn K (.ref (aa_f8 K)),
  fun K => HK.eqB (PySem.W.findIn K (.ref (aa_C_Tree K)) "way") (some (some (.ref (aa_f9 K)))),
  fun K => PySem.W.isFn K (.ref (aa_f9 K)),
  fun K => HK.fB K (He.fAd K ("Tree", some "way")) "Tree.way" .none,
  fun K => PySem.W.keepIn K (.ref (aa_f9 K)),
  fun K => HK.eqB (PySem.W.findIn K (.ref (aa_C_Tree K)) "struck") (some (some (.ref (aa_f10 K)))),
  fun K => PySem.W.isFn K (.ref (aa_f10 K)),
  fun K => HK.fB K (He.fAd K ("Tree", some "struck")) "Tree.struck" .none,
  fun K => PySem.W.keepIn K (.ref (aa_f10 K)),
  fun K => HK.eqB (PySem.W.findIn K (.ref (aa_C_Tree K)) "apart") (some (some (.ref (aa_f11 K)))),
  fun K => PySem.W.isFn K (.ref (aa_f11 K)),
  fun K => HK.fB K (He.fAd K ("Tree", some "apart")) "Tree.apart" .none,
  fun K => PySem.W.keepIn K (.ref (aa_f11 K)),
  fun K => HK.eqB (PySem.W.nsIn K mainGlobals "is_word") (some (some (.ref (aa_f12 K)))),
  fun K => HK.fB K (He.fAd K ("is_word", none)) "is_word" .none,
  fun K => PySem.W.keepIn K (.ref (aa_f12 K)),
  fun K => HK.eqB (PySem.W.nsIn K mainGlobals "are_different_words") (some (some (.ref (aa_f13 K)))),
  fun K => HK.fB K (He.fAd K ("are_different_words", none)) "are_different_words" .none]
def ex3 : List (PySem.W.Frag → Bool) := [
  fun K => PySem.W.keepIn K (.ref (aa_f13 K)),
  fun K => HK.eqB (PySem.W.nsIn K mainGlobals "has_words_of") (some (some (.ref (aa_f14 K)))),
  fun K => HK.fB K (He.fAd K ("has_words_of", none)) "has_words_of" .none,
  fun K => PySem.W.keepIn K (.ref (aa_f14 K)),
  fun K => HK.eqB (PySem.W.nsIn K mainGlobals "tests_are_ahead") (some (some (.ref (aa_f15 K)))),
  fun K => HK.fB K (He.fAd K ("tests_are_ahead", none)) "tests_are_ahead" .none,
  fun K => PySem.W.keepIn K (.ref (aa_f15 K)),
  fun K => HK.eqB (PySem.W.nsIn K mainGlobals "off_has_home") (some (some (.ref (aa_f16 K)))),
  fun K => HK.fB K (He.fAd K ("off_has_home", none)) "off_has_home" .none,
  fun K => PySem.W.keepIn K (.ref (aa_f16 K)),
  fun K => HK.eqB (PySem.W.nsIn K mainGlobals "is_take_row") (some (some (.ref (aa_f17 K)))),
  fun K => HK.fB K (He.fAd K ("is_take_row", none)) "is_take_row" .none,
  fun K => PySem.W.keepIn K (.ref (aa_f17 K)),
  fun K => HK.eqB (PySem.W.nsIn K mainGlobals "is_give_row") (some (some (.ref (aa_f18 K)))),
  fun K => HK.fB K (He.fAd K ("is_give_row", none)) "is_give_row" .none,
  fun K => PySem.W.keepIn K (.ref (aa_f18 K)),
  fun K => HK.eqB (PySem.W.nsIn K mainGlobals "is_move_row") (some (some (.ref (aa_f19 K)))),
  fun K => HK.fB K (He.fAd K ("is_move_row", none)) "is_move_row" .none,
  fun K => PySem.W.keepIn K (.ref (aa_f19 K)),
  fun K => HK.eqB (PySem.W.nsIn K mainGlobals "is_lift_row") (some (some (.ref (aa_f20 K)))),
  fun K => HK.fB K (He.fAd K ("is_lift_row", none)) "is_lift_row" .none,
  fun K => PySem.W.keepIn K (.ref (aa_f20 K)),
  fun K => HK.eqB (PySem.W.nsIn K mainGlobals "is_row") (some (some (.ref (aa_f21 K)))),
  fun K => HK.fB K (He.fAd K ("is_row", none)) "is_row" .none,
  fun K => PySem.W.keepIn K (.ref (aa_f21 K)),
  fun K => HK.eqB (PySem.W.nsIn K mainGlobals "fits_batch") (some (some (.ref (aa_f22 K)))),
  fun K => HK.fB K (He.fAd K ("fits_batch", none)) "fits_batch" .none,
  fun K => PySem.W.keepIn K (.ref (aa_f22 K)),
  fun K => HK.eqB (PySem.W.nsIn K mainGlobals "fits_shared") (some (some (.ref (aa_f23 K)))),
  fun K => HK.fB K (He.fAd K ("fits_shared", none)) "fits_shared" .none]
def ex4 : List (PySem.W.Frag → Bool) := [
  fun K => PySem.W.keepIn K (.ref (aa_f23 K)),
  fun K => HK.eqB (PySem.W.nsIn K mainGlobals "check_rows") (some (some (.ref (aa_f24 K)))),
  fun K => HK.fB K (He.fAd K ("check_rows", none)) "check_rows" .none,
  fun K => PySem.W.keepIn K (.ref (aa_f24 K)),
  fun K => HK.eqB (PySem.W.nsIn K mainGlobals "check_fails") (some (some (.ref (aa_f25 K)))),
  fun K => HK.fB K (He.fAd K ("check_fails", none)) "check_fails" .none,
  fun K => PySem.W.keepIn K (.ref (aa_f25 K)),
  fun K => HK.eqB (PySem.W.nsIn K mainGlobals "check_bool") (some (some (.ref (aa_f26 K)))),
  fun K => HK.fB K (He.fAd K ("check_bool", none)) "check_bool" .none,
  fun K => PySem.W.keepIn K (.ref (aa_f26 K)),
  fun K => HK.eqB (PySem.W.nsIn K mainGlobals "check_holds") (some (some (.ref (aa_f27 K)))),
  fun K => HK.fB K (He.fAd K ("check_holds", none)) "check_holds" .none,
  fun K => PySem.W.keepIn K (.ref (aa_f27 K)),
  fun K => HK.eqB (PySem.W.nsIn K mainGlobals "check_batch") (some (some (.ref (aa_f28 K)))),
  fun K => HK.fB K (He.fAd K ("check_batch", none)) "check_batch" .none,
  fun K => PySem.W.keepIn K (.ref (aa_f28 K)),
  fun K => HK.eqB (PySem.W.nsIn K mainGlobals "check_row_kind") (some (some (.ref (aa_f29 K)))),
  fun K => HK.fB K (He.fAd K ("check_row_kind", none)) "check_row_kind" .none,
  fun K => PySem.W.keepIn K (.ref (aa_f29 K)),
  fun K => HK.eqB (PySem.W.findIn K (.ref (aa_C K)) "__init__") (some (some (.ref (aa_f30 K)))),
  fun K => PySem.W.isFn K (.ref (aa_f30 K)),
  fun K => HK.fB K (He.fAd K ("Book", some "__init__")) "Book.__init__" .none,
  fun K => PySem.W.keepIn K (.ref (aa_f30 K)),
  fun K => HK.eqB (PySem.W.findIn K (.ref (aa_C K)) "__eq__") (some (some (.ref (aa_f31 K)))),
  fun K => PySem.W.isFn K (.ref (aa_f31 K)),
  fun K => HK.fB K (He.fAd K ("Book", some "__eq__")) "Book.__eq__" .none,
  fun K => PySem.W.keepIn K (.ref (aa_f31 K)),
  fun K => HK.eqB (PySem.W.findIn K (.ref (aa_C K)) "row") (some (some (.ref (aa_f32 K)))),
  fun K => PySem.W.isFn K (.ref (aa_f32 K)),
  fun K => HK.fB K (He.fAd K ("Book", some "row")) "Book.row" .none]
def ex5 : List (PySem.W.Frag → Bool) := [
  fun K => PySem.W.keepIn K (.ref (aa_f32 K)),
  fun K => HK.eqB (PySem.W.findIn K (.ref (aa_C_Course K)) "__init__") (some (some (.ref (aa_f33 K)))),
  fun K => PySem.W.isFn K (.ref (aa_f33 K)),
  fun K => HK.fB K (He.fAd K ("Course", some "__init__")) "Course.__init__" (.ref (aa_T33 K)),
  fun K => PySem.W.keepIn K (.ref (aa_f33 K)),
  fun K => HK.seqB K (aa_T33 K) (none) [.val (.none), .val (.none), .val (.bool false)],
  fun K => HK.eqB (PySem.W.findIn K (.ref (aa_C_Course K)) "groups") (some (some (.ref (aa_f34 K)))),
  fun K => PySem.W.isFn K (.ref (aa_f34 K)),
  fun K => HK.fB K (He.fAd K ("Course", some "groups")) "Course.groups" .none,
  fun K => PySem.W.keepIn K (.ref (aa_f34 K)),
  fun K => HK.eqB (PySem.W.findIn K (.ref (aa_C_Course K)) "single_deeds") (some (some (.ref (aa_f35 K)))),
  fun K => PySem.W.isFn K (.ref (aa_f35 K)),
  fun K => HK.fB K (He.fAd K ("Course", some "single_deeds")) "Course.single_deeds" .none,
  fun K => PySem.W.keepIn K (.ref (aa_f35 K)),
  fun K => HK.eqB (PySem.W.nsIn K mainGlobals "take_course") (some (some (.ref (aa_f36 K)))),
  fun K => HK.fB K (He.fAd K ("take_course", none)) "take_course" .none,
  fun K => PySem.W.keepIn K (.ref (aa_f36 K)),
  fun K => HK.eqB (PySem.W.nsIn K mainGlobals "give_course") (some (some (.ref (aa_f37 K)))),
  fun K => HK.fB K (He.fAd K ("give_course", none)) "give_course" (.ref (aa_T37 K)),
  fun K => PySem.W.keepIn K (.ref (aa_f37 K)),
  fun K => HK.seqB K (aa_T37 K) (none) [.val (.none)],
  fun K => HK.eqB (PySem.W.nsIn K mainGlobals "plan") (some (some (.ref (aa_f38 K)))),
  fun K => HK.fB K (He.fAd K ("plan", none)) "plan" .none,
  fun K => PySem.W.keepIn K (.ref (aa_f38 K)),
  fun K => HK.eqB (PySem.W.nsIn K mainGlobals "take_plan") (some (some (.ref (aa_f39 K)))),
  fun K => HK.fB K (He.fAd K ("take_plan", none)) "take_plan" .none,
  fun K => PySem.W.keepIn K (.ref (aa_f39 K)),
  fun K => HK.eqB (PySem.W.nsIn K mainGlobals "give_plan") (some (some (.ref (aa_f40 K)))),
  fun K => HK.fB K (He.fAd K ("give_plan", none)) "give_plan" .none,
  fun K => PySem.W.keepIn K (.ref (aa_f40 K))]
def ex6 : List (PySem.W.Frag → Bool) := [
  fun K => HK.eqB (PySem.W.nsIn K mainGlobals "_law_pot") (some (some (.ref (aa_f41 K)))),
  fun K => HK.fB K (He.fAd K ("_law_pot", none)) "_law_pot" .none,
  fun K => PySem.W.keepIn K (.ref (aa_f41 K)),
  fun K => HK.eqB (PySem.W.nsIn K mainGlobals "_law_draw") (some (some (.ref (aa_f42 K)))),
  fun K => HK.fB K (He.fAd K ("_law_draw", none)) "_law_draw" .none,
  fun K => PySem.W.keepIn K (.ref (aa_f42 K)),
  fun K => HK.eqB (PySem.W.nsIn K mainGlobals "_law_pick") (some (some (.ref (aa_f43 K)))),
  fun K => HK.fB K (He.fAd K ("_law_pick", none)) "_law_pick" .none,
  fun K => PySem.W.keepIn K (.ref (aa_f43 K)),
  fun K => HK.eqB (PySem.W.nsIn K mainGlobals "_law_ups") (some (some (.ref (aa_f44 K)))),
  fun K => HK.fB K (He.fAd K ("_law_ups", none)) "_law_ups" .none,
  fun K => PySem.W.keepIn K (.ref (aa_f44 K)),
  fun K => HK.eqB (PySem.W.nsIn K mainGlobals "_law_path") (some (some (.ref (aa_f45 K)))),
  fun K => HK.fB K (He.fAd K ("_law_path", none)) "_law_path" .none,
  fun K => PySem.W.keepIn K (.ref (aa_f45 K)),
  fun K => HK.eqB (PySem.W.nsIn K mainGlobals "_law_lifts") (some (some (.ref (aa_f46 K)))),
  fun K => HK.fB K (He.fAd K ("_law_lifts", none)) "_law_lifts" .none,
  fun K => PySem.W.keepIn K (.ref (aa_f46 K)),
  fun K => HK.eqB (PySem.W.nsIn K mainGlobals "_law_menu") (some (some (.ref (aa_f47 K)))),
  fun K => HK.fB K (He.fAd K ("_law_menu", none)) "_law_menu" .none,
  fun K => PySem.W.keepIn K (.ref (aa_f47 K)),
  fun K => HK.eqB (PySem.W.nsIn K mainGlobals "_law_rules") (some (some (.ref (aa_f48 K)))),
  fun K => HK.fB K (He.fAd K ("_law_rules", none)) "_law_rules" .none,
  fun K => PySem.W.keepIn K (.ref (aa_f48 K)),
  fun K => HK.eqB (PySem.W.nsIn K mainGlobals "_law_book") (some (some (.ref (aa_f49 K)))),
  fun K => HK.fB K (He.fAd K ("_law_book", none)) "_law_book" .none,
  fun K => PySem.W.keepIn K (.ref (aa_f49 K)),
  fun K => HK.eqB (PySem.W.nsIn K mainGlobals "_law_struck_ones") (some (some (.ref (aa_f50 K)))),
  fun K => HK.fB K (He.fAd K ("_law_struck_ones", none)) "_law_struck_ones" .none,
  fun K => PySem.W.keepIn K (.ref (aa_f50 K))]
def ex7 : List (PySem.W.Frag → Bool) := [
  fun K => HK.eqB (PySem.W.nsIn K mainGlobals "_law_deeds_due") (some (some (.ref (aa_f51 K)))),
  fun K => HK.fB K (He.fAd K ("_law_deeds_due", none)) "_law_deeds_due" .none,
  fun K => PySem.W.keepIn K (.ref (aa_f51 K)),
  fun K => HK.eqB (PySem.W.nsIn K mainGlobals "_law_spot_right") (some (some (.ref (aa_f52 K)))),
  fun K => HK.fB K (He.fAd K ("_law_spot_right", none)) "_law_spot_right" .none,
  fun K => PySem.W.keepIn K (.ref (aa_f52 K)),
  fun K => HK.eqB (PySem.W.nsIn K mainGlobals "_law_others") (some (some (.ref (aa_f53 K)))),
  fun K => HK.fB K (He.fAd K ("_law_others", none)) "_law_others" .none,
  fun K => PySem.W.keepIn K (.ref (aa_f53 K)),
  fun K => HK.eqB (PySem.W.nsIn K mainGlobals "_law_right") (some (some (.ref (aa_f54 K)))),
  fun K => HK.fB K (He.fAd K ("_law_right", none)) "_law_right" .none,
  fun K => PySem.W.keepIn K (.ref (aa_f54 K)),
  fun K => HK.eqB (PySem.W.nsIn K mainGlobals "law") (some (some (.ref (aa_f55 K)))),
  fun K => HK.fB K (He.fAd K ("law", none)) "law" .none,
  fun K => PySem.W.keepIn K (.ref (aa_f55 K)),
  fun K => HK.eqB (PySem.W.nsIn K mainGlobals "abs") (some none),
  fun K => HK.eqB (PySem.W.nsIn K mainGlobals "all") (some none),
  fun K => HK.eqB (PySem.W.nsIn K mainGlobals "bool") (some none),
  fun K => HK.eqB (PySem.W.nsIn K mainGlobals "dict") (some none),
  fun K => HK.eqB (PySem.W.nsIn K mainGlobals "divmod") (some none),
  fun K => HK.eqB (PySem.W.nsIn K mainGlobals "enumerate") (some none),
  fun K => HK.eqB (PySem.W.nsIn K mainGlobals "int") (some none),
  fun K => HK.eqB (PySem.W.nsIn K mainGlobals "isinstance") (some none),
  fun K => HK.eqB (PySem.W.nsIn K mainGlobals "len") (some none),
  fun K => HK.eqB (PySem.W.nsIn K mainGlobals "list") (some none),
  fun K => HK.eqB (PySem.W.nsIn K mainGlobals "max") (some none),
  fun K => HK.eqB (PySem.W.nsIn K mainGlobals "min") (some none),
  fun K => HK.eqB (PySem.W.nsIn K mainGlobals "range") (some none),
  fun K => HK.eqB (PySem.W.nsIn K mainGlobals "repr") (some none),
  fun K => HK.eqB (PySem.W.nsIn K mainGlobals "set") (some none)]
def ex8 : List (PySem.W.Frag → Bool) := [
  fun K => HK.eqB (PySem.W.nsIn K mainGlobals "sorted") (some none),
  fun K => HK.eqB (PySem.W.nsIn K mainGlobals "str") (some none),
  fun K => HK.eqB (PySem.W.nsIn K mainGlobals "tuple") (some none),
  fun K => HK.nsB K "MOST_BATCH" (.int 50),
  fun K => HK.nsB K "MOST_GROUPS" (.int 200),
  fun K => HK.eqB (PySem.W.nsIn K mainGlobals "FAILS") (some (some (.ref (aa_T_FAILS K)))),
  fun K => HK.seqB K (aa_T_FAILS K) (some (.type "tuple")) [.str "undo", .str "leave", .str "wait"],
  fun K => HK.eqB (PySem.W.nsIn K mainGlobals "ROW_KINDS") (some (some (.ref (aa_T_ROW_KINDS K)))),
  fun K => HK.seqB K (aa_T_ROW_KINDS K) (some (.type "tuple")) [.str "take", .str "give", .str "move", .str "lift"],
  fun K => HK.eqB (PySem.W.nsIn K mainGlobals "WAY_WORDS") (some (some (.ref (aa_T_WAY_WORDS K)))),
  fun K => HK.seqB K (aa_T_WAY_WORDS K) (some (.type "tuple")) [.str "look", .str "add", .str "try", .str "off"],
  fun K => HK.eqB (PySem.W.nsIn K mainGlobals "LIFT_ROWS") (some (some (.ref (aa_T_LIFT_ROWS K)))),
  fun K => HK.seqB K (aa_T_LIFT_ROWS K) (some (.type "tuple")) [.val (.ref (aa_T0_LIFT_ROWS K)), .val (.ref (aa_T1_LIFT_ROWS K)), .val (.ref (aa_T2_LIFT_ROWS K)), .val (.ref (aa_T3_LIFT_ROWS K)), .val (.ref (aa_T4_LIFT_ROWS K)), .val (.ref (aa_T5_LIFT_ROWS K))],
  fun K => HK.seqB K (aa_T0_LIFT_ROWS K) (some (.type "tuple")) [],
  fun K => HK.seqB K (aa_T1_LIFT_ROWS K) (some (.type "tuple")) [.str "set"],
  fun K => HK.seqB K (aa_T2_LIFT_ROWS K) (some (.type "tuple")) [.str "off"],
  fun K => HK.seqB K (aa_T3_LIFT_ROWS K) (some (.type "tuple")) [.str "set", .str "off"],
  fun K => HK.seqB K (aa_T4_LIFT_ROWS K) (some (.type "tuple")) [.str "off", .str "set"],
  fun K => HK.seqB K (aa_T5_LIFT_ROWS K) (some (.type "tuple")) [.str "both"],
  fun K => HK.eqB (PySem.W.nsIn K mainGlobals "ROW_CHECKS") (some (some (.ref (aa_T_ROW_CHECKS K)))),
  fun K => HK.eqB (PySem.W.nsIn K (aa_T_ROW_CHECKS K) "take") (some (some (.ref (aa_f17 K)))),
  fun K => HK.eqB (PySem.W.nsIn K (aa_T_ROW_CHECKS K) "give") (some (some (.ref (aa_f18 K)))),
  fun K => HK.eqB (PySem.W.nsIn K (aa_T_ROW_CHECKS K) "move") (some (some (.ref (aa_f19 K)))),
  fun K => HK.eqB (PySem.W.nsIn K (aa_T_ROW_CHECKS K) "lift") (some (some (.ref (aa_f20 K))))]
def ex : List (PySem.W.Frag → Bool) := ex0 ++ (ex1 ++ (ex2 ++ (ex3 ++ (ex4 ++ (ex5 ++ (ex6 ++ (ex7 ++ (ex8))))))))
def ats0 : List HK.At := [
  ("is_an_integer", none),
  ("is_list", none),
  ("check_group", none),
  ("check_parents", none),
  ("check_struck", none),
  ("Tree", some "__init__"),
  ("Tree", some "__len__"),
  ("Tree", some "__eq__"),
  ("Tree", some "way"),
  ("Tree", some "struck"),
  ("Tree", some "apart"),
  ("is_word", none),
  ("are_different_words", none),
  ("has_words_of", none),
  ("tests_are_ahead", none),
  ("off_has_home", none),
  ("is_take_row", none),
  ("is_give_row", none),
  ("is_move_row", none),
  ("is_lift_row", none),
  ("is_row", none),
  ("fits_batch", none),
  ("fits_shared", none),
  ("check_rows", none),
  ("check_fails", none)]
def ats1 : List HK.At := [
  ("check_bool", none),
  ("check_holds", none),
  ("check_batch", none),
  ("check_row_kind", none),
  ("Book", some "__init__"),
  ("Book", some "__eq__"),
  ("Book", some "row"),
  ("Course", some "__init__"),
  ("Course", some "groups"),
  ("Course", some "single_deeds"),
  ("take_course", none),
  ("give_course", none),
  ("plan", none),
  ("take_plan", none),
  ("give_plan", none),
  ("_law_pot", none),
  ("_law_draw", none),
  ("_law_pick", none),
  ("_law_ups", none),
  ("_law_path", none),
  ("_law_lifts", none),
  ("_law_menu", none),
  ("_law_rules", none),
  ("_law_book", none),
  ("_law_struck_ones", none)]
def ats2 : List HK.At := [
  ("_law_deeds_due", none),
  ("_law_spot_right", none),
  ("_law_others", none),
  ("_law_right", none),
  ("law", none)]
def ats : List HK.At := ats0 ++ (ats1 ++ (ats2))
def fvs0 : List He.FnW := [
  some ("is_an_integer", "is_an_integer", defArgs s_is_an_integer, .stmts (defBody s_is_an_integer), defScope s_is_an_integer, mainGlobals, [], builtinsNs),
  some ("is_list", "is_list", defArgs s_is_list, .stmts (defBody s_is_list), defScope s_is_list, mainGlobals, [], builtinsNs),
  some ("check_group", "check_group", defArgs s_check_group, .stmts (defBody s_check_group), defScope s_check_group, mainGlobals, [], builtinsNs),
  some ("check_parents", "check_parents", defArgs s_check_parents, .stmts (defBody s_check_parents), defScope s_check_parents, mainGlobals, [], builtinsNs),
  some ("check_struck", "check_struck", defArgs s_check_struck, .stmts (defBody s_check_struck), defScope s_check_struck, mainGlobals, [], builtinsNs),
  some ("__init__", "Tree.__init__", defArgs s_Tinit, .stmts (defBody s_Tinit), defScope s_Tinit, mainGlobals, [], builtinsNs),
  some ("__len__", "Tree.__len__", defArgs s_Tlen, .stmts (defBody s_Tlen), defScope s_Tlen, mainGlobals, [], builtinsNs),
  some ("__eq__", "Tree.__eq__", defArgs s_Teq, .stmts (defBody s_Teq), defScope s_Teq, mainGlobals, [], builtinsNs),
  some ("way", "Tree.way", defArgs s_Tway, .stmts (defBody s_Tway), defScope s_Tway, mainGlobals, [], builtinsNs),
  some ("struck", "Tree.struck", defArgs s_Tstruck, .stmts (defBody s_Tstruck), defScope s_Tstruck, mainGlobals, [], builtinsNs),
  some ("apart", "Tree.apart", defArgs s_Tapart, .stmts (defBody s_Tapart), defScope s_Tapart, mainGlobals, [], builtinsNs),
  some ("is_word", "is_word", defArgs s_is_word, .stmts (defBody s_is_word), defScope s_is_word, mainGlobals, [], builtinsNs),
  some ("are_different_words", "are_different_words", defArgs s_are_different_words, .stmts (defBody s_are_different_words), defScope s_are_different_words, mainGlobals, [], builtinsNs),
  some ("has_words_of", "has_words_of", defArgs s_has_words_of, .stmts (defBody s_has_words_of), defScope s_has_words_of, mainGlobals, [], builtinsNs),
  some ("tests_are_ahead", "tests_are_ahead", defArgs s_tests_are_ahead, .stmts (defBody s_tests_are_ahead), defScope s_tests_are_ahead, mainGlobals, [], builtinsNs),
  some ("off_has_home", "off_has_home", defArgs s_off_has_home, .stmts (defBody s_off_has_home), defScope s_off_has_home, mainGlobals, [], builtinsNs),
  some ("is_take_row", "is_take_row", defArgs s_is_take_row, .stmts (defBody s_is_take_row), defScope s_is_take_row, mainGlobals, [], builtinsNs),
  some ("is_give_row", "is_give_row", defArgs s_is_give_row, .stmts (defBody s_is_give_row), defScope s_is_give_row, mainGlobals, [], builtinsNs),
  some ("is_move_row", "is_move_row", defArgs s_is_move_row, .stmts (defBody s_is_move_row), defScope s_is_move_row, mainGlobals, [], builtinsNs),
  some ("is_lift_row", "is_lift_row", defArgs s_is_lift_row, .stmts (defBody s_is_lift_row), defScope s_is_lift_row, mainGlobals, [], builtinsNs),
  some ("is_row", "is_row", defArgs s_is_row, .stmts (defBody s_is_row), defScope s_is_row, mainGlobals, [], builtinsNs),
  some ("fits_batch", "fits_batch", defArgs s_fits_batch, .stmts (defBody s_fits_batch), defScope s_fits_batch, mainGlobals, [], builtinsNs),
  some ("fits_shared", "fits_shared", defArgs s_fits_shared, .stmts (defBody s_fits_shared), defScope s_fits_shared, mainGlobals, [], builtinsNs),
  some ("check_rows", "check_rows", defArgs s_check_rows, .stmts (defBody s_check_rows), defScope s_check_rows, mainGlobals, [], builtinsNs),
  some ("check_fails", "check_fails", defArgs s_check_fails, .stmts (defBody s_check_fails), defScope s_check_fails, mainGlobals, [], builtinsNs)]
def fvs1 : List He.FnW := [
  some ("check_bool", "check_bool", defArgs s_check_bool, .stmts (defBody s_check_bool), defScope s_check_bool, mainGlobals, [], builtinsNs),
  some ("check_holds", "check_holds", defArgs s_check_holds, .stmts (defBody s_check_holds), defScope s_check_holds, mainGlobals, [], builtinsNs),
  some ("check_batch", "check_batch", defArgs s_check_batch, .stmts (defBody s_check_batch), defScope s_check_batch, mainGlobals, [], builtinsNs),
  some ("check_row_kind", "check_row_kind", defArgs s_check_row_kind, .stmts (defBody s_check_row_kind), defScope s_check_row_kind, mainGlobals, [], builtinsNs),
  some ("__init__", "Book.__init__", defArgs s_Binit, .stmts (defBody s_Binit), defScope s_Binit, mainGlobals, [], builtinsNs),
  some ("__eq__", "Book.__eq__", defArgs s_Beq, .stmts (defBody s_Beq), defScope s_Beq, mainGlobals, [], builtinsNs),
  some ("row", "Book.row", defArgs s_Brow, .stmts (defBody s_Brow), defScope s_Brow, mainGlobals, [], builtinsNs),
  some ("__init__", "Course.__init__", defArgs s_Cinit, .stmts (defBody s_Cinit), defScope s_Cinit, mainGlobals, [], builtinsNs),
  some ("groups", "Course.groups", defArgs s_Cgroups, .stmts (defBody s_Cgroups), defScope s_Cgroups, mainGlobals, [], builtinsNs),
  some ("single_deeds", "Course.single_deeds", defArgs s_Csingle_deeds, .stmts (defBody s_Csingle_deeds), defScope s_Csingle_deeds, mainGlobals, [], builtinsNs),
  some ("take_course", "take_course", defArgs s_take_course, .stmts (defBody s_take_course), defScope s_take_course, mainGlobals, [], builtinsNs),
  some ("give_course", "give_course", defArgs s_give_course, .stmts (defBody s_give_course), defScope s_give_course, mainGlobals, [], builtinsNs),
  some ("plan", "plan", defArgs s_plan, .stmts (defBody s_plan), defScope s_plan, mainGlobals, [], builtinsNs),
  some ("take_plan", "take_plan", defArgs s_take_plan, .stmts (defBody s_take_plan), defScope s_take_plan, mainGlobals, [], builtinsNs),
  some ("give_plan", "give_plan", defArgs s_give_plan, .stmts (defBody s_give_plan), defScope s_give_plan, mainGlobals, [], builtinsNs),
  some ("_law_pot", "_law_pot", defArgs s_Lpot, .stmts (defBody s_Lpot), defScope s_Lpot, mainGlobals, [], builtinsNs),
  some ("_law_draw", "_law_draw", defArgs s_Ldraw, .stmts (defBody s_Ldraw), defScope s_Ldraw, mainGlobals, [], builtinsNs),
  some ("_law_pick", "_law_pick", defArgs s_Lpick, .stmts (defBody s_Lpick), defScope s_Lpick, mainGlobals, [], builtinsNs),
  some ("_law_ups", "_law_ups", defArgs s_Lups, .stmts (defBody s_Lups), defScope s_Lups, mainGlobals, [], builtinsNs),
  some ("_law_path", "_law_path", defArgs s_Lpath, .stmts (defBody s_Lpath), defScope s_Lpath, mainGlobals, [], builtinsNs),
  some ("_law_lifts", "_law_lifts", defArgs s_Llifts, .stmts (defBody s_Llifts), defScope s_Llifts, mainGlobals, [], builtinsNs),
  some ("_law_menu", "_law_menu", defArgs s_Lmenu, .stmts (defBody s_Lmenu), defScope s_Lmenu, mainGlobals, [], builtinsNs),
  some ("_law_rules", "_law_rules", defArgs s_Lrules, .stmts (defBody s_Lrules), defScope s_Lrules, mainGlobals, [], builtinsNs),
  some ("_law_book", "_law_book", defArgs s_Lbook, .stmts (defBody s_Lbook), defScope s_Lbook, mainGlobals, [], builtinsNs),
  some ("_law_struck_ones", "_law_struck_ones", defArgs s_Lstruck_ones, .stmts (defBody s_Lstruck_ones), defScope s_Lstruck_ones, mainGlobals, [], builtinsNs)]
def fvs2 : List He.FnW := [
  some ("_law_deeds_due", "_law_deeds_due", defArgs s_Ldeeds_due, .stmts (defBody s_Ldeeds_due), defScope s_Ldeeds_due, mainGlobals, [], builtinsNs),
  some ("_law_spot_right", "_law_spot_right", defArgs s_Lspot_right, .stmts (defBody s_Lspot_right), defScope s_Lspot_right, mainGlobals, [], builtinsNs),
  some ("_law_others", "_law_others", defArgs s_Lothers, .stmts (defBody s_Lothers), defScope s_Lothers, mainGlobals, [], builtinsNs),
  some ("_law_right", "_law_right", defArgs s_Lright, .stmts (defBody s_Lright), defScope s_Lright, mainGlobals, [], builtinsNs),
  some ("law", "law", defArgs s_law, .stmts (defBody s_law), defScope s_law, mainGlobals, [], builtinsNs)]
def fvs : List He.FnW := fvs0 ++ (fvs1 ++ (fvs2))
def tbs : List He.Tab := [(fun K => (aa_T_ROW_CHECKS K), ["take", "give", "move", "lift"])]
def ls0 : List Str := ["_wall", "is_an_integer", "is_list", "is_word", "are_different_words", "ROW_KINDS", "WAY_WORDS", "LIFT_ROWS", "has_words_of", "tests_are_ahead", "off_has_home", "is_take_row", "is_give_row", "is_move_row", "is_lift_row", "ROW_CHECKS", "is_row", "fits_batch", "fits_shared", "Course", "take_course", "give_course", "WayError", "InvalidGroup", "InvalidParents", "InvalidStruck", "InvalidKind", "InvalidRow", "InvalidWord", "InvalidHolds"]
def ls1 : List Str := ["InvalidCount", "LimitError", "TooMany", "MOST_GROUPS", "check_group", "check_parents", "check_struck", "Tree", "plan", "take_plan", "give_plan", "FAILS", "MOST_BATCH", "check_rows", "check_fails", "check_bool", "check_holds", "check_batch", "check_row_kind", "Book", "_law_pot", "_law_draw", "_law_pick", "_law_ups", "_law_path", "_law_lifts", "_law_menu", "_law_rules", "_law_book", "_law_struck_ones"]
def ls2 : List Str := ["_law_deeds_due", "_law_spot_right", "_law_others", "_law_right"]
def loose : List Str := ls0 ++ (ls1 ++ (ls2))
abbrev R : PySem.W.OpenRow := PySem.W.OpenLaw.row PySem.Challenge.rw_chargeways_k25_whole_take_and_give_plans
def as : List Addr := List.range 900
abbrev hk : PySem.W.Hook := HK.hook as ats fvs tbs ex
def ob (s : PySem.W.SharedT) : HK.Al := HK.obsM as ats tbs ex (HandSHeadRun.getT s)
theorem ob_eq (s : PySem.W.SharedT) : ob s = hk.obs s.abs := HK.obs_eq (HandSHeadRun.getT_eq s)
set_option maxHeartbeats 0 in
theorem run_f (w : World) : HandSHeadRun.RunEq R (PySem.W.view R.prog [72]) hk ob 9000 loose (w.withFollow "special-get-raises" false) := by
  intro os
  kernel_rfl
set_option maxHeartbeats 0 in
theorem run_t (w : World) : HandSHeadRun.RunEq R (PySem.W.view R.prog [72]) hk ob 9000 loose (w.withFollow "special-get-raises" true) := by
  intro os
  kernel_rfl
theorem run : ∀ w : World, HandSHeadRun.RunEq R (PySem.W.view R.prog [72]) hk ob 9000 loose w := PySem.W.byRow2 "special-get-raises" (P := fun w => HandSHeadRun.RunEq R (PySem.W.view R.prog [72]) hk ob 9000 loose w) run_f run_t
theorem all_hk {l : PySem.W.OpenLaw} {w : World} {K : PySem.W.Frag} {h : Heap} {mg : Str → Option Value} {fa : Addr} (X : K.In h) (G : h.Ns mainGlobals mg) (hfa : mg "law" = some (.ref fa)) (c : HK.Says ats fvs tbs ex w K) : ∃ fd : FuncData, (∀ (s : Shared) (v : Value), BindsTo s fd ⟨[v], []⟩ [("_law_script", v)]) ∧ ∀ base : Heap, K.In base → base.Ns mainGlobals mg → FnG l.prog w K mg base CX0 13 fa fd ["_law_script"] (sp_law K) := by
  have aC : PySem.W.nsIn K mainGlobals "Book" = some (some (.ref (aa_C K))) := HK.eqB_ok (c.fact 0)
  have pg : PySem.W.plainGet K (aa_C K) Str.empty = true := c.fact 1
  have hd : PySem.W.hasDictIn K (aa_C K) = true := c.fact 2
  have po : PySem.W.plainOver K (aa_C K) = true := c.fact 3
  have sa : PySem.W.findIn K (.ref (aa_C K)) "__setattr__" = some (some (.builtin "object.__setattr__")) := HK.eqB_ok (c.fact 4)
  have mk : PySem.W.makesIn K (aa_C K) = true := c.fact 5
  have kc : PySem.W.keepIn K (.ref (aa_C K)) = true := c.fact 6
  have n_parts : PySem.W.findIn K (.ref (aa_C K)) "_parts" = some none := HK.eqB_ok (c.fact 7)
  have x_class : PySem.W.findIn K (.ref (aa_C K)) "__class__" = some (some (.builtin "object.__class__")) := HK.eqB_ok (c.fact 8)
  have x_get : PySem.W.specialIn K (.builtin "object.__class__") "__get__" = some (some (.builtin "getset_descriptor.__get__")) := HK.eqB_ok (c.fact 9)
  have x_tk : PySem.W.takesIn K (.builtin "object.__class__") = some true := HK.eqB_ok (c.fact 10)
  have x_mro : PySem.W.mroIn K (aa_C K) (.type "object") = some true := HK.eqB_ok (c.fact 11)
  have x_ne : PySem.W.findIn K (.ref (aa_C K)) "__ne__" = some (some (.builtin "object.__ne__")) := HK.eqB_ok (c.fact 12)
  have x_cls : PySem.W.isClsIn K (aa_C K) = true := c.fact 13
  have x_ty : PySem.W.typeIn K (.ref (aa_C K)) = some (.type "type") := HK.eqB_ok (c.fact 14)
  have aC_Tree : PySem.W.nsIn K mainGlobals "Tree" = some (some (.ref (aa_C_Tree K))) := HK.eqB_ok (c.fact 15)
  have pg_Tree : PySem.W.plainGet K (aa_C_Tree K) Str.empty = true := c.fact 16
  have hd_Tree : PySem.W.hasDictIn K (aa_C_Tree K) = true := c.fact 17
  have po_Tree : PySem.W.plainOver K (aa_C_Tree K) = true := c.fact 18
  have sa_Tree : PySem.W.findIn K (.ref (aa_C_Tree K)) "__setattr__" = some (some (.builtin "object.__setattr__")) := HK.eqB_ok (c.fact 19)
  have mk_Tree : PySem.W.makesIn K (aa_C_Tree K) = true := c.fact 20
  have kc_Tree : PySem.W.keepIn K (.ref (aa_C_Tree K)) = true := c.fact 21
  have n_above : PySem.W.findIn K (.ref (aa_C_Tree K)) "_above" = some none := HK.eqB_ok (c.fact 22)
  have n_struck : PySem.W.findIn K (.ref (aa_C_Tree K)) "_struck" = some none := HK.eqB_ok (c.fact 23)
  have x_class_Tree : PySem.W.findIn K (.ref (aa_C_Tree K)) "__class__" = some (some (.builtin "object.__class__")) := HK.eqB_ok (c.fact 24)
  have x_get_Tree : PySem.W.specialIn K (.builtin "object.__class__") "__get__" = some (some (.builtin "getset_descriptor.__get__")) := HK.eqB_ok (c.fact 25)
  have x_tk_Tree : PySem.W.takesIn K (.builtin "object.__class__") = some true := HK.eqB_ok (c.fact 26)
  have x_mro_Tree : PySem.W.mroIn K (aa_C_Tree K) (.type "object") = some true := HK.eqB_ok (c.fact 27)
  have x_ne_Tree : PySem.W.findIn K (.ref (aa_C_Tree K)) "__ne__" = some (some (.builtin "object.__ne__")) := HK.eqB_ok (c.fact 28)
  have x_cls_Tree : PySem.W.isClsIn K (aa_C_Tree K) = true := c.fact 29
  have x_ty_Tree : PySem.W.typeIn K (.ref (aa_C_Tree K)) = some (.type "type") := HK.eqB_ok (c.fact 30)
  have aC_Course : PySem.W.nsIn K mainGlobals "Course" = some (some (.ref (aa_C_Course K))) := HK.eqB_ok (c.fact 31)
  have pg_Course : PySem.W.plainGet K (aa_C_Course K) Str.empty = true := c.fact 32
  have hd_Course : PySem.W.hasDictIn K (aa_C_Course K) = true := c.fact 33
  have po_Course : PySem.W.plainOver K (aa_C_Course K) = true := c.fact 34
  have sa_Course : PySem.W.findIn K (.ref (aa_C_Course K)) "__setattr__" = some (some (.builtin "object.__setattr__")) := HK.eqB_ok (c.fact 35)
  have mk_Course : PySem.W.makesIn K (aa_C_Course K) = true := c.fact 36
  have kc_Course : PySem.W.keepIn K (.ref (aa_C_Course K)) = true := c.fact 37
  have nkind : PySem.W.findIn K (.ref (aa_C_Course K)) "kind" = some none := HK.eqB_ok (c.fact 38)
  have nwords : PySem.W.findIn K (.ref (aa_C_Course K)) "words" = some none := HK.eqB_ok (c.fact 39)
  have ngroup : PySem.W.findIn K (.ref (aa_C_Course K)) "group" = some none := HK.eqB_ok (c.fact 40)
  have nold : PySem.W.findIn K (.ref (aa_C_Course K)) "old" = some none := HK.eqB_ok (c.fact 41)
  have nleaves_out : PySem.W.findIn K (.ref (aa_C_Course K)) "leaves_out" = some none := HK.eqB_ok (c.fact 42)
  have a1 : PySem.W.nsIn K mainGlobals "is_an_integer" = some (some (.ref (aa_f1 K))) := HK.eqB_ok (c.fact 43)
  obtain ⟨oc1, od1, kV1, dc1, pm1, an1, cd1, ct1, sl1, l1, c1⟩ := HK.f_ok (c.fn 0) (c.fact 44)
  have k1 : PySem.W.keepIn K (.ref (aa_f1 K)) = true := c.fact 45
  have a2 : PySem.W.nsIn K mainGlobals "is_list" = some (some (.ref (aa_f2 K))) := HK.eqB_ok (c.fact 46)
  obtain ⟨oc2, od2, kV2, dc2, pm2, an2, cd2, ct2, sl2, l2, c2⟩ := HK.f_ok (c.fn 1) (c.fact 47)
  have k2 : PySem.W.keepIn K (.ref (aa_f2 K)) = true := c.fact 48
  have a3 : PySem.W.nsIn K mainGlobals "check_group" = some (some (.ref (aa_f3 K))) := HK.eqB_ok (c.fact 49)
  obtain ⟨oc3, od3, kV3, dc3, pm3, an3, cd3, ct3, sl3, l3, c3⟩ := HK.f_ok (c.fn 2) (c.fact 50)
  have k3 : PySem.W.keepIn K (.ref (aa_f3 K)) = true := c.fact 51
  have a4 : PySem.W.nsIn K mainGlobals "check_parents" = some (some (.ref (aa_f4 K))) := HK.eqB_ok (c.fact 52)
  obtain ⟨oc4, od4, kV4, dc4, pm4, an4, cd4, ct4, sl4, l4, c4⟩ := HK.f_ok (c.fn 3) (c.fact 53)
  have k4 : PySem.W.keepIn K (.ref (aa_f4 K)) = true := c.fact 54
  have a5 : PySem.W.nsIn K mainGlobals "check_struck" = some (some (.ref (aa_f5 K))) := HK.eqB_ok (c.fact 55)
  obtain ⟨oc5, od5, kV5, dc5, pm5, an5, cd5, ct5, sl5, l5, c5⟩ := HK.f_ok (c.fn 4) (c.fact 56)
  have k5 : PySem.W.keepIn K (.ref (aa_f5 K)) = true := c.fact 57
  have a6 : PySem.W.findIn K (.ref (aa_C_Tree K)) "__init__" = some (some (.ref (aa_f6 K))) := HK.eqB_ok (c.fact 58)
  have i6 : PySem.W.isFn K (.ref (aa_f6 K)) = true := c.fact 59
  obtain ⟨oc6, od6, kV6, dc6, pm6, an6, cd6, ct6, sl6, l6, c6⟩ := HK.f_ok (c.fn 5) (c.fact 60)
  have k6 : PySem.W.keepIn K (.ref (aa_f6 K)) = true := c.fact 61
  obtain ⟨tc6, td6, tn6, tl6, t6⟩ := HK.seq_any (c.fact 62)
  obtain ⟨ud6_0, un6_0, ul6_0, u6_0⟩ := HK.seq_is (c.fact 63)
  obtain ⟨ud6_1, un6_1, ul6_1, u6_1⟩ := HK.seq_is (c.fact 64)
  have a7 : PySem.W.findIn K (.ref (aa_C_Tree K)) "__len__" = some (some (.ref (aa_f7 K))) := HK.eqB_ok (c.fact 65)
  have i7 : PySem.W.isFn K (.ref (aa_f7 K)) = true := c.fact 66
  obtain ⟨oc7, od7, kV7, dc7, pm7, an7, cd7, ct7, sl7, l7, c7⟩ := HK.f_ok (c.fn 6) (c.fact 67)
  have k7 : PySem.W.keepIn K (.ref (aa_f7 K)) = true := c.fact 68
  have a8 : PySem.W.findIn K (.ref (aa_C_Tree K)) "__eq__" = some (some (.ref (aa_f8 K))) := HK.eqB_ok (c.fact 69)
  have i8 : PySem.W.isFn K (.ref (aa_f8 K)) = true := c.fact 70
  obtain ⟨oc8, od8, kV8, dc8, pm8, an8, cd8, ct8, sl8, l8, c8⟩ := HK.f_ok (c.fn 7) (c.fact 71)
  have k8 : PySem.W.keepIn K (.ref (aa_f8 K)) = true := c.fact 72
  have a9 : PySem.W.findIn K (.ref (aa_C_Tree K)) "way" = some (some (.ref (aa_f9 K))) := HK.eqB_ok (c.fact 73)
  have i9 : PySem.W.isFn K (.ref (aa_f9 K)) = true := c.fact 74
  obtain ⟨oc9, od9, kV9, dc9, pm9, an9, cd9, ct9, sl9, l9, c9⟩ := HK.f_ok (c.fn 8) (c.fact 75)
  have k9 : PySem.W.keepIn K (.ref (aa_f9 K)) = true := c.fact 76
  have a10 : PySem.W.findIn K (.ref (aa_C_Tree K)) "struck" = some (some (.ref (aa_f10 K))) := HK.eqB_ok (c.fact 77)
  have i10 : PySem.W.isFn K (.ref (aa_f10 K)) = true := c.fact 78
  obtain ⟨oc10, od10, kV10, dc10, pm10, an10, cd10, ct10, sl10, l10, c10⟩ := HK.f_ok (c.fn 9) (c.fact 79)
  have k10 : PySem.W.keepIn K (.ref (aa_f10 K)) = true := c.fact 80
  have a11 : PySem.W.findIn K (.ref (aa_C_Tree K)) "apart" = some (some (.ref (aa_f11 K))) := HK.eqB_ok (c.fact 81)
  have i11 : PySem.W.isFn K (.ref (aa_f11 K)) = true := c.fact 82
  obtain ⟨oc11, od11, kV11, dc11, pm11, an11, cd11, ct11, sl11, l11, c11⟩ := HK.f_ok (c.fn 10) (c.fact 83)
  have k11 : PySem.W.keepIn K (.ref (aa_f11 K)) = true := c.fact 84
  have a12 : PySem.W.nsIn K mainGlobals "is_word" = some (some (.ref (aa_f12 K))) := HK.eqB_ok (c.fact 85)
  obtain ⟨oc12, od12, kV12, dc12, pm12, an12, cd12, ct12, sl12, l12, c12⟩ := HK.f_ok (c.fn 11) (c.fact 86)
  have k12 : PySem.W.keepIn K (.ref (aa_f12 K)) = true := c.fact 87
  have a13 : PySem.W.nsIn K mainGlobals "are_different_words" = some (some (.ref (aa_f13 K))) := HK.eqB_ok (c.fact 88)
  obtain ⟨oc13, od13, kV13, dc13, pm13, an13, cd13, ct13, sl13, l13, c13⟩ := HK.f_ok (c.fn 12) (c.fact 89)
  have k13 : PySem.W.keepIn K (.ref (aa_f13 K)) = true := c.fact 90
  have a14 : PySem.W.nsIn K mainGlobals "has_words_of" = some (some (.ref (aa_f14 K))) := HK.eqB_ok (c.fact 91)
  obtain ⟨oc14, od14, kV14, dc14, pm14, an14, cd14, ct14, sl14, l14, c14⟩ := HK.f_ok (c.fn 13) (c.fact 92)
  have k14 : PySem.W.keepIn K (.ref (aa_f14 K)) = true := c.fact 93
  have a15 : PySem.W.nsIn K mainGlobals "tests_are_ahead" = some (some (.ref (aa_f15 K))) := HK.eqB_ok (c.fact 94)
  obtain ⟨oc15, od15, kV15, dc15, pm15, an15, cd15, ct15, sl15, l15, c15⟩ := HK.f_ok (c.fn 14) (c.fact 95)
  have k15 : PySem.W.keepIn K (.ref (aa_f15 K)) = true := c.fact 96
  have a16 : PySem.W.nsIn K mainGlobals "off_has_home" = some (some (.ref (aa_f16 K))) := HK.eqB_ok (c.fact 97)
  obtain ⟨oc16, od16, kV16, dc16, pm16, an16, cd16, ct16, sl16, l16, c16⟩ := HK.f_ok (c.fn 15) (c.fact 98)
  have k16 : PySem.W.keepIn K (.ref (aa_f16 K)) = true := c.fact 99
  have a17 : PySem.W.nsIn K mainGlobals "is_take_row" = some (some (.ref (aa_f17 K))) := HK.eqB_ok (c.fact 100)
  obtain ⟨oc17, od17, kV17, dc17, pm17, an17, cd17, ct17, sl17, l17, c17⟩ := HK.f_ok (c.fn 16) (c.fact 101)
  have k17 : PySem.W.keepIn K (.ref (aa_f17 K)) = true := c.fact 102
  have a18 : PySem.W.nsIn K mainGlobals "is_give_row" = some (some (.ref (aa_f18 K))) := HK.eqB_ok (c.fact 103)
  obtain ⟨oc18, od18, kV18, dc18, pm18, an18, cd18, ct18, sl18, l18, c18⟩ := HK.f_ok (c.fn 17) (c.fact 104)
  have k18 : PySem.W.keepIn K (.ref (aa_f18 K)) = true := c.fact 105
  have a19 : PySem.W.nsIn K mainGlobals "is_move_row" = some (some (.ref (aa_f19 K))) := HK.eqB_ok (c.fact 106)
  obtain ⟨oc19, od19, kV19, dc19, pm19, an19, cd19, ct19, sl19, l19, c19⟩ := HK.f_ok (c.fn 18) (c.fact 107)
  have k19 : PySem.W.keepIn K (.ref (aa_f19 K)) = true := c.fact 108
  have a20 : PySem.W.nsIn K mainGlobals "is_lift_row" = some (some (.ref (aa_f20 K))) := HK.eqB_ok (c.fact 109)
  obtain ⟨oc20, od20, kV20, dc20, pm20, an20, cd20, ct20, sl20, l20, c20⟩ := HK.f_ok (c.fn 19) (c.fact 110)
  have k20 : PySem.W.keepIn K (.ref (aa_f20 K)) = true := c.fact 111
  have a21 : PySem.W.nsIn K mainGlobals "is_row" = some (some (.ref (aa_f21 K))) := HK.eqB_ok (c.fact 112)
  obtain ⟨oc21, od21, kV21, dc21, pm21, an21, cd21, ct21, sl21, l21, c21⟩ := HK.f_ok (c.fn 20) (c.fact 113)
  have k21 : PySem.W.keepIn K (.ref (aa_f21 K)) = true := c.fact 114
  have a22 : PySem.W.nsIn K mainGlobals "fits_batch" = some (some (.ref (aa_f22 K))) := HK.eqB_ok (c.fact 115)
  obtain ⟨oc22, od22, kV22, dc22, pm22, an22, cd22, ct22, sl22, l22, c22⟩ := HK.f_ok (c.fn 21) (c.fact 116)
  have k22 : PySem.W.keepIn K (.ref (aa_f22 K)) = true := c.fact 117
  have a23 : PySem.W.nsIn K mainGlobals "fits_shared" = some (some (.ref (aa_f23 K))) := HK.eqB_ok (c.fact 118)
  obtain ⟨oc23, od23, kV23, dc23, pm23, an23, cd23, ct23, sl23, l23, c23⟩ := HK.f_ok (c.fn 22) (c.fact 119)
  have k23 : PySem.W.keepIn K (.ref (aa_f23 K)) = true := c.fact 120
  have a24 : PySem.W.nsIn K mainGlobals "check_rows" = some (some (.ref (aa_f24 K))) := HK.eqB_ok (c.fact 121)
  obtain ⟨oc24, od24, kV24, dc24, pm24, an24, cd24, ct24, sl24, l24, c24⟩ := HK.f_ok (c.fn 23) (c.fact 122)
  have k24 : PySem.W.keepIn K (.ref (aa_f24 K)) = true := c.fact 123
  have a25 : PySem.W.nsIn K mainGlobals "check_fails" = some (some (.ref (aa_f25 K))) := HK.eqB_ok (c.fact 124)
  obtain ⟨oc25, od25, kV25, dc25, pm25, an25, cd25, ct25, sl25, l25, c25⟩ := HK.f_ok (c.fn 24) (c.fact 125)
  have k25 : PySem.W.keepIn K (.ref (aa_f25 K)) = true := c.fact 126
  have a26 : PySem.W.nsIn K mainGlobals "check_bool" = some (some (.ref (aa_f26 K))) := HK.eqB_ok (c.fact 127)
  obtain ⟨oc26, od26, kV26, dc26, pm26, an26, cd26, ct26, sl26, l26, c26⟩ := HK.f_ok (c.fn 25) (c.fact 128)
  have k26 : PySem.W.keepIn K (.ref (aa_f26 K)) = true := c.fact 129
  have a27 : PySem.W.nsIn K mainGlobals "check_holds" = some (some (.ref (aa_f27 K))) := HK.eqB_ok (c.fact 130)
  obtain ⟨oc27, od27, kV27, dc27, pm27, an27, cd27, ct27, sl27, l27, c27⟩ := HK.f_ok (c.fn 26) (c.fact 131)
  have k27 : PySem.W.keepIn K (.ref (aa_f27 K)) = true := c.fact 132
  have a28 : PySem.W.nsIn K mainGlobals "check_batch" = some (some (.ref (aa_f28 K))) := HK.eqB_ok (c.fact 133)
  obtain ⟨oc28, od28, kV28, dc28, pm28, an28, cd28, ct28, sl28, l28, c28⟩ := HK.f_ok (c.fn 27) (c.fact 134)
  have k28 : PySem.W.keepIn K (.ref (aa_f28 K)) = true := c.fact 135
  have a29 : PySem.W.nsIn K mainGlobals "check_row_kind" = some (some (.ref (aa_f29 K))) := HK.eqB_ok (c.fact 136)
  obtain ⟨oc29, od29, kV29, dc29, pm29, an29, cd29, ct29, sl29, l29, c29⟩ := HK.f_ok (c.fn 28) (c.fact 137)
  have k29 : PySem.W.keepIn K (.ref (aa_f29 K)) = true := c.fact 138
  have a30 : PySem.W.findIn K (.ref (aa_C K)) "__init__" = some (some (.ref (aa_f30 K))) := HK.eqB_ok (c.fact 139)
  have i30 : PySem.W.isFn K (.ref (aa_f30 K)) = true := c.fact 140
  obtain ⟨oc30, od30, kV30, dc30, pm30, an30, cd30, ct30, sl30, l30, c30⟩ := HK.f_ok (c.fn 29) (c.fact 141)
  have k30 : PySem.W.keepIn K (.ref (aa_f30 K)) = true := c.fact 142
  have a31 : PySem.W.findIn K (.ref (aa_C K)) "__eq__" = some (some (.ref (aa_f31 K))) := HK.eqB_ok (c.fact 143)
  have i31 : PySem.W.isFn K (.ref (aa_f31 K)) = true := c.fact 144
  obtain ⟨oc31, od31, kV31, dc31, pm31, an31, cd31, ct31, sl31, l31, c31⟩ := HK.f_ok (c.fn 30) (c.fact 145)
  have k31 : PySem.W.keepIn K (.ref (aa_f31 K)) = true := c.fact 146
  have a32 : PySem.W.findIn K (.ref (aa_C K)) "row" = some (some (.ref (aa_f32 K))) := HK.eqB_ok (c.fact 147)
  have i32 : PySem.W.isFn K (.ref (aa_f32 K)) = true := c.fact 148
  obtain ⟨oc32, od32, kV32, dc32, pm32, an32, cd32, ct32, sl32, l32, c32⟩ := HK.f_ok (c.fn 31) (c.fact 149)
  have k32 : PySem.W.keepIn K (.ref (aa_f32 K)) = true := c.fact 150
  have a33 : PySem.W.findIn K (.ref (aa_C_Course K)) "__init__" = some (some (.ref (aa_f33 K))) := HK.eqB_ok (c.fact 151)
  have i33 : PySem.W.isFn K (.ref (aa_f33 K)) = true := c.fact 152
  obtain ⟨oc33, od33, kV33, dc33, pm33, an33, cd33, ct33, sl33, l33, c33⟩ := HK.f_ok (c.fn 32) (c.fact 153)
  have k33 : PySem.W.keepIn K (.ref (aa_f33 K)) = true := c.fact 154
  obtain ⟨tc33, td33, tn33, tl33, t33⟩ := HK.seq_any (c.fact 155)
  have a34 : PySem.W.findIn K (.ref (aa_C_Course K)) "groups" = some (some (.ref (aa_f34 K))) := HK.eqB_ok (c.fact 156)
  have i34 : PySem.W.isFn K (.ref (aa_f34 K)) = true := c.fact 157
  obtain ⟨oc34, od34, kV34, dc34, pm34, an34, cd34, ct34, sl34, l34, c34⟩ := HK.f_ok (c.fn 33) (c.fact 158)
  have k34 : PySem.W.keepIn K (.ref (aa_f34 K)) = true := c.fact 159
  have a35 : PySem.W.findIn K (.ref (aa_C_Course K)) "single_deeds" = some (some (.ref (aa_f35 K))) := HK.eqB_ok (c.fact 160)
  have i35 : PySem.W.isFn K (.ref (aa_f35 K)) = true := c.fact 161
  obtain ⟨oc35, od35, kV35, dc35, pm35, an35, cd35, ct35, sl35, l35, c35⟩ := HK.f_ok (c.fn 34) (c.fact 162)
  have k35 : PySem.W.keepIn K (.ref (aa_f35 K)) = true := c.fact 163
  have a36 : PySem.W.nsIn K mainGlobals "take_course" = some (some (.ref (aa_f36 K))) := HK.eqB_ok (c.fact 164)
  obtain ⟨oc36, od36, kV36, dc36, pm36, an36, cd36, ct36, sl36, l36, c36⟩ := HK.f_ok (c.fn 35) (c.fact 165)
  have k36 : PySem.W.keepIn K (.ref (aa_f36 K)) = true := c.fact 166
  have a37 : PySem.W.nsIn K mainGlobals "give_course" = some (some (.ref (aa_f37 K))) := HK.eqB_ok (c.fact 167)
  obtain ⟨oc37, od37, kV37, dc37, pm37, an37, cd37, ct37, sl37, l37, c37⟩ := HK.f_ok (c.fn 36) (c.fact 168)
  have k37 : PySem.W.keepIn K (.ref (aa_f37 K)) = true := c.fact 169
  obtain ⟨tc37, td37, tn37, tl37, t37⟩ := HK.seq_any (c.fact 170)
  have a38 : PySem.W.nsIn K mainGlobals "plan" = some (some (.ref (aa_f38 K))) := HK.eqB_ok (c.fact 171)
  obtain ⟨oc38, od38, kV38, dc38, pm38, an38, cd38, ct38, sl38, l38, c38⟩ := HK.f_ok (c.fn 37) (c.fact 172)
  have k38 : PySem.W.keepIn K (.ref (aa_f38 K)) = true := c.fact 173
  have a39 : PySem.W.nsIn K mainGlobals "take_plan" = some (some (.ref (aa_f39 K))) := HK.eqB_ok (c.fact 174)
  obtain ⟨oc39, od39, kV39, dc39, pm39, an39, cd39, ct39, sl39, l39, c39⟩ := HK.f_ok (c.fn 38) (c.fact 175)
  have k39 : PySem.W.keepIn K (.ref (aa_f39 K)) = true := c.fact 176
  have a40 : PySem.W.nsIn K mainGlobals "give_plan" = some (some (.ref (aa_f40 K))) := HK.eqB_ok (c.fact 177)
  obtain ⟨oc40, od40, kV40, dc40, pm40, an40, cd40, ct40, sl40, l40, c40⟩ := HK.f_ok (c.fn 39) (c.fact 178)
  have k40 : PySem.W.keepIn K (.ref (aa_f40 K)) = true := c.fact 179
  have a41 : PySem.W.nsIn K mainGlobals "_law_pot" = some (some (.ref (aa_f41 K))) := HK.eqB_ok (c.fact 180)
  obtain ⟨oc41, od41, kV41, dc41, pm41, an41, cd41, ct41, sl41, l41, c41⟩ := HK.f_ok (c.fn 40) (c.fact 181)
  have k41 : PySem.W.keepIn K (.ref (aa_f41 K)) = true := c.fact 182
  have a42 : PySem.W.nsIn K mainGlobals "_law_draw" = some (some (.ref (aa_f42 K))) := HK.eqB_ok (c.fact 183)
  obtain ⟨oc42, od42, kV42, dc42, pm42, an42, cd42, ct42, sl42, l42, c42⟩ := HK.f_ok (c.fn 41) (c.fact 184)
  have k42 : PySem.W.keepIn K (.ref (aa_f42 K)) = true := c.fact 185
  have a43 : PySem.W.nsIn K mainGlobals "_law_pick" = some (some (.ref (aa_f43 K))) := HK.eqB_ok (c.fact 186)
  obtain ⟨oc43, od43, kV43, dc43, pm43, an43, cd43, ct43, sl43, l43, c43⟩ := HK.f_ok (c.fn 42) (c.fact 187)
  have k43 : PySem.W.keepIn K (.ref (aa_f43 K)) = true := c.fact 188
  have a44 : PySem.W.nsIn K mainGlobals "_law_ups" = some (some (.ref (aa_f44 K))) := HK.eqB_ok (c.fact 189)
  obtain ⟨oc44, od44, kV44, dc44, pm44, an44, cd44, ct44, sl44, l44, c44⟩ := HK.f_ok (c.fn 43) (c.fact 190)
  have k44 : PySem.W.keepIn K (.ref (aa_f44 K)) = true := c.fact 191
  have a45 : PySem.W.nsIn K mainGlobals "_law_path" = some (some (.ref (aa_f45 K))) := HK.eqB_ok (c.fact 192)
  obtain ⟨oc45, od45, kV45, dc45, pm45, an45, cd45, ct45, sl45, l45, c45⟩ := HK.f_ok (c.fn 44) (c.fact 193)
  have k45 : PySem.W.keepIn K (.ref (aa_f45 K)) = true := c.fact 194
  have a46 : PySem.W.nsIn K mainGlobals "_law_lifts" = some (some (.ref (aa_f46 K))) := HK.eqB_ok (c.fact 195)
  obtain ⟨oc46, od46, kV46, dc46, pm46, an46, cd46, ct46, sl46, l46, c46⟩ := HK.f_ok (c.fn 45) (c.fact 196)
  have k46 : PySem.W.keepIn K (.ref (aa_f46 K)) = true := c.fact 197
  have a47 : PySem.W.nsIn K mainGlobals "_law_menu" = some (some (.ref (aa_f47 K))) := HK.eqB_ok (c.fact 198)
  obtain ⟨oc47, od47, kV47, dc47, pm47, an47, cd47, ct47, sl47, l47, c47⟩ := HK.f_ok (c.fn 46) (c.fact 199)
  have k47 : PySem.W.keepIn K (.ref (aa_f47 K)) = true := c.fact 200
  have a48 : PySem.W.nsIn K mainGlobals "_law_rules" = some (some (.ref (aa_f48 K))) := HK.eqB_ok (c.fact 201)
  obtain ⟨oc48, od48, kV48, dc48, pm48, an48, cd48, ct48, sl48, l48, c48⟩ := HK.f_ok (c.fn 47) (c.fact 202)
  have k48 : PySem.W.keepIn K (.ref (aa_f48 K)) = true := c.fact 203
  have a49 : PySem.W.nsIn K mainGlobals "_law_book" = some (some (.ref (aa_f49 K))) := HK.eqB_ok (c.fact 204)
  obtain ⟨oc49, od49, kV49, dc49, pm49, an49, cd49, ct49, sl49, l49, c49⟩ := HK.f_ok (c.fn 48) (c.fact 205)
  have k49 : PySem.W.keepIn K (.ref (aa_f49 K)) = true := c.fact 206
  have a50 : PySem.W.nsIn K mainGlobals "_law_struck_ones" = some (some (.ref (aa_f50 K))) := HK.eqB_ok (c.fact 207)
  obtain ⟨oc50, od50, kV50, dc50, pm50, an50, cd50, ct50, sl50, l50, c50⟩ := HK.f_ok (c.fn 49) (c.fact 208)
  have k50 : PySem.W.keepIn K (.ref (aa_f50 K)) = true := c.fact 209
  have a51 : PySem.W.nsIn K mainGlobals "_law_deeds_due" = some (some (.ref (aa_f51 K))) := HK.eqB_ok (c.fact 210)
  obtain ⟨oc51, od51, kV51, dc51, pm51, an51, cd51, ct51, sl51, l51, c51⟩ := HK.f_ok (c.fn 50) (c.fact 211)
  have k51 : PySem.W.keepIn K (.ref (aa_f51 K)) = true := c.fact 212
  have a52 : PySem.W.nsIn K mainGlobals "_law_spot_right" = some (some (.ref (aa_f52 K))) := HK.eqB_ok (c.fact 213)
  obtain ⟨oc52, od52, kV52, dc52, pm52, an52, cd52, ct52, sl52, l52, c52⟩ := HK.f_ok (c.fn 51) (c.fact 214)
  have k52 : PySem.W.keepIn K (.ref (aa_f52 K)) = true := c.fact 215
  have a53 : PySem.W.nsIn K mainGlobals "_law_others" = some (some (.ref (aa_f53 K))) := HK.eqB_ok (c.fact 216)
  obtain ⟨oc53, od53, kV53, dc53, pm53, an53, cd53, ct53, sl53, l53, c53⟩ := HK.f_ok (c.fn 52) (c.fact 217)
  have k53 : PySem.W.keepIn K (.ref (aa_f53 K)) = true := c.fact 218
  have a54 : PySem.W.nsIn K mainGlobals "_law_right" = some (some (.ref (aa_f54 K))) := HK.eqB_ok (c.fact 219)
  obtain ⟨oc54, od54, kV54, dc54, pm54, an54, cd54, ct54, sl54, l54, c54⟩ := HK.f_ok (c.fn 53) (c.fact 220)
  have k54 : PySem.W.keepIn K (.ref (aa_f54 K)) = true := c.fact 221
  have a55 : PySem.W.nsIn K mainGlobals "law" = some (some (.ref (aa_f55 K))) := HK.eqB_ok (c.fact 222)
  obtain ⟨oc55, od55, kV55, dc55, pm55, an55, cd55, ct55, sl55, l55, c55⟩ := HK.f_ok (c.fn 54) (c.fact 223)
  have k55 : PySem.W.keepIn K (.ref (aa_f55 K)) = true := c.fact 224
  have z_abs : PySem.W.nsIn K mainGlobals "abs" = some none := HK.eqB_ok (c.fact 225)
  have z_all : PySem.W.nsIn K mainGlobals "all" = some none := HK.eqB_ok (c.fact 226)
  have z_bool : PySem.W.nsIn K mainGlobals "bool" = some none := HK.eqB_ok (c.fact 227)
  have z_dict : PySem.W.nsIn K mainGlobals "dict" = some none := HK.eqB_ok (c.fact 228)
  have z_divmod : PySem.W.nsIn K mainGlobals "divmod" = some none := HK.eqB_ok (c.fact 229)
  have z_enumerate : PySem.W.nsIn K mainGlobals "enumerate" = some none := HK.eqB_ok (c.fact 230)
  have z_int : PySem.W.nsIn K mainGlobals "int" = some none := HK.eqB_ok (c.fact 231)
  have z_isinstance : PySem.W.nsIn K mainGlobals "isinstance" = some none := HK.eqB_ok (c.fact 232)
  have z_len : PySem.W.nsIn K mainGlobals "len" = some none := HK.eqB_ok (c.fact 233)
  have z_list : PySem.W.nsIn K mainGlobals "list" = some none := HK.eqB_ok (c.fact 234)
  have z_max : PySem.W.nsIn K mainGlobals "max" = some none := HK.eqB_ok (c.fact 235)
  have z_min : PySem.W.nsIn K mainGlobals "min" = some none := HK.eqB_ok (c.fact 236)
  have z_range : PySem.W.nsIn K mainGlobals "range" = some none := HK.eqB_ok (c.fact 237)
  have z_repr : PySem.W.nsIn K mainGlobals "repr" = some none := HK.eqB_ok (c.fact 238)
  have z_set : PySem.W.nsIn K mainGlobals "set" = some none := HK.eqB_ok (c.fact 239)
  have z_sorted : PySem.W.nsIn K mainGlobals "sorted" = some none := HK.eqB_ok (c.fact 240)
  have z_str : PySem.W.nsIn K mainGlobals "str" = some none := HK.eqB_ok (c.fact 241)
  have z_tuple : PySem.W.nsIn K mainGlobals "tuple" = some none := HK.eqB_ok (c.fact 242)
  obtain ⟨t_MOST_BATCH, g_MOST_BATCH⟩ := HK.ns_int (c.fact 243)
  obtain ⟨t_MOST_GROUPS, g_MOST_GROUPS⟩ := HK.ns_int (c.fact 244)
  have g_FAILS : PySem.W.nsIn K mainGlobals "FAILS" = some (some (.ref (aa_T_FAILS K))) := HK.eqB_ok (c.fact 245)
  obtain ⟨k0_T_FAILS, k1_T_FAILS, k2_T_FAILS, d_T_FAILS, n_T_FAILS, l_T_FAILS, h_T_FAILS⟩ := HK.seq_is (c.fact 246)
  have g_ROW_KINDS : PySem.W.nsIn K mainGlobals "ROW_KINDS" = some (some (.ref (aa_T_ROW_KINDS K))) := HK.eqB_ok (c.fact 247)
  obtain ⟨k0_T_ROW_KINDS, k1_T_ROW_KINDS, k2_T_ROW_KINDS, k3_T_ROW_KINDS, d_T_ROW_KINDS, n_T_ROW_KINDS, l_T_ROW_KINDS, h_T_ROW_KINDS⟩ := HK.seq_is (c.fact 248)
  have g_WAY_WORDS : PySem.W.nsIn K mainGlobals "WAY_WORDS" = some (some (.ref (aa_T_WAY_WORDS K))) := HK.eqB_ok (c.fact 249)
  obtain ⟨k0_T_WAY_WORDS, k1_T_WAY_WORDS, k2_T_WAY_WORDS, k3_T_WAY_WORDS, d_T_WAY_WORDS, n_T_WAY_WORDS, l_T_WAY_WORDS, h_T_WAY_WORDS⟩ := HK.seq_is (c.fact 250)
  have g_LIFT_ROWS : PySem.W.nsIn K mainGlobals "LIFT_ROWS" = some (some (.ref (aa_T_LIFT_ROWS K))) := HK.eqB_ok (c.fact 251)
  obtain ⟨d_T_LIFT_ROWS, n_T_LIFT_ROWS, l_T_LIFT_ROWS, h_T_LIFT_ROWS⟩ := HK.seq_is (c.fact 252)
  obtain ⟨d_T0_LIFT_ROWS, n_T0_LIFT_ROWS, l_T0_LIFT_ROWS, h_T0_LIFT_ROWS⟩ := HK.seq_is (c.fact 253)
  obtain ⟨k0_T1_LIFT_ROWS, d_T1_LIFT_ROWS, n_T1_LIFT_ROWS, l_T1_LIFT_ROWS, h_T1_LIFT_ROWS⟩ := HK.seq_is (c.fact 254)
  obtain ⟨k0_T2_LIFT_ROWS, d_T2_LIFT_ROWS, n_T2_LIFT_ROWS, l_T2_LIFT_ROWS, h_T2_LIFT_ROWS⟩ := HK.seq_is (c.fact 255)
  obtain ⟨k0_T3_LIFT_ROWS, k1_T3_LIFT_ROWS, d_T3_LIFT_ROWS, n_T3_LIFT_ROWS, l_T3_LIFT_ROWS, h_T3_LIFT_ROWS⟩ := HK.seq_is (c.fact 256)
  obtain ⟨k0_T4_LIFT_ROWS, k1_T4_LIFT_ROWS, d_T4_LIFT_ROWS, n_T4_LIFT_ROWS, l_T4_LIFT_ROWS, h_T4_LIFT_ROWS⟩ := HK.seq_is (c.fact 257)
  obtain ⟨k0_T5_LIFT_ROWS, d_T5_LIFT_ROWS, n_T5_LIFT_ROWS, l_T5_LIFT_ROWS, h_T5_LIFT_ROWS⟩ := HK.seq_is (c.fact 258)
  have g_ROW_CHECKS : PySem.W.nsIn K mainGlobals "ROW_CHECKS" = some (some (.ref (aa_T_ROW_CHECKS K))) := HK.eqB_ok (c.fact 259)
  obtain ⟨es_ROW_CHECKS, n_ROW_CHECKS, h_ROW_CHECKS, y_ROW_CHECKS, _⟩ := HK.dic_ok (c.tab 0)
  have x_ROW_CHECKS_take : PySem.W.nsIn K (aa_T_ROW_CHECKS K) "take" = some (some (.ref (aa_f17 K))) := HK.eqB_ok (c.fact 260)
  have x_ROW_CHECKS_give : PySem.W.nsIn K (aa_T_ROW_CHECKS K) "give" = some (some (.ref (aa_f18 K))) := HK.eqB_ok (c.fact 261)
  have x_ROW_CHECKS_move : PySem.W.nsIn K (aa_T_ROW_CHECKS K) "move" = some (some (.ref (aa_f19 K))) := HK.eqB_ok (c.fact 262)
  have x_ROW_CHECKS_lift : PySem.W.nsIn K (aa_T_ROW_CHECKS K) "lift" = some (some (.ref (aa_f20 K))) := HK.eqB_ok (c.fact 263)
  exact all_mk X G hfa aC pg hd po sa mk kc n_parts x_class x_get x_tk x_mro x_ne x_cls x_ty aC_Tree pg_Tree hd_Tree po_Tree sa_Tree mk_Tree kc_Tree n_above n_struck x_class_Tree x_get_Tree x_tk_Tree x_mro_Tree x_ne_Tree x_cls_Tree x_ty_Tree aC_Course pg_Course hd_Course po_Course sa_Course mk_Course kc_Course nkind nwords ngroup nold nleaves_out a1 l1 c1 k1 a2 l2 c2 k2 a3 l3 c3 k3 a4 l4 c4 k4 a5 l5 c5 k5 a6 i6 l6 c6 k6 t6 u6_0 u6_1 a7 i7 l7 c7 k7 a8 i8 l8 c8 k8 a9 i9 l9 c9 k9 a10 i10 l10 c10 k10 a11 i11 l11 c11 k11 a12 l12 c12 k12 a13 l13 c13 k13 a14 l14 c14 k14 a15 l15 c15 k15 a16 l16 c16 k16 a17 l17 c17 k17 a18 l18 c18 k18 a19 l19 c19 k19 a20 l20 c20 k20 a21 l21 c21 k21 a22 l22 c22 k22 a23 l23 c23 k23 a24 l24 c24 k24 a25 l25 c25 k25 a26 l26 c26 k26 a27 l27 c27 k27 a28 l28 c28 k28 a29 l29 c29 k29 a30 i30 l30 c30 k30 a31 i31 l31 c31 k31 a32 i32 l32 c32 k32 a33 i33 l33 c33 k33 t33 a34 i34 l34 c34 k34 a35 i35 l35 c35 k35 a36 l36 c36 k36 a37 l37 c37 k37 t37 a38 l38 c38 k38 a39 l39 c39 k39 a40 l40 c40 k40 a41 l41 c41 k41 a42 l42 c42 k42 a43 l43 c43 k43 a44 l44 c44 k44 a45 l45 c45 k45 a46 l46 c46 k46 a47 l47 c47 k47 a48 l48 c48 k48 a49 l49 c49 k49 a50 l50 c50 k50 a51 l51 c51 k51 a52 l52 c52 k52 a53 l53 c53 k53 a54 l54 c54 k54 a55 l55 c55 k55 z_abs z_all z_bool z_dict z_divmod z_enumerate z_int z_isinstance z_len z_list z_max z_min z_range z_repr z_set z_sorted z_str z_tuple g_MOST_BATCH g_MOST_GROUPS g_FAILS h_T_FAILS g_ROW_KINDS h_T_ROW_KINDS g_WAY_WORDS h_T_WAY_WORDS g_LIFT_ROWS h_T_LIFT_ROWS h_T0_LIFT_ROWS h_T1_LIFT_ROWS h_T2_LIFT_ROWS h_T3_LIFT_ROWS h_T4_LIFT_ROWS h_T5_LIFT_ROWS g_ROW_CHECKS h_ROW_CHECKS y_ROW_CHECKS x_ROW_CHECKS_take x_ROW_CHECKS_give x_ROW_CHECKS_move x_ROW_CHECKS_lift
end Hd
open PySem PySem.W PySem.Calls PyProof.Rows in
set_option maxRecDepth 100000 in
set_option maxHeartbeats 0 in
theorem PySem.Challenge.cw_chargeways_k25_whole_take_and_give_plans_holds : PySem.Challenge.rw_chargeways_k25_whole_take_and_give_plans.Holds := by
  w_on; o_law
  refine HandSHeadRun.head_any (r := OpenLaw.row PySem.Challenge.rw_chargeways_k25_whole_take_and_give_plans) (q := view (OpenLaw.row PySem.Challenge.rw_chargeways_k25_whole_take_and_give_plans).prog [72]) (H := Hd.hk) (ob := Hd.ob) (M := 9000) (loose := Hd.loose) (d := HandSHeadRun.topDef (OpenLaw.row PySem.Challenge.rw_chargeways_k25_whole_take_and_give_plans).prog 72) (kwd := []) Hd.ob_eq
    (by kernel_rfl) (fun s => by kernel_rfl) Hd.run (by kernel_rfl) (by kernel_rfl) (by kernel_rfl) (by rfl) (by first | assumption | decide +kernel) (by decide +kernel) ⟨rfl, rfl, rfl, rfl, rfl, by decide +kernel⟩ ?hw ?hc
  case hw => w_witness2
  case hc =>
    refine HK.walkH (l := PySem.Challenge.rw_chargeways_k25_whole_take_and_give_plans) (k := 13) (x := "_law_script") (sp := My.sp_law) rfl (by kernel_rfl) ⟨rfl, by decide, by decide⟩ ?F (fun K H a ns hl hS => My.law_start hS hl)
    intro w mg fa h Y G hmg0
    obtain ⟨K, KX, c⟩ := Y
    have hmg : mg ("law" : PySem.Str) = some (.ref fa) := by
      have e : (HandSHeadRun.topDef (OpenLaw.row PySem.Challenge.rw_chargeways_k25_whole_take_and_give_plans).prog 72).name = ("law" : PySem.Str) := by kernel_rfl
      rw [← e]
      exact hmg0
    obtain ⟨fd, hb, hF⟩ := Hd.all_hk (l := PySem.Challenge.rw_chargeways_k25_whole_take_and_give_plans) KX G hmg c
    exact ⟨K, fd, KX, hb, hF⟩
#print axioms PySem.Challenge.cw_chargeways_k25_whole_take_and_give_plans_holds
